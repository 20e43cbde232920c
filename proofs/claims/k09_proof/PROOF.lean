import PyProof.Rows.All
import Wide.All
import OpenK.AllK
import Wide.FinOn
import PySem.Challenge.RW_rulevoices_k09_whole_desks
import HandS.Head0
import HandS.Head1
import HandS.Head2
import HandS.Head3
import HandS.ForMost
import HandS.AnyAll
import HandS.GenList
import PyProof.TupleOfGen
import PyProof.JoinWalk
import HandS.JoinGen
import HandS.Lambda
import HandS.TupAny
import HandS.Dict
import HandS.Iter
import HandS.TupSets
import HandS.Style
import PyProof.P3In
import PyProof.StrBlock2
import HandS.Text
import HandS.IsInst
import PyProof.Rows.StrTemp
import HandS.EndTab
import HandS.Words
import KE.GoesEnum
import HandS.CallLocal
import HandS.More
import PyProof.SumAny
import KE.KMathGC
import HandS.DictSub
import KE.KRevSl
import PyProof.Rows.SumAny
import HandS.SortInts
import HandS.Small
import HandS.ExcOwn
import KE.KDflt
import HandS.ExcIs
import HandS.ExcField
import KE.KExcIs
import HandS.SetFor
import HandS.Property
import HandS.HeadHook4
import HandS.HeadWalk
set_option Elab.async false
set_option linter.all false
set_option maxRecDepth 100000
set_option maxHeartbeats 0

namespace R09
open PySem PySem.W PySem.Calls PyProof.Rows HandSHeadRun
def nm0 : List PySem.Str := ["__name__",
  "VoiceError",
  "BadWay",
  "NotNow",
  "NotText",
  "InvalidText",
  "NothingToUndo",
  "BadRow",
  "ALLOW",
  "DENY",
  "VOICES",
  "WAYS",
  "turned",
  "turned_at",
  "greater_voice",
  "stretches",
  "MOST_VOICES",
  "check_way",
  "check_row",
  "check_text"]
def nm1 : List PySem.Str := ["_first_wrong",
  "_SIGN_OF",
  "text_of",
  "_first",
  "_last",
  "_always_allow",
  "_always_deny",
  "_allow_over",
  "_deny_over",
  "_most_or_allow",
  "_most_or_deny",
  "_most_or_first",
  "_most_or_last",
  "_most_or",
  "_odd",
  "_both_ends",
  "_island",
  "_ANSWERS",
  "told_answer",
  "answer"]
def nm2 : List PySem.Str := ["matters",
  "Desk",
  "_law_taken",
  "_law_pick",
  "_law_alike",
  "_law_ways",
  "_law_turned",
  "_law_answer",
  "_law_word",
  "_law_voices",
  "_law_flip",
  "_law_told",
  "_law_shown"]
abbrev R0 : PySem.W.OpenRow := PySem.W.OpenLaw.row PySem.Challenge.rw_rulevoices_k09_whole_desks
abbrev qv : Program := PySem.W.view R0.prog [59]
abbrev nms : List PySem.Str := nm0 ++ nm1 ++ nm2
theorem looks_false (w : World) (os : OsState) : (endF (stepQ (denQ tabQ) R0.prog (w.withFollow "special-get-raises" false)) 12000 R0.prog (w.withFollow "special-get-raises" false) os).map (fun x => looksF R0.prog (boot_heap (w.withFollow "special-get-raises" false).params) x.abs) = some true := by kernel_rfl
theorem seen_false (w : World) (os : OsState) : (endF (stepQ (denQ tabQ) R0.prog (w.withFollow "special-get-raises" false)) 12000 R0.prog (w.withFollow "special-get-raises" false) os).map (fun x => seenQ qv nms (importedModules R0.prog.main.body) (fun s => xlAt qv [] s && recOk R0.toRowW.records s) x.abs) = some (openGood qv nms) := by kernel_rfl
theorem looks_true (w : World) (os : OsState) : (endF (stepQ (denQ tabQ) R0.prog (w.withFollow "special-get-raises" true)) 12000 R0.prog (w.withFollow "special-get-raises" true) os).map (fun x => looksF R0.prog (boot_heap (w.withFollow "special-get-raises" true).params) x.abs) = some true := by kernel_rfl
theorem seen_true (w : World) (os : OsState) : (endF (stepQ (denQ tabQ) R0.prog (w.withFollow "special-get-raises" true)) 12000 R0.prog (w.withFollow "special-get-raises" true) os).map (fun x => seenQ qv nms (importedModules R0.prog.main.body) (fun s => xlAt qv [] s && recOk R0.toRowW.records s) x.abs) = some (openGood qv nms) := by kernel_rfl
end R09
set_option Elab.async false
set_option linter.all false
set_option maxRecDepth 100000
set_option maxHeartbeats 1000000
namespace GX
open PySem PySem.Spec PyProof.Rows L2 GenW

theorem over_S {A : Around} {it acc : Value} {env : Env} {elt : Expr} {gs : List Comprehension} {sc : Scope} {pos : Pos} : A.over (.compStart (.GeneratorExp elt gs sc pos) 0 it acc env) [] = A.deeper env := by rfl
theorem over_L {A : Around} {it acc : Value} {env : Env} {elt : Expr} {gs : List Comprehension} {sc : Scope} {pos : Pos} : A.over (.compLoop (.GeneratorExp elt gs sc pos) 0 it acc env) [] = A.deeper env := by rfl

/-- the context of a generator expression's own frame, made at s -/
abbrev gcx (X : L2.Cx) (s : Shared) (H : Hp) (cenv : Env) (A : Around) (fp : List Addr) : L2.Cx :=
  { X with s_0 := s, H_0 := H, env := cenv, A := A, outer := X.stack, stack := cenv :: X.stack, ex := fp, fn := fun _ => false, pn := [], xe := fun _ _ => False }

/-- the names of a generator expression: its own (with their places in N), or captured -/
structure GOk (N : List Str) (sc scope : Scope) (own : List (Str × Nat)) : Prop where
  kind : scope.kind = .function
  co : scope.isCoroutine = false
  cell : ∀ y ∈ scope.names, y.2 ≠ .cell
  dot : scope.names.lookup (".0" : Str) = some NameKind.local
  ix : ∀ p ∈ own, N[p.2]? = some p.1
  free : ∀ y ∈ scope.names, y.2 = .free → sc.names.lookup y.1 = some .cell ∨ sc.names.lookup y.1 = some .free
  own : ∀ y ∈ scope.names, y.2 = .local → y.1 ∈ own.map (·.1) ∨ y.1 ∉ N

section
variable {X : L2.Cx} {pins : List (Addr × Obj)} {σ : L2.St} {H : Hp} {s : Shared}
theorem GOk.has {scope : Scope} {own : List (Str × Nat)} (ok : GOk X.N X.env.scope scope own) (I : Inv X pins σ H s) : ∀ y ∈ scope.names, y.2 = .free → ∃ c, X.env.cells.lookup y.1 = some c := fun y hy e => by
  rcases ok.free y hy e with k | k
  · exact I.ok.has _ (.inl k)
  · exact I.ok.has _ (.inr k)

/-- the frame, as it stands whenever the generator is woken -/
theorem gen_start {scope : Scope} {own : List (Str × Nat)} {fp : List Addr} {code it : Value} {A : Around} {h' : Heap} {go : Obj} {s2 : Shared}
    (I : Inv X pins σ H s) (ok : GOk X.N X.env.scope scope own) (hN : X.N.Nodup) (hfp : ∀ b ∈ fp, FpOk X pins H b ∧ b < s.heap.objs.size)
    (hn' : h'.Ns s.heap.objs.size (fun y => if y = ".0" then some it else none)) (hs' : Heap.SameBut s.heap.objs.size (s.heap.push { cls := .type "frame", data := .dict #[] }) h')
    (hgo : ∀ v, go.data ≠ .cell v) (hgp : ∀ h : Heap, (h.push go).get? h.objs.size = some go)
    (hh : A.handled = none) (hfr : A.frames = some (genEnv scope (cloFrom X.env.cells scope.names []) s.heap.objs.size code builtinsNs X.env :: X.stack))
    (hk : ∀ b o, (h'.push go).get? b = some o → s2.heap.get? b = some o) (hos : s2.os = s.os) (hb : AllBare s2.gens) :
    Inv (gcx X s H (genEnv scope (cloFrom X.env.cells scope.names []) s.heap.objs.size code builtinsNs X.env) A fp) [(h'.objs.size, go)] (wipe σ (own.map (·.2))) H s2 := by
  have hfree := ok.has I
  generalize hcenv : genEnv scope (cloFrom X.env.cells scope.names []) s.heap.objs.size code builtinsNs X.env = cenv at hfr ⊢
  have hsz : h'.objs.size = s.heap.objs.size + 1 := by rw [hs'.1, Heap.size_push]
  have kp1 : ∀ b o, s.heap.get? b = some o → h'.get? b = some o := fun b o e => hs'.extBut b o (Nat.ne_of_lt (Heap.lt_size e)) (Heap.get?_push_of_some _ e)
  have kp : ∀ b o, s.heap.get? b = some o → s2.heap.get? b = some o := fun b o e => hk b o (Heap.get?_push_of_some _ (kp1 b o e))
  have hL : cenv.locals = s.heap.objs.size := by rw [← hcenv] <;> rfl
  have hcl : cenv.cells = cloFrom X.env.cells scope.names [] := by rw [← hcenv] <;> rfl
  have hsc : cenv.scope = scope := by rw [← hcenv] <;> rfl
  have cm : ∀ {y c}, (y, c) ∈ cloFrom X.env.cells scope.names [] → X.env.cells.lookup y = some c ∧ c < s.heap.objs.size := fun {y c} hm => by
    rcases cloFrom_mem hm with hm | ⟨h1, rfl⟩
    · cases hm
    · obtain ⟨c, hc⟩ := hfree _ h1 rfl
      rw [hc]
      obtain ⟨w, z⟩ := I.cell _ _ hc
      exact ⟨rfl, z.lt⟩
  have mem : ∀ {y c}, cenv.cells.lookup y = some c → X.env.cells.lookup y = some c ∧ c < s.heap.objs.size := fun {y c} e => by
    rw [hcl] at e
    exact cm (PySem.mem_of_lookup e)
  have look : ∀ {y}, scope.names.lookup y = some .free → ∃ c, cenv.cells.lookup y = some c ∧ X.env.cells.lookup y = some c := fun {y} hl => by
    have hy : (y, NameKind.free) ∈ scope.names := PySem.mem_of_lookup hl
    obtain ⟨c', e'⟩ := mem_lookup (cloFrom_has (cells := X.env.cells) (acc := []) hy)
    rw [← hcl] at e'
    exact ⟨c', e', (mem e').1⟩
  have okG : (gcx X s H cenv A fp).Ok := by
    refine ⟨I.ok.mod, by show cenv.scope.kind = _; rw [hsc]; exact ok.kind, by show cenv.globals = _; rw [← hcenv]; exact I.ok.glob, by show cenv.builtins = _; rw [← hcenv] <;> rfl, by show s.heap.objs.size ≤ cenv.locals; rw [hL]; exact Nat.le_refl _,
      fun y z c e1 e2 => ?_, fun y hy => ?_, fun y c z e => ?_, fun _ => hh, hfr, .inr ⟨rfl, by show cenv.frame = some cenv.locals; rw [← hcenv] <;> rfl⟩, fun b hb => ⟨?_, fun y c e z => ?_⟩, I.bs, Nat.le_trans I.ok.bsz I.sz, fun b o e hb => ?_, fun b hb z => ?_, I.stack, I.stkFree⟩
    · exact I.ok.inj y z c (mem e1).1 (mem e2).1
    · have hy : cenv.scope.names.lookup y = some .cell ∨ cenv.scope.names.lookup y = some .free := hy
      rw [hsc] at hy
      rcases hy with hy | hy
      · exact absurd rfl (ok.cell _ (PySem.mem_of_lookup hy))
      · obtain ⟨c, h1, _⟩ := look hy
        exact ⟨c, h1⟩
    · exact absurd (show false = true from z) Bool.false_ne_true
    · show b ≠ cenv.locals
      rw [hL]; exact Nat.ne_of_lt (hfp b hb).2
    · exact (hfp b hb).1.2.2.2.2.1 y c (mem e).1 z
    · rcases (hfp b hb).1.2.2.2.1 with z | z
      · exact I.ok.noex b o e z
      · exact absurd (Nat.lt_of_lt_of_le (Heap.lt_size e) (Nat.le_trans I.ok.bsz z)) (Nat.lt_irrefl _)
    · rcases List.mem_cons.mp (I.stkSub b z) with z | z
      · exact (hfp b hb).1.2.1 z
      · exact (hfp b hb).1.2.2.1 z
  refine ⟨okG, hos, hb, Un.kept kp, ⟨fun y => if y = ".0" then some it else none, ?_, fun i y av e1 e2 e3 => ?_⟩, fun y c e => ?_, ?_, fun y c e => ?_, fun p hp => ?_, I.hok.kept kp, by rw [wipe_length]; exact I.len⟩
  · show Heap.Ns _ cenv.locals _
    rw [hL]
    exact Heap.Ns.keeps hn' fun b o e => hk b o (Heap.get?_push_of_some _ e)
  · obtain ⟨e2, hne⟩ := wipe_some e2
    have e3 : Vis cenv.scope y := e3
    have hfr : scope.names.lookup y = some .free := by
      unfold Vis at e3
      rw [hsc] at e3
      rcases e3 with k | k | k
      · rcases ok.own _ (PySem.mem_of_lookup k) rfl with e' | e'
        · obtain ⟨p, hp, hpy⟩ := List.mem_map.mp e'
          have e4 := ok.ix p hp
          have e5 : p.1 = y := hpy
          rw [e5] at e4
          exact absurd (List.mem_map.mpr ⟨p, hp, nodup_ix hN e4 e1⟩) hne
        · exact absurd (List.mem_of_getElem? e1) e'
      · exact absurd rfl (ok.cell _ (PySem.mem_of_lookup k))
      · exact k
    obtain ⟨m, hn, hl⟩ := I.loc
    have hvis : Vis X.env.scope y := (ok.free _ (PySem.mem_of_lookup hfr) rfl).elim (fun k => .inr (.inl k)) (fun k => .inr (.inr k))
    obtain ⟨w, r, q⟩ := hl i y av e1 e2 hvis
    refine ⟨w, r, .inr ⟨.inr (by show cenv.scope.names.lookup y = _; rw [hsc]; exact hfr), ?_⟩⟩
    obtain ⟨c, h1, h2⟩ := look hfr
    rcases q with ⟨k, _⟩ | ⟨_, c', e', z⟩
    · have k : X.env.scope.names.lookup y = some .local := k
      rcases ok.free _ (PySem.mem_of_lookup hfr) rfl with k' | k' <;> rw [show X.env.scope.names.lookup y = _ from k'] at k <;> cases k
    · rw [h2] at e'; cases e'
      exact ⟨c, h1, z.keeps kp⟩
  · obtain ⟨h1, _⟩ := mem e
    obtain ⟨w, z⟩ := I.cell y c h1
    exact ⟨w, z.keeps kp⟩
  · show H cenv.locals = none
    rw [hL]; exact I.hok.fresh (Nat.le_refl _)
  · exact I.freeC y c (mem e).1
  · have hp : p = (h'.objs.size, go) := by
      have : p ∈ [(h'.objs.size, go)] := hp
      simpa using this
    subst hp
    refine ⟨hk _ _ (hgp _), I.hok.fresh (by show s.heap.objs.size ≤ h'.objs.size; omega), ?_, fun hm => ?_, hgo⟩
    · show h'.objs.size ≠ cenv.locals
      rw [hL, hsz]; exact Nat.succ_ne_self _
    · have hm : h'.objs.size ∈ frs X.stack := hm
      rcases List.mem_cons.mp (I.stkSub _ hm) with z | z
      · have h3 : X.env.locals < s.heap.objs.size := I.lt
        rw [← z] at h3
        have h4 : s.heap.objs.size < h'.objs.size := by rw [hsz]; exact Nat.lt_succ_self _
        exact absurd (Nat.lt_trans h3 h4) (Nat.lt_irrefl _)
      · exact I.nofs (a := h'.objs.size) (by rw [hsz]; exact Nat.le_succ _) z
end
end GX
set_option Elab.async false
set_option linter.all false
set_option maxRecDepth 100000
set_option maxHeartbeats 1000000
namespace GX
open PySem PySem.Spec PyProof.Rows L2 GenW

/-- amid a walk: the iterator at turn i, the pins that the consumer knows -/
def SG (Z : L2.Cx) (σ0 : L2.St) (fp : List Addr) (tn : Nat → Heap → Prop) {κ : Type} (PO : κ → List (Addr × Obj) → Prop) (i : Nat) (k : κ) (H : Hp) (s : Shared) : Prop :=
  tn i s.heap ∧ (∀ b ∈ fp, H b = none) ∧ ∃ pins, PO k pins ∧ Inv Z pins σ0 H s ∧ ∀ b ∈ fp, ∀ p ∈ pins, p.1 ≠ b

structure GTurn {κ : Type} (J : It) (g : TG) (tt : TT) (te : TE) (vs : List Nat) (σ0 : L2.St) (W : Nat → Nat → κ → Hp → Prop) (Zd : κ → Hp → Prop) (Yd : Nat → Nat → κ → V → Hp → Prop) : Prop where
  turn : ∀ i m k H, W i m k H → (J.stop i H ∧ Zd k H) ∨ (J.go i H ∧ ∀ x H', J.yld i H x H' → g x σ0 H' fun σ2 H2 => wipe σ2 vs = σ0 ∧ tt σ2 H2 fun b H3 =>
    if b = true then te σ2 H3 fun y H4 => Yd i m k y H4 else ∃ m', m' < m ∧ W (i + 1) m' k H3)

section
variable {Z : L2.Cx} {A : Around} {R : GenEnd} {Y : Protocol} {κ : Type} {J : It} {tg elt iter : Expr} {ifs : List Expr} {scope : Scope} {pos : Pos} {it : Addr} {fp : List Addr} {tn : Nat → Heap → Prop} {σ0 : L2.St} {g : TG} {tt : TT} {te : TE} {vs : List Nat}
  {PO : κ → List (Addr × Obj) → Prop} {W : Nat → Nat → κ → Hp → Prop} {Zd : κ → Hp → Prop} {Yd : Nat → Nat → κ → V → Hp → Prop} {Fu : Nat → κ → Nat → Prop}

theorem seg_gx (hA : Z.A = A.deeper Z.env) (hxe : Z.xe = fun _ _ => False) (hc : Z.calm = true) (hpn : Z.pn = []) (hex : Z.ex = fp) (hco : Z.env.scope.isCoroutine = false)
    (T : Turn Z.prog Z.w Z.K tg J fp it tn) (pg : PG Z tg g) (pt : PTs Z ifs tt) (pe : PE Z elt te)
    (gt : GTurn J g tt te vs σ0 W Zd Yd)
    (hF : ∀ n k m m', Fu n k m → m' < m → Fu n k m')
    (hpos : ∀ n i m k y H, Fu n k m → Yd i m k y H → 0 < n)
    (hZ : ∀ n s₀ s k m pins H, Fu n k m → PO k pins → Inv Z pins σ0 H s → Zd k H → R n s₀ (.ok .next) s)
    (hY : ∀ n s₀ v s i m k y H kap, Fu (n + 1) k m → SG Z σ0 fp tn PO (i + 1) k H s → RelV y v → Yd i m k y H →
      (∀ s' k' m' H', m' < m → Fu n k' m' → W (i + 1) m' k' H' → SG Z σ0 fp tn PO (i + 1) k' H' s' → kap (.send .none) s') → Y n s₀ v s kap) :
    ∀ (m n i : Nat) (k : κ) (H : Hp) (s₀ s : Shared), Fu n k m → W i m k H → SG Z σ0 fp tn PO i k H s →
      Seg (model Z.prog Z.w) A R Y n s₀ (.compLoop (.GeneratorExp elt [⟨tg, iter, ifs, 0⟩] scope pos) 0 (.ref it) .none Z.env)
        ((model Z.prog Z.w).den (.compLoop (.GeneratorExp elt [⟨tg, iter, ifs, 0⟩] scope pos) 0 (.ref it) .none Z.env)) [] s := by
  intro m
  induction m using Nat.strongRecOn with
  | ind m ih =>
    intro n i k H s₀ s hfu hw hS
    obtain ⟨st, nfp, pins, hPO, I, hpf⟩ := hS
    have fpok : ∀ {pins : List (Addr × Obj)} {σ' : L2.St} {H' : Hp} {s' : Shared}, Inv Z pins σ' H' s' → (∀ b ∈ fp, H' b = none) → (∀ b ∈ fp, ∀ p ∈ pins, p.1 ≠ b) → ∀ b ∈ fp, FpOk Z pins H' b := fun {pins σ' H' s'} I' hn hq b hb =>
      ⟨hn b hb, (I'.ok.exf b (by rw [hex]; exact hb)).1, I'.ok.exfs b (by rw [hex]; exact hb), .inl (by rw [hex]; exact hb), fun x c e => (I'.ok.exf b (by rw [hex]; exact hb)).2 x c e, fun p hp => by
        rw [hpn] at hp
        exact hq b hb p (by simpa using hp)⟩
    have ov : A.over (.compLoop (.GeneratorExp elt [⟨tg, iter, ifs, 0⟩] scope pos) 0 (.ref it) .none Z.env) [] = Z.A := by rw [hA]; exact over_L
    show Seg _ A _ _ _ s₀ _ ((compTurn (.GeneratorExp elt [⟨tg, iter, ifs, 0⟩] scope pos) 0 (.ref it) .none Z.env).onRaise (leaving Z.env)) [] s
    rw [compTurn_gen, Sem.onRaise_eq_wrap]
    refine seg_bind_wrap (wpAny_standAt ?_)
    rcases gt.turn i m k H hw with ⟨stop, zd⟩ | ⟨go, step⟩
    · have td := T.done Z rfl rfl rfl hc i pins s _ H (fun _ _ => False) I (fpok I nfp hpf) st stop
      refine seg_bind_wrap ?_
      rw [ov]
      refine thnF td fun r s6 ⟨hr, I6⟩ => ?_
      subst hr
      exact seg_end (.ok .next) (hZ n s₀ s6 k m pins H hfu hPO I6 zd)
    · have ti := T.item Z rfl rfl rfl hc i pins s _ H (fun _ _ => False) I (fpok I nfp hpf) st go
      refine seg_bind_wrap ?_
      rw [ov]
      refine thnF ti fun r s6 ⟨u, hr, h6⟩ => ?_
      subst hr
      refine seg_bind_wrap ?_
      rw [ov]
      refine thnF h6 fun _ s7 ⟨x, H7, I7, r7, y7, st7, n7⟩ => ?_
      have I7' := I7.pinned (fpok I7 n7 hpf) (T.obj _ _ st7)
      refine seg_bind_wrap ?_
      rw [ov]
      have hxe' : ∀ e s', Z.xe e s' → False := fun e s' z => by rw [hxe] at z; exact z
      refine wpAny_mono (pg.run _ s7 _ H7 x u _ I7' r7 (step x H7 y7)) (fun _ s8 ⟨σ8, H8, I8, hw8, q8⟩ => ?_) fun e s' z => (hxe' e s' z).elim
      refine seg_bind_wrap ?_
      rw [ov]
      refine wpAny_mono (pt.run _ s8 σ8 H8 _ I8 q8) (fun b s9 ⟨H9, I9, q9⟩ => ?_) fun e s' z => (hxe' e s' z).elim
      have fin : ∀ {s' : Shared} {H' : Hp}, Inv Z (pins ++ pinsAt fp s7.heap) σ8 H' s' → SG Z σ0 fp tn PO (i + 1) k H' s' := fun {s' H'} I' => by
        have pin' : ∀ b ∈ fp, ∀ o, s7.heap.get? b = some o → s'.heap.get? b = some o ∧ H' b = none := fun b hb o e =>
          let z := I'.pin (b, o) (List.mem_append_right _ (List.mem_append_right _ (mem_pinsAt hb e)))
          ⟨z.1, z.2.1⟩
        have hl : σ0.length = σ8.length := by rw [← hw8, wipe_length]
        refine ⟨T.keep _ _ _ st7 fun b hb o e => (pin' b hb o e).1, fun b hb => ?_, pins, hPO, (I'.unpinned (pins := pins)).weak hl (fun j v e => ?_), hpf⟩
        · obtain ⟨o, e, _⟩ := T.obj _ _ st7 b hb
          exact (pin' b hb o e).2
        · rw [← hw8] at e
          exact (wipe_some e).1
      cases b with
      | false =>
        simp only [Bool.false_eq_true, if_false] at q9 ⊢
        obtain ⟨m', hm, w'⟩ := q9
        exact seg_again rfl (ih m' hm n (i + 1) k H9 s₀ s9 (hF n k m m' hfu hm) w' (fin I9))
      | true =>
        simp only [if_true] at q9 ⊢
        have hy : ∀ v, yieldOut Z.env v = yieldValue v := fun v => by simp only [yieldOut, hco, Bool.false_eq_true, if_false]
        simp only [hy]
        rw [Sem.bind_eq_wrap', Sem.bind_eq_wrap', Sem.wrap_wrap, Sem.wrap_wrap]
        refine seg_wrap ?_
        rw [ov]
        refine wpAny_mono (pe.run _ s9 σ8 H9 _ I9 q9) (fun z s10 ⟨yv, H10, I10, r10, q10⟩ => ?_) fun e s' z => (hxe' e s' z).elim
        have hn := hpos n i m k yv H10 hfu q10
        obtain ⟨n, rfl⟩ : ∃ n', n = n' + 1 := ⟨n - 1, by omega⟩
        refine seg_at (seg_yield rfl rfl rfl (hY n s₀ z s10 i m k yv H10 _ hfu (fin I10) r10 q10 fun s' k' m' H' hm' hfu' w' hS' => ?_))
        exact seg_again rfl (ih m' hm' n (i + 1) k' H' s' s' hfu' w' hS')
theorem seg_gx0 (hA : Z.A = A.deeper Z.env) (hh : A.handled = none) (T : Turn Z.prog Z.w Z.K tg J fp it tn) {n i : Nat} {s₀ s : Shared} (st : tn i s.heap)
    (loop : Seg (model Z.prog Z.w) A R Y n s₀ (.compLoop (.GeneratorExp elt [⟨tg, iter, ifs, 0⟩] scope pos) 0 (.ref it) .none Z.env)
        ((model Z.prog Z.w).den (.compLoop (.GeneratorExp elt [⟨tg, iter, ifs, 0⟩] scope pos) 0 (.ref it) .none Z.env)) [] s) :
      Seg (model Z.prog Z.w) A R Y n s₀ (.compStart (.GeneratorExp elt [⟨tg, iter, ifs, 0⟩] scope pos) 0 (.ref it) .none Z.env)
        ((model Z.prog Z.w).den (.compStart (.GeneratorExp elt [⟨tg, iter, ifs, 0⟩] scope pos) 0 (.ref it) .none Z.env)) [] s := by
  show Seg _ A R Y n s₀ _ ((compStart (.GeneratorExp elt [⟨tg, iter, ifs, 0⟩] scope pos) 0 (.ref it) .none Z.env).onRaise (leaving Z.env)) [] s
  unfold compStart
  rw [Sem.onRaise_eq_wrap]
  show Seg _ A R Y n s₀ _ ((ask >>= _).wrap _ _ _ _) [] s
  refine seg_bind_wrap (wpAny_askSetting ?_)
  split
  · exact seg_again rfl loop
  · first
      | exact seg_bind_wrap (wpAny_rule (seg_bind_wrap (wpAny_standAt (seg_bind_wrap (T.self _ i s _ _ st (seg_again rfl loop))))))
      | (refine seg_bind_wrap (wpAny_rule ?_); show Seg _ A _ _ _ s₀ _ ((standAt iter.pos >>= _).wrap _ _ _ _) [] s; exact seg_bind_wrap (wpAny_standAt (seg_bind_wrap (T.self _ i s _ _ st (seg_again rfl loop)))))
end
end GX
set_option Elab.async false
set_option linter.all false
set_option maxRecDepth 100000
set_option maxHeartbeats 1000000
namespace GX
open PySem PySem.Spec PyProof.Rows L2 GenW GxR

/-- a generator that has not begun: how it goes on when it is woken -/
structure Made (X : L2.Cx) (pins : List (Addr × Obj)) (σ : L2.St) (own : List (Str × Nat)) (tg elt iter : Expr) (ifs : List Expr) (scope : Scope) (pos : Pos) (J : It) (H : Hp) (a g : Nat) (sc s5 : Shared) (cenv : Env) (fp : List Addr) (it : Addr) (tn : Nat → Heap → Prop) (go : Obj) : Prop where
  inv : Inv X pins σ H sc
  turn : Turn X.prog X.w X.K tg J fp it tn
  fpok : ∀ b ∈ fp, FpOk X pins H b ∧ b < sc.heap.objs.size
  sz : sc.heap.objs.size < a
  sz5 : s5.heap.objs.size = a + 1
  st : s5.gens[g]? = some (.fresh (.compStart (.GeneratorExp elt [⟨tg, iter, ifs, 0⟩] scope pos) 0 (.ref it) .none cenv))
  os : s5.os = sc.os
  bare : AllBare s5.gens
  lim : s5.heap.NoLimit
  kept : ∀ b o, sc.heap.get? b = some o → s5.heap.get? b = some o
  at5 : s5.heap.get? a = some go
  gen : ∀ h : Heap, h.get? a = some go → h.IsGen a g
  cell : ∀ v, go.data ≠ .cell v
  scope : cenv.scope = scope
  wake : ∀ (A : Around) (s2 : Shared), A.handled = none → A.frames = some X.stack → (∀ b o, s5.heap.get? b = some o → s2.heap.get? b = some o) → s2.os = sc.os → AllBare s2.gens →
    tn 0 s2.heap ∧ Inv (gcx X sc H cenv (A.deeper cenv) fp) [(a, go)] (wipe σ (own.map (·.2))) H s2

section
variable {X : L2.Cx} {pins : List (Addr × Obj)} {σ : L2.St} {H : Hp} {s : Shared}
theorem gx_make {c P : Addr} {elt iter tg : Expr} {ifs : List Expr} {gpos : Pos} {scope : Scope} {own : List (Str × Nat)} {wi : TI} {k : Nat} {Q' : Value → Shared → Prop} {R : It → Hp → Prop}
    (hr : Room k X.A) (TB : TabB X.base X.mg c P) (hcode : X.env.code = .ref c) (ok : GOk X.N X.env.scope scope own) (hN : X.N.Nodup) (hi : PI X tg iter wi)
    (hs : ∀ v, genFold iter X.env v = pure v) (I : Inv X pins σ H s) (h : wi σ H fun J H1 => TabG H1 P ∧ ∀ H2, Tabbed P H1 H2 → R J H2)
    (hQ : ∀ J H2 a g sc s5 C code fp it tn go, R J H2 →
      Made X pins σ own tg elt iter ifs scope gpos J H2 a g sc s5 (genEnv scope (cloFrom X.env.cells scope.names []) C code builtinsNs X.env) fp it tn go → Q' (.ref a) s5) :
    wpAny (model X.prog X.w) X.A (eval (.GeneratorExp elt [⟨tg, iter, ifs, 0⟩] scope gpos) X.env) Q' X.xe s := by
  have hfree := ok.has I
  refine wpAny_GeneratorExp_make ok.co (closure_ok hfree) ok.cell ok.dot ok.kind (by have := hr.dp; omega) ?_ hs
  refine thn (hi.run pins s σ H _ I h) fun xv s1 h1 => thn h1 fun itv s2 h2 => ?_
  obtain ⟨it, fp, tn, J, H1, e, I2, T, st2, f2, ⟨ps, hP, ht⟩, hR⟩ := h2
  subst e
  have hPs : s2.heap.get? P = some { cls := .none, data := .fields ps } := I2.hok P _ hP
  have hPlt : P < s2.heap.objs.size := Heap.lt_size hPs
  have cd : PySem.W.CodeHd s2.heap c P := TB.code.keeps fun b u e => I2.bk b u e
  have lim2 : s2.heap.NoLimit := I2.nolimit
  have cont : ∀ (code : Value) (h3 : Heap) (tk : Nat) (more : Array Value), Heap.ExtBut P s2.heap h3 → s2.heap.objs.size ≤ h3.objs.size → h3.get? P = some { cls := .none, data := .fields (ps ++ more) } → TriplesOk (ps ++ more).toList →
      wpAny (model X.prog X.w) X.A (builtinsFor X.env.globals X.env.builtins) (fun bi s₄ =>
        ∀ h', h'.Ns s₄.heap.objs.size (fun y => if y = ".0" then some (.ref it) else none) → Heap.SameBut s₄.heap.objs.size (s₄.heap.push { cls := .type "frame", data := .dict #[] }) h' →
          Q' (.ref h'.objs.size) { s₄ with
            gens := s₄.gens.push (.fresh (.compStart (.GeneratorExp elt [⟨tg, iter, ifs, 0⟩] scope gpos) 0 (.ref it) .none (genEnv scope (cloFrom X.env.cells scope.names []) s₄.heap.objs.size code bi X.env))),
            toks := s₄.toks + 1 + 1 + 1,
            heap := h'.push { cls := .type "generator", data := .fields #[.int s₄.gens.size 0, .str "<genexpr>" (s₄.toks + 1), .str (X.env.qual ++ "<genexpr>") (s₄.toks + 1 + 1)] } }) X.xe { s2 with heap := h3, toks := tk } := by
    intro code h3 tk more hx hsz hP3 ht3
    obtain ⟨bm, ob, e1, e2, e3, e4, e5, e6, e7, e8⟩ := TB.bm
    have keep3 : ∀ b u, b ≠ P → s2.heap.get? b = some u → h3.get? b = some u := fun b u hb e => hx b u hb e
    refine wpAny_builtinsFor (m := X.mg) (by rw [I2.ok.glob]; exact (I2.mod.glob.keeps I2.bk).extBut hx TB.gP) e1 e2 (keep3 _ _ e4 (I2.bk _ _ e5)) e6 e7 e8 ?_
    have I3 : Inv X pins σ (upd H1 P (.tbl (ps ++ more))) { s2 with heap := h3, gens := s2.gens, drawn := s2.drawn, toks := tk } := inv_tab I2 hP keep3 hP3 I2.bare
    have hT : Tabbed P H1 (upd H1 P (.tbl (ps ++ more))) := ⟨⟨ps ++ more, upd_same, ht3⟩, fun b hb => upd_ne hb⟩
    have fne : ∀ b ∈ fp, b ≠ P := fun b hb z => by
      have := (f2 b hb).1
      rw [z, hP] at this
      cases this
    have f3 : ∀ b ∈ fp, FpOk X pins (upd H1 P (.tbl (ps ++ more))) b ∧ b < h3.objs.size := fun b hb => by
      refine ⟨⟨by rw [upd_ne (fne b hb)]; exact (f2 b hb).1, (f2 b hb).2⟩, ?_⟩
      obtain ⟨o, e, _⟩ := T.obj _ _ st2 b hb
      exact Nat.lt_of_lt_of_le (Heap.lt_size e) hsz
    have st3 : tn 0 h3 := T.keep _ _ _ st2 fun b hb o e => keep3 b o (fne b hb) e
    intro h' hn' hs'
    have hsz' : h'.objs.size = h3.objs.size + 1 := by rw [hs'.1, Heap.size_push]
    have kp1 : ∀ b o, h3.get? b = some o → h'.get? b = some o := fun b o e => hs'.extBut b o (Nat.ne_of_lt (Heap.lt_size e)) (Heap.get?_push_of_some _ e)
    refine hQ J (upd H1 P (.tbl (ps ++ more))) h'.objs.size s2.gens.size { s2 with heap := h3, toks := tk } _ h3.objs.size code fp it tn
      { cls := .type "generator", data := .fields #[.int s2.gens.size 0, .str "<genexpr>" (tk + 1), .str (X.env.qual ++ "<genexpr>") (tk + 1 + 1)] } (hR _ hT)
      ⟨I3, T, f3, by show h3.objs.size < _; rw [hsz']; exact Nat.lt_succ_self _, Heap.size_push .., Array.getElem?_push_size .., rfl, AllBare.push I3.bare rfl, (I3.nolimit.keeps kp1).push _, fun b o e => Heap.get?_push_of_some _ (kp1 b o e),
        Heap.get?_push_size _ rfl, fun h e => ⟨_, _, _, e, rfl, rfl, rfl⟩, (fun v q => by cases q), rfl, fun A s3 hh hfr hk hos hb => ⟨?_, ?_⟩⟩
    · exact T.keep _ _ _ st3 fun b _ o e => hk b o (Heap.get?_push_of_some _ (kp1 b o e))
    · exact gen_start (s := { s2 with heap := h3, toks := tk }) I3 ok hN f3 hn' hs' (fun v q => by cases q) (fun h => Heap.get?_push_size _ rfl) hh (by show Option.map _ A.frames = _; rw [hfr] <;> rfl) hk hos hb
  refine ⟨lim2, ?_⟩
  cases hf : codeAmong gpos ps.toList with
  | none =>
    refine wpAny_genexprCodeX hcode (cd.code hPs ht) (cd.tab hPs) hf fun c' h' tk hx hge hlt hco' _ htab' _ => ?_
    obtain ⟨o1, vs, f1, tf, fl, tg, inF, tx, tt, op, _, _, _, _, _, _, _, _, _, htr, _⟩ := hco'
    exact cont _ h' tk _ hx (Nat.le_trans hge (Nat.le_of_lt hlt)) htab'.2 htr
  | some cv =>
    refine wpAny_genexprCode_hit hcode (cd.code hPs ht) hf ?_
    exact cont cv s2.heap s2.toks #[] (Heap.ExtBut.refl _ _) (Nat.le_refl _) (by simpa using hPs) (by simpa using ht)
end
end GX
set_option Elab.async false
set_option linter.all false
set_option maxRecDepth 100000
set_option maxHeartbeats 1000000
namespace GX
open PySem PySem.Spec PyProof.Rows L2 GenW GxR

/-- between two turns nothing is changed -/
structure Bet (s s' : Shared) : Prop where
  os : s'.os = s.os
  bare : AllBare s'.gens
  kept : ∀ b o, s.heap.get? b = some o → s'.heap.get? b = some o
def YA (X : L2.Cx) (sc : Shared) (H : Hp) (fp : List Addr) (a g : Nat) (stp : Bool) (Qs : Hp → Prop) : Protocol := fun n s₀ v s kap =>
  s.os = sc.os ∧ AllBare s.gens ∧ s.heap.NoLimit ∧ s.heap.IsGen a g ∧ ∃ b H', v = Value.bool b ∧ Un (frs X.stack) fp H H' sc.heap s.heap ∧ HOk X.prog X.w H' s.heap ∧
    if b = stp then Qs H' else ∀ s', Bet s s' → kap (.send .none) s'
def EA (X : L2.Cx) (sc : Shared) (H : Hp) (fp : List Addr) (Qe : Hp → Prop) (n : Nat) (s₀ s : Shared) : Prop :=
  s.os = sc.os ∧ AllBare s.gens ∧ ∃ H', Un (frs X.stack) fp H H' sc.heap s.heap ∧ HOk X.prog X.w H' s.heap ∧ Qe H'
def RA (X : L2.Cx) (sc : Shared) (H : Hp) (fp : List Addr) (Qe : Hp → Prop) : GenEnd := fun n s₀ r s => r = .ok .next ∧ EA X sc H fp Qe n s₀ s

section
variable {X : L2.Cx} {sc : Shared} {H : Hp} {fp : List Addr} {a g : Nat} {Qs Qe : Hp → Prop} {A : Around} {R : Result → Shared → Prop}
theorem all_loop (hh : A.handled = none) (hd : A.depth < recursionLimit)
    (hstop : ∀ s' H', s'.os = sc.os → AllBare s'.gens → Un (frs X.stack) fp H H' sc.heap s'.heap → HOk X.prog X.w H' s'.heap → Qs H' → R (.ok (.ret (.bool false))) s')
    (hend : ∀ s' H', s'.os = sc.os → AllBare s'.gens → Un (frs X.stack) fp H H' sc.heap s'.heap → HOk X.prog X.w H' s'.heap → Qe H' → R (.ok (.ret (.bool true))) s') :
    ∀ (m : Nat) (s : Shared), s.heap.IsGen a g → s.heap.NoLimit →
      (∃ gs, s.gens[g]? = some gs ∧ gs.Goes (model X.prog X.w) A.in1.in1 (RA X sc H fp Qe) (YA X sc H fp a g false Qs) m (.send .none) (s.setGen g .running)) →
      codeAny (model X.prog X.w) A (.builtin "all.loop" ⟨[.ref a], []⟩) R s := by
  intro m
  induction m with
  | zero =>
    intro s hg hl ⟨gs, hgs, hgo⟩
    refine codeAny_builtin F.entry_all_loop ?_
    rw [Around.under_plainId F.plain_all_loop _]
    show wpAny _ A.in1 (pyNext (.ref a) >>= _) _ _ s
    refine wpAny_bind (wpAny_pyNext_genexpQ (A := A.in1) (P := EA X sc H fp Qe) hh hl hd hg hgs hgo (fun v s₁ gs' hbare hv => ?_) (fun s₁ hp h' hk => ?_))
    · obtain ⟨os1, hb1, hl1, hg1, b, H', rfl, un, hok, hq⟩ := hv
      refine wpAny_bind (wpAny_holding (wpAny_truthy_bool ?_))
      refine wpAny_bind (wpAny_letGo ?_)
      cases b with
      | true =>
        rw [if_neg (by decide)] at hq
        exact (hq s₁ ⟨rfl, hb1, fun _ _ e => e⟩).elim
      | false =>
        rw [if_pos rfl] at hq
        simp only [Bool.false_eq_true, if_false]
        refine wpAny_bind (wpAny_rule (wpAny_pure ?_))
        exact hstop _ H' os1 (allBare_setGen hb1 hbare) un hok hq
    · obtain ⟨os1, hb1, H', un, hok, hq⟩ := hp
      refine wpAny_bind (wpAny_rule (wpAny_pure ?_))
      exact hend _ H' os1 (allBare_setGen hb1 rfl) (un.trans (Un.kept hk)) (hok.kept hk) hq
  | succ m ih =>
    intro s hg hl ⟨gs, hgs, hgo⟩
    have hgl : g < s.gens.size := (Array.getElem?_eq_some_iff.mp hgs).1
    refine codeAny_builtin F.entry_all_loop ?_
    rw [Around.under_plainId F.plain_all_loop _]
    show wpAny _ A.in1 (pyNext (.ref a) >>= _) _ _ s
    refine wpAny_bind (wpAny_gsz (n := g + 1) hgl (wpAny_pyNext_genexpQ (A := A.in1) (P := EA X sc H fp Qe) hh hl hd hg hgs hgo (fun v s₁ gs' hbare hv => ?_) (fun s₁ hp h' hk => ?_)))
    · intro hsz
      obtain ⟨os1, hb1, hl1, hg1, b, H', rfl, un, hok, hq⟩ := hv
      refine wpAny_bind (wpAny_holding (wpAny_truthy_bool ?_))
      refine wpAny_bind (wpAny_letGo ?_)
      cases b with
      | true =>
        rw [if_neg (by decide)] at hq
        simp only [if_true]
        have hsz1 : g < s₁.gens.size := by
          have q : (s₁.setGen g gs').gens.size = s₁.gens.size := setGen_size _ _ _
          have hsz' : g + 1 ≤ (s₁.setGen g gs').gens.size := hsz
          omega
        refine wpAny_pure ⟨plainId_quiet F.plain_all_loop _, ih (s₁.setGen g gs') hg1 hl1 ⟨gs', setGen_at hsz1, ?_⟩⟩
        exact hq _ ⟨rfl, allBare_setGen (s := s₁.setGen g gs') (allBare_setGen hb1 hbare) rfl, fun _ _ e => e⟩
      | false =>
        rw [if_pos rfl] at hq
        simp only [Bool.false_eq_true, if_false]
        refine wpAny_bind (wpAny_rule (wpAny_pure ?_))
        exact hstop _ H' os1 (allBare_setGen hb1 hbare) un hok hq
    · intro hsz
      obtain ⟨os1, hb1, H', un, hok, hq⟩ := hp
      refine wpAny_bind (wpAny_rule (wpAny_pure ?_))
      exact hend _ H' os1 (allBare_setGen hb1 rfl) (un.trans (Un.kept hk)) (hok.kept hk) hq
theorem any_loop (hh : A.handled = none) (hd : A.depth < recursionLimit)
    (hstop : ∀ s' H', s'.os = sc.os → AllBare s'.gens → Un (frs X.stack) fp H H' sc.heap s'.heap → HOk X.prog X.w H' s'.heap → Qs H' → R (.ok (.ret (.bool true))) s')
    (hend : ∀ s' H', s'.os = sc.os → AllBare s'.gens → Un (frs X.stack) fp H H' sc.heap s'.heap → HOk X.prog X.w H' s'.heap → Qe H' → R (.ok (.ret (.bool false))) s') :
    ∀ (m : Nat) (s : Shared), s.heap.IsGen a g → s.heap.NoLimit →
      (∃ gs, s.gens[g]? = some gs ∧ gs.Goes (model X.prog X.w) A.in1.in1 (RA X sc H fp Qe) (YA X sc H fp a g true Qs) m (.send .none) (s.setGen g .running)) →
      codeAny (model X.prog X.w) A (.builtin "any.loop" ⟨[.ref a], []⟩) R s := by
  intro m
  induction m with
  | zero =>
    intro s hg hl ⟨gs, hgs, hgo⟩
    refine codeAny_builtin F.entry_any_loop ?_
    rw [Around.under_plainId F.plain_any_loop _]
    show wpAny _ A.in1 (pyNext (.ref a) >>= _) _ _ s
    refine wpAny_bind (wpAny_pyNext_genexpQ (A := A.in1) (P := EA X sc H fp Qe) hh hl hd hg hgs hgo (fun v s₁ gs' hbare hv => ?_) (fun s₁ hp h' hk => ?_))
    · obtain ⟨os1, hb1, hl1, hg1, b, H', rfl, un, hok, hq⟩ := hv
      refine wpAny_bind (wpAny_holding (wpAny_truthy_bool ?_))
      refine wpAny_bind (wpAny_letGo ?_)
      cases b with
      | false =>
        rw [if_neg (by decide)] at hq
        exact (hq s₁ ⟨rfl, hb1, fun _ _ e => e⟩).elim
      | true =>
        rw [if_pos rfl] at hq
        simp only [if_true]
        refine wpAny_bind (wpAny_rule (wpAny_pure ?_))
        exact hstop _ H' os1 (allBare_setGen hb1 hbare) un hok hq
    · obtain ⟨os1, hb1, H', un, hok, hq⟩ := hp
      refine wpAny_bind (wpAny_rule (wpAny_pure ?_))
      exact hend _ H' os1 (allBare_setGen hb1 rfl) (un.trans (Un.kept hk)) (hok.kept hk) hq
  | succ m ih =>
    intro s hg hl ⟨gs, hgs, hgo⟩
    have hgl : g < s.gens.size := (Array.getElem?_eq_some_iff.mp hgs).1
    refine codeAny_builtin F.entry_any_loop ?_
    rw [Around.under_plainId F.plain_any_loop _]
    show wpAny _ A.in1 (pyNext (.ref a) >>= _) _ _ s
    refine wpAny_bind (wpAny_gsz (n := g + 1) hgl (wpAny_pyNext_genexpQ (A := A.in1) (P := EA X sc H fp Qe) hh hl hd hg hgs hgo (fun v s₁ gs' hbare hv => ?_) (fun s₁ hp h' hk => ?_)))
    · intro hsz
      obtain ⟨os1, hb1, hl1, hg1, b, H', rfl, un, hok, hq⟩ := hv
      refine wpAny_bind (wpAny_holding (wpAny_truthy_bool ?_))
      refine wpAny_bind (wpAny_letGo ?_)
      cases b with
      | false =>
        rw [if_neg (by decide)] at hq
        simp only [Bool.false_eq_true, if_false]
        have hsz1 : g < s₁.gens.size := by
          have q : (s₁.setGen g gs').gens.size = s₁.gens.size := setGen_size _ _ _
          have hsz' : g + 1 ≤ (s₁.setGen g gs').gens.size := hsz
          omega
        refine wpAny_pure ⟨plainId_quiet F.plain_any_loop _, ih (s₁.setGen g gs') hg1 hl1 ⟨gs', setGen_at hsz1, ?_⟩⟩
        exact hq _ ⟨rfl, allBare_setGen (s := s₁.setGen g gs') (allBare_setGen hb1 hbare) rfl, fun _ _ e => e⟩
      | true =>
        rw [if_pos rfl] at hq
        simp only [if_true]
        refine wpAny_bind (wpAny_rule (wpAny_pure ?_))
        exact hstop _ H' os1 (allBare_setGen hb1 hbare) un hok hq
    · intro hsz
      obtain ⟨os1, hb1, H', un, hok, hq⟩ := hp
      refine wpAny_bind (wpAny_rule (wpAny_pure ?_))
      exact hend _ H' os1 (allBare_setGen hb1 rfl) (un.trans (Un.kept hk)) (hok.kept hk) hq
end
end GX
set_option Elab.async false
set_option linter.all false
set_option maxRecDepth 100000
set_option maxHeartbeats 1000000
namespace GX
open PySem PySem.Spec PyProof.Rows L2 GenW GxR

theorem room_gen {k : Nat} {A A' : Around} {env : Env} (hr : Room (k + 1) A) (h1 : A'.handled = A.handled) (h2 : A'.depth = A.depth) (h3 : A'.units ≤ A.units + 10) : Room k (A'.deeper env) :=
  ⟨h1.trans hr.hd, by have := hr.dp; show A'.depth + 1 + 3 * k + 5 < _; omega, by have := hr.un; show A'.units + 3 + 16 * k + 200 < _; omega⟩
theorem room_gen2 {k : Nat} {A : Around} {env : Env} (hr : Room (k + 1) A) : Room k (A.in1.in1.deeper env) := room_gen hr rfl rfl (by show A.units + 1 + 1 ≤ _; omega)

/-- one turn of a generator expression whose items are bools: stp ends it -/
def GT2 (J : It) (g : TG) (tt : TT) (te : TE) (vs : List Nat) (σ0 : L2.St) (stp : Bool) (Qs Qe : Hp → Prop) (W : Nat → Nat → Hp → Prop) : Prop :=
  ∀ i m H, W i m H → (J.stop i H ∧ Qe H) ∨ (J.go i H ∧ ∀ x H', J.yld i H x H' → g x σ0 H' fun σ2 H2 => wipe σ2 vs = σ0 ∧ tt σ2 H2 fun b H3 =>
    if b = true then te σ2 H3 fun y H4 => 0 < m ∧ ∃ b, y = .bl b ∧ (b = stp → Qs H4) ∧ (b ≠ stp → ∃ m', m' < m ∧ W (i + 1) m' H4) else ∃ m', m' < m ∧ W (i + 1) m' H3)
def tGx (P : Addr) (wi : TI) (body : It → L2.St → Hp → VK → Prop) : TE := fun σ H Q => wi σ H fun J H1 => TabG H1 P ∧ ∀ H2, Tabbed P H1 H2 → body J σ H2 Q
def bAll (g : TG) (tt : TT) (te : TE) (vs : List Nat) : It → L2.St → Hp → VK → Prop := fun J σ H Q => ∃ W, (∃ m, W 0 m H) ∧ GT2 J g tt te vs (wipe σ vs) false (Q (.bl false)) (Q (.bl true)) W
def bAny (g : TG) (tt : TT) (te : TE) (vs : List Nat) : It → L2.St → Hp → VK → Prop := fun J σ H Q => ∃ W, (∃ m, W 0 m H) ∧ GT2 J g tt te vs (wipe σ vs) true (Q (.bl true)) (Q (.bl false)) W

section
variable {X : L2.Cx} {pins : List (Addr × Obj)} {σ : L2.St} {H : Hp}
theorem sg_bet {Z : L2.Cx} {σ0 : L2.St} {fp : List Addr} {tn : Nat → Heap → Prop} {κ : Type} {PO : κ → List (Addr × Obj) → Prop} {i : Nat} {k : κ} {H : Hp} {s s' : Shared} {J : It} {tg : Expr} {it : Addr} (T : Turn Z.prog Z.w Z.K tg J fp it tn)
    (h : SG Z σ0 fp tn PO i k H s) (b : Bet s s') : SG Z σ0 fp tn PO i k H s' := by
  obtain ⟨st, n, pins, po, I, q⟩ := h
  exact ⟨T.keep _ _ _ st fun c _ o e => b.kept c o e, n, pins, po, I.call' (ch := []) b.os (Un.kept b.kept) (I.hok.kept b.kept) b.bare (fun c hc => absurd hc (by simp)), q⟩

/-- what a consumer of bools is given -/
theorem made_bools {J : It} {elt tg iter : Expr} {ifs : List Expr} {scope : Scope} {own : List (Str × Nat)} {gpos : Pos} {a g' : Nat} {sc s5 : Shared} {cenv : Env} {fp : List Addr} {it : Addr} {tn : Nat → Heap → Prop} {go : Obj} {g : TG} {tt : TT} {te : TE} {stp : Bool} {Qs Qe : Hp → Prop} {W : Nat → Nat → Hp → Prop} {m0 : Nat} {A : Around}
    (M : Made X pins σ own tg elt iter ifs scope gpos J H a g' sc s5 cenv fp it tn go) (hc : X.calm = true) (hh : A.handled = none) (hfr : A.frames = some X.stack) (hco : scope.isCoroutine = false)
    (hg : PG (gcx X sc H cenv (A.deeper cenv) fp) tg g) (ht : PTs (gcx X sc H cenv (A.deeper cenv) fp) ifs tt) (he : PE (gcx X sc H cenv (A.deeper cenv) fp) elt te)
    (hw : W 0 m0 H) (gt : GT2 J g tt te (own.map (·.2)) (wipe σ (own.map (·.2))) stp Qs Qe W) :
    (∃ gs, s5.gens[g']? = some gs ∧ gs.Goes (model X.prog X.w) A (RA X sc H fp Qe) (YA X sc H fp a g' stp Qs) m0 (.send .none) (s5.setGen g' .running)) := by
  refine ⟨_, M.st, rfl, ?_⟩
  obtain ⟨st2, I2⟩ := M.wake A (s5.setGen g' .running) hh hfr (fun _ _ e => e) M.os (allBare_setGen M.bare rfl)
  have S0 : SG (gcx X sc H cenv (A.deeper cenv) fp) (wipe σ (own.map (·.2))) fp tn (fun (_ : Unit) p => p = [(a, go)]) 0 () H (s5.setGen g' .running) := by
    refine ⟨st2, fun b hb => (M.fpok b hb).1.1, _, rfl, I2, fun b hb p hp z => ?_⟩
    have e : p = (a, go) := by simpa using hp
    subst e
    have h1 := (M.fpok b hb).2
    have h2 := M.sz
    rw [← z] at h1
    exact absurd (Nat.lt_trans h1 h2) (Nat.lt_irrefl _)
  have T' : Turn (gcx X sc H cenv (A.deeper cenv) fp).prog (gcx X sc H cenv (A.deeper cenv) fp).w (gcx X sc H cenv (A.deeper cenv) fp).K tg J fp it tn := M.turn
  refine seg_gx0 (Z := gcx X sc H cenv (A.deeper cenv) fp) rfl hh M.turn st2 ?_
  refine seg_gx (Z := gcx X sc H cenv (A.deeper cenv) fp) (κ := Unit) (σ0 := wipe σ (own.map (·.2))) (vs := own.map (·.2)) (PO := fun (_ : Unit) p => p = [(a, go)]) (Fu := fun n _ m => m ≤ n) (W := fun i m _ H => W i m H) (Zd := fun _ H => Qe H)
    (Yd := fun i m _ y H4 => 0 < m ∧ ∃ b, y = .bl b ∧ (b = stp → Qs H4) ∧ (b ≠ stp → ∃ m', m' < m ∧ W (i + 1) m' H4))
    rfl rfl hc rfl rfl (by show cenv.scope.isCoroutine = false; rw [M.scope]; exact hco) M.turn hg ht he ⟨fun i m k H hw => gt i m H hw⟩
    (fun n k m m' h1 h2 => by omega) (fun n i m k y H h1 h2 => by have := h2.1; omega) ?_ ?_ m0 m0 0 () H _ _ (Nat.le_refl _) hw S0
  · rintro n s₀ s k m pins' H' hfu rfl I hq
    exact ⟨rfl, I.os, I.bare, H', I.base, I.hok, hq⟩
  · rintro n s₀ v s i m k y H' kap hfu S r ⟨hm, b, rfl, q1, q2⟩ hk
    obtain ⟨st, nf, pins', rfl, I, hpf⟩ := id S
    have hv : v = Value.bool b := r
    refine ⟨I.os, I.bare, I.nolimit, M.gen _ (I.pin (a, go) (by simp)).1, b, H', hv, I.base, I.hok, ?_⟩
    by_cases hb : b = stp
    · rw [if_pos hb]
      exact q1 hb
    · rw [if_neg hb]
      intro s' hbet
      obtain ⟨m', hm', w'⟩ := q2 hb
      exact hk s' () m' H' hm' (by omega) w' (sg_bet T' S hbet)

theorem out_inv {fp : List Addr} {sc s' : Shared} {H' : Hp} (I : Inv X pins σ H sc) (hfp : ∀ b ∈ fp, FpOk X pins H b ∧ b < sc.heap.objs.size) (os : s'.os = sc.os) (hb : AllBare s'.gens) (un : Un (frs X.stack) fp H H' sc.heap s'.heap) (hok : HOk X.prog X.w H' s'.heap) : Inv X pins σ H' s' :=
  I.call' (ch := fp) os un hok hb fun b hb => ⟨(hfp b hb).1.2.2.2.1, (hfp b hb).1.2.1, (hfp b hb).1.2.2.2.2.1, (hfp b hb).1.2.2.2.2.2⟩

abbrev GCtx (X : L2.Cx) (scope : Scope) (C : Addr) (code : Value) : Env := genEnv scope (cloFrom X.env.cells scope.names []) C code builtinsNs X.env
theorem pe_all {c P : Addr} {elt iter tg : Expr} {ifs : List Expr} {p pos gpos : Pos} {scope : Scope} {own : List (Str × Nat)} {wi : TI} {g : TG} {tt : TT} {te : TE} {k : Nat}
    (hr : Room (k + 1) X.A) (hc : X.calm = true) (hgl : Gl X "all") (hm : X.mg "all" = none) (hb : bootBuiltins "all" = some (.builtin "all")) (TB : TabB X.base X.mg c P) (hcode : X.env.code = .ref c)
    (ok : GOk X.N X.env.scope scope own) (hN : X.N.Nodup) (hi : PI X tg iter wi)
    (hg : ∀ s H C code A' fp, PG (gcx X s H (GCtx X scope C code) A' fp) tg g)
    (ht : ∀ s H C code A' fp, Room k A' → PTs (gcx X s H (GCtx X scope C code) A' fp) ifs tt)
    (he : ∀ s H C code A' fp, Room k A' → PE (gcx X s H (GCtx X scope C code) A' fp) elt te)
    (hs : ∀ v, genFold iter X.env v = pure v := by intro _; rfl)
    (hst : starEach [.GeneratorExp elt [⟨tg, iter, ifs, 0⟩] scope gpos] X.env = (false, eval (.GeneratorExp elt [⟨tg, iter, ifs, 0⟩] scope gpos) X.env) :: starEach [] X.env := by rfl) :
    PE X (.Call (.Name "all" p) [.GeneratorExp elt [⟨tg, iter, ifs, 0⟩] scope gpos] [] pos) (tGx P wi (bAll g tt te (own.map (·.2)))) := by
  refine ⟨fun pins s σ H Q I h => ?_⟩
  refine wpAny_Call_Name_kw (ld_blt I hgl hm hb ?_)
  refine PyProof.Rows.callWith_builtin1 ?_ hst (by rfl)
  rw [hst]
  show wpAny _ _ (spliced ((false, eval (.GeneratorExp elt [⟨tg, iter, ifs, 0⟩] scope gpos) X.env) :: backTo pos (starEach [] X.env))) _ _ s
  refine Calls.spliced_cons (gx_make hr TB hcode ok hN hi hs I h fun J H2 a g' sc s5 C code fp it tn go hR M => ?_)
  refine Calls.spliced_nil ?_
  obtain ⟨W, ⟨m0, hw⟩, gt⟩ := hR
  refine call_function_tree F.kind_all F.plain_all F.entry_all (F.args_all1 _) ?_
  unfold Builtin.«all»
  refine wpAny_bind (m := oneArg "all" _) (wpAny_pure ?_)
  refine wpAny_bind (wpAny_pyIter_gen (M.gen _ M.at5) ?_)
  refine wpAny_pure ⟨plainId_quiet F.plain_all_loop _, ?_⟩
  refine all_loop (X := X) (sc := sc) (H := H2) (fp := fp) (Qs := Q (.bl false)) (Qe := Q (.bl true)) (g := g') hr.hd (by have := hr.dp; show X.A.depth < _; omega)
    (fun s' H' os hb un hok hq => ⟨.bl false, H', out_inv M.inv M.fpok os hb un hok, rfl, hq⟩) (fun s' H' os hb un hok hq => ⟨.bl true, H', out_inv M.inv M.fpok os hb un hok, rfl, hq⟩)
    m0 s5 (M.gen _ M.at5) M.lim ?_
  exact made_bools M hc hr.hd M.inv.ok.frames ok.co (hg ..) (ht _ _ _ _ _ _ (room_gen2 hr)) (he _ _ _ _ _ _ (room_gen2 hr)) hw gt
theorem pe_any {c P : Addr} {elt iter tg : Expr} {ifs : List Expr} {p pos gpos : Pos} {scope : Scope} {own : List (Str × Nat)} {wi : TI} {g : TG} {tt : TT} {te : TE} {k : Nat}
    (hr : Room (k + 1) X.A) (hc : X.calm = true) (hgl : Gl X "any") (hm : X.mg "any" = none) (TB : TabB X.base X.mg c P) (hcode : X.env.code = .ref c)
    (ok : GOk X.N X.env.scope scope own) (hN : X.N.Nodup) (hi : PI X tg iter wi)
    (hg : ∀ s H C code A' fp, PG (gcx X s H (GCtx X scope C code) A' fp) tg g)
    (ht : ∀ s H C code A' fp, Room k A' → PTs (gcx X s H (GCtx X scope C code) A' fp) ifs tt)
    (he : ∀ s H C code A' fp, Room k A' → PE (gcx X s H (GCtx X scope C code) A' fp) elt te)
    (hs : ∀ v, genFold iter X.env v = pure v := by intro _; rfl)
    (hst : starEach [.GeneratorExp elt [⟨tg, iter, ifs, 0⟩] scope gpos] X.env = (false, eval (.GeneratorExp elt [⟨tg, iter, ifs, 0⟩] scope gpos) X.env) :: starEach [] X.env := by rfl) :
    PE X (.Call (.Name "any" p) [.GeneratorExp elt [⟨tg, iter, ifs, 0⟩] scope gpos] [] pos) (tGx P wi (bAny g tt te (own.map (·.2)))) := by
  refine ⟨fun pins s σ H Q I h => ?_⟩
  refine wpAny_Call_Name_kw (ld_blt I hgl hm boot_any ?_)
  refine PyProof.Rows.callWith_builtin1 ?_ hst (by rfl)
  rw [hst]
  show wpAny _ _ (spliced ((false, eval (.GeneratorExp elt [⟨tg, iter, ifs, 0⟩] scope gpos) X.env) :: backTo pos (starEach [] X.env))) _ _ s
  refine Calls.spliced_cons (gx_make hr TB hcode ok hN hi hs I h fun J H2 a g' sc s5 C code fp it tn go hR M => ?_)
  refine Calls.spliced_nil ?_
  obtain ⟨W, ⟨m0, hw⟩, gt⟩ := hR
  refine call_function_tree F.kind_any F.plain_any F.entry_any (F.args_any1 _) ?_
  unfold Builtin.«any»
  refine wpAny_bind (m := oneArg "any" _) (wpAny_pure ?_)
  refine wpAny_bind (wpAny_pyIter_gen (M.gen _ M.at5) ?_)
  refine wpAny_pure ⟨plainId_quiet F.plain_any_loop _, ?_⟩
  refine any_loop (X := X) (sc := sc) (H := H2) (fp := fp) (Qs := Q (.bl true)) (Qe := Q (.bl false)) (g := g') hr.hd (by have := hr.dp; show X.A.depth < _; omega)
    (fun s' H' os hb un hok hq => ⟨.bl true, H', out_inv M.inv M.fpok os hb un hok, rfl, hq⟩) (fun s' H' os hb un hok hq => ⟨.bl false, H', out_inv M.inv M.fpok os hb un hok, rfl, hq⟩)
    m0 s5 (M.gen _ M.at5) M.lim ?_
  exact made_bools M hc hr.hd M.inv.ok.frames ok.co (hg ..) (ht _ _ _ _ _ _ (room_gen2 hr)) (he _ _ _ _ _ _ (room_gen2 hr)) hw gt
end
end GX
set_option Elab.async false
set_option linter.all false
set_option maxRecDepth 100000
set_option maxHeartbeats 1000000
namespace GX
open PySem PySem.Spec PyProof.Rows L2 GenW GxR

/-- one turn of a generator expression whose items are all taken; ys: what is out -/
def GTL (J : It) (g : TG) (tt : TT) (te : TE) (vs : List Nat) (σ0 : L2.St) (Qe : List V → Hp → Prop) (W : Nat → Nat → List V → Hp → Prop) : Prop :=
  ∀ i m ys H, W i m ys H → (J.stop i H ∧ Qe ys H) ∨ (J.go i H ∧ ∀ x H', J.yld i H x H' → g x σ0 H' fun σ2 H2 => wipe σ2 vs = σ0 ∧ tt σ2 H2 fun b H3 =>
    if b = true then te σ2 H3 fun y H4 => ys.length < sizeLine ∧ ∃ m', m' < m ∧ W (i + 1) m' (ys ++ [y]) H4 else ∃ m', m' < m ∧ W (i + 1) m' ys H3)
def bLst (g : TG) (tt : TT) (te : TE) (vs : List Nat) (Qe : List V → Hp → VK → Prop) : It → L2.St → Hp → VK → Prop := fun J σ H Q => ∃ W, (∃ m, W 0 m [] H) ∧ GTL J g tt te vs (wipe σ vs) (fun ys H' => Qe ys H' Q) W

section
variable {X : L2.Cx} {pins : List (Addr × Obj)} {σ : L2.St} {H : Hp}
theorem slept_inv {Z : L2.Cx} {σ0 : L2.St} {H : Hp} {s s' : Shared} {S a : Addr} {go : Obj} {acc : Array Value} {c : Nat} {v : Value} (hpn : Z.pn = []) (h0 : Z.s_0.heap.objs.size ≤ S) (hSa : a ≠ S) (I : Inv Z [(S, lstObj acc c), (a, go)] σ0 H s) (z : Slept S v s s') :
    ∃ c', Inv Z [(S, lstObj (acc.push v) c'), (a, go)] σ0 H s' := by
  obtain ⟨e1, e2, e3, e4, _⟩ := I.pin (S, lstObj acc c) (by simp)
  have I0 : Inv Z [(a, go)] σ0 H s := I.pins_of fun p hp => I.pin p (List.mem_append_right _ (List.mem_cons_of_mem _ hp))
  obtain ⟨c', eS⟩ := z.own acc c e1
  have J1 : Inv Z [(a, go)] σ0 H { s with heap := s'.heap, toks := s'.toks } := I0.turned (it := S) (fun b o hb e => z.keep b o hb e) e2 e3 (.inr h0) (fun x cc e hz => by
    obtain ⟨w, o, ho, hd⟩ := I0.cell x cc e
    rw [hz] at ho
    have e1' : s.heap.get? S = some (lstObj acc c) := e1
    rw [e1'] at ho
    cases ho
    cases hd) (fun p hp hz => by
      rw [hpn] at hp
      have : p = (a, go) := by simpa using hp
      subst this
      exact hSa hz)
  have J2 : Inv Z [(a, go)] σ0 H s' := J1.call' (ch := []) z.os Un.refl J1.hok z.bare fun c hc => absurd hc (by simp)
  refine ⟨c', J2.pins_of fun p hp => ?_⟩
  rcases List.mem_cons.mp hp with hp | hp
  · subst hp
    exact ⟨eS, e2, e3, e4, fun v q => by cases q⟩
  · exact J2.pin p (List.mem_append_right _ hp)

theorem made_list {J : It} {elt tg iter : Expr} {ifs : List Expr} {scope : Scope} {own : List (Str × Nat)} {gpos : Pos} {a g' : Nat} {sc s5 s2 : Shared} {cenv : Env} {fp : List Addr} {it : Addr} {tn : Nat → Heap → Prop} {go : Obj} {g : TG} {tt : TT} {te : TE} {Qe : List V → Hp → Prop} {W : Nat → Nat → List V → Hp → Prop} {m0 : Nat} {A : Around} {S : Addr} {c0 : Nat}
    (M : Made X pins σ own tg elt iter ifs scope gpos J H a g' sc s5 cenv fp it tn go) (hc : X.calm = true) (hh : A.handled = none) (hfr : A.frames = some X.stack) (hco : scope.isCoroutine = false)
    (hg : PG (gcx X sc H cenv (A.deeper cenv) fp) tg g) (ht : PTs (gcx X sc H cenv (A.deeper cenv) fp) ifs tt) (he : PE (gcx X sc H cenv (A.deeper cenv) fp) elt te)
    (hw : W 0 m0 [] H) (gt : GTL J g tt te (own.map (·.2)) (wipe σ (own.map (·.2))) Qe W)
    (hS : s5.heap.objs.size ≤ S) (hk2 : ∀ b o, s5.heap.get? b = some o → s2.heap.get? b = some o) (hos : s2.os = sc.os) (hb2 : AllBare s2.gens) (hg2 : s2.gens = s5.gens) (heS : s2.heap.get? S = some (lstObj #[] c0)) :
    (∃ gs, s2.gens[g']? = some gs ∧ gs.Goes (model X.prog X.w) A (REnd X.prog X.w X.stack H sc fp S a g' Qe (fun _ _ _ => False)) (YItem sc S a g') sizeLine (.send .none) (s2.setGen g' .running)) := by
  have hst := M.st
  rw [← hg2] at hst
  refine ⟨_, hst, rfl, ?_⟩
  obtain ⟨st2, I2⟩ := M.wake A (s2.setGen g' .running) hh hfr hk2 hos (allBare_setGen hb2 rfl)
  have hSa : a ≠ S := by
    have h1 := M.sz5
    intro z
    rw [← z, h1] at hS
    exact absurd hS (Nat.not_succ_le_self _)
  have hSc : sc.heap.objs.size ≤ S := by
    have h1 := M.sz5
    have h2 := M.sz
    exact Nat.le_trans (Nat.le_of_lt h2) (Nat.le_trans (by rw [h1]; exact Nat.le_succ _) hS)
  have young : ∀ b, sc.heap.objs.size < b → H b = none ∧ b ≠ cenv.locals → True := fun _ _ _ => trivial
  have I3 : Inv (gcx X sc H cenv (A.deeper cenv) fp) [(S, lstObj #[] c0), (a, go)] (wipe σ (own.map (·.2))) H (s2.setGen g' .running) := I2.pins_of fun p hp => by
    rcases List.mem_cons.mp hp with hp | hp
    · subst hp
      refine ⟨heS, M.inv.hok.fresh hSc, fun z => ?_, fun hm => ?_, fun v q => by cases q⟩
      · obtain ⟨m, ⟨o, es, ep, ho, hd, _⟩, _⟩ := I2.loc
        have z' : S = cenv.locals := z
        have ho' : s2.heap.get? cenv.locals = some o := ho
        rw [← z', heS] at ho'
        cases ho'
        cases hd
      · have hm : S ∈ frs X.stack := hm
        rcases List.mem_cons.mp (M.inv.stkSub _ hm) with z | z
        · exact absurd (Nat.lt_of_lt_of_le M.inv.lt (z ▸ hSc)) (Nat.lt_irrefl _)
        · exact M.inv.nofs hSc z
    · exact I2.pin p (List.mem_append_right _ hp)
  have hpf : ∀ (acc : Array Value) (c : Nat), ∀ b ∈ fp, ∀ p ∈ [(S, lstObj acc c), (a, go)], p.1 ≠ b := fun acc c b hb p hp z => by
    have h1 := (M.fpok b hb).2
    rcases List.mem_cons.mp hp with hp | hp
    · subst hp
      rw [← z] at h1
      exact absurd (Nat.lt_of_lt_of_le h1 hSc) (Nat.lt_irrefl _)
    · have e : p = (a, go) := by simpa using hp
      subst e
      rw [← z] at h1
      exact absurd (Nat.lt_trans h1 M.sz) (Nat.lt_irrefl _)
  have S0 : SG (gcx X sc H cenv (A.deeper cenv) fp) (wipe σ (own.map (·.2))) fp tn (fun (ys : List V) p => ∃ acc c, p = [(S, lstObj acc c), (a, go)] ∧ Vals ys acc.toList) 0 [] H (s2.setGen g' .running) :=
    ⟨st2, fun b hb => (M.fpok b hb).1.1, _, ⟨#[], c0, rfl, .nil⟩, I3, hpf _ _⟩
  refine seg_gx0 (Z := gcx X sc H cenv (A.deeper cenv) fp) rfl hh M.turn st2 ?_
  refine seg_gx (Z := gcx X sc H cenv (A.deeper cenv) fp) (κ := List V) (σ0 := wipe σ (own.map (·.2))) (vs := own.map (·.2)) (PO := fun (ys : List V) p => ∃ acc c, p = [(S, lstObj acc c), (a, go)] ∧ Vals ys acc.toList) (Fu := fun n ys m => n + ys.length = sizeLine) (W := W) (Zd := Qe)
    (Yd := fun i m ys y H4 => ys.length < sizeLine ∧ ∃ m', m' < m ∧ W (i + 1) m' (ys ++ [y]) H4)
    rfl rfl hc rfl rfl (by show cenv.scope.isCoroutine = false; rw [M.scope]; exact hco) M.turn hg ht he ⟨fun i m k H hw => gt i m k H hw⟩
    (fun n k m m' h1 h2 => h1) (fun n i m k y H h1 h2 => by have := h2.1; omega) ?_ ?_ m0 sizeLine 0 [] H _ _ (Nat.add_zero _) hw S0
  · rintro n s₀ s ys m pins' H' hfu ⟨acc, c, rfl, rv⟩ I hq
    obtain ⟨e1, e2, _⟩ := I.pin (S, lstObj acc c) (by simp)
    exact .inl ⟨.inr rfl, H', ys, acc, c, I.os, I.bare, I.base, I.hok, e2, e1, rv, by omega, hq⟩
  · rintro n s₀ v s i m ys y H' kap hfu Sg r ⟨hl, m', hm', w'⟩ hk
    obtain ⟨st, nf, pins', ⟨acc, c, rfl, rv⟩, I, hpf'⟩ := Sg
    obtain ⟨e1, e2, _⟩ := I.pin (S, lstObj acc c) (by simp)
    have hsz : acc.size = ys.length := by
      have e1 := rv.length
      have e2 : acc.toList.length = acc.size := by simp
      omega
    refine ⟨I.os, I.bare, I.nolimit, M.gen _ (I.pin (a, go) (by simp)).1, ⟨acc, c, e1, by omega⟩, fun s' z => ?_⟩
    obtain ⟨c', J2⟩ := slept_inv rfl hSc hSa I z
    refine hk s' (ys ++ [y]) m' H' hm' (by rw [List.length_append]; simp only [List.length_cons, List.length_nil]; omega) w' ⟨M.turn.keep _ _ _ st fun b hb o e => z.keep b o (fun q => hpf' b hb (S, lstObj acc c) (by simp) q.symm) e, nf, _, ⟨acc.push v, c', rfl, ?_⟩, J2, hpf _ _⟩
    rw [Array.toList_push]
    exact rv.append (.cons r .nil)
end
end GX
set_option Elab.async false
set_option linter.all false
set_option maxRecDepth 100000
set_option maxHeartbeats 1000000
namespace GX
open PySem PySem.Spec PyProof.Rows L2 GenW GxR

/-- what a consumer of all items needs: the generator, when it stands at s5, with every list S that comes -/
structure Full (X : L2.Cx) (H : Hp) (a g : Nat) (sc s5 : Shared) (fp : List Addr) (A : Around) (Qe : List V → Hp → Prop) : Prop where
  hh : A.handled = none
  dp : A.depth < recursionLimit
  gen : s5.heap.IsGen a g
  lim : s5.heap.NoLimit
  os : s5.os = sc.os
  bare : AllBare s5.gens
  lt : a < s5.heap.objs.size
  go : ∀ (S c0 : Nat) (s2 : Shared), s5.heap.objs.size ≤ S → (∀ b o, s5.heap.get? b = some o → s2.heap.get? b = some o) → s2.os = sc.os → s2.gens = s5.gens → s2.heap.get? S = some (lstObj #[] c0) →
    (∃ gs, s2.gens[g]? = some gs ∧ gs.Goes (model X.prog X.w) A (REnd X.prog X.w X.stack H sc fp S a g Qe (fun _ _ _ => False)) (YItem sc S a g) sizeLine (.send .none) (s2.setGen g .running))

section
variable {X : L2.Cx} {H : Hp} {a g : Nat} {sc s5 : Shared} {fp : List Addr} {Qe : List V → Hp → Prop} {A : Around} {E : Value → Shared → Prop}
theorem collect_gx {Qc : List Value → Shared → Prop} (M : Full X H a g sc s5 fp A.in1.in1 Qe)
    (hQ : ∀ (s' : Shared) (vs : List Value) (ys : List V) (H' : Hp), s5.heap.objs.size ≤ s'.heap.objs.size → Vals ys vs → ys.length ≤ sizeLine → s'.os = sc.os → AllBare s'.gens → Un (frs X.stack) fp H H' sc.heap s'.heap → HOk X.prog X.w H' s'.heap → Qe ys H' → Qc vs s') :
    wpAny (model X.prog X.w) A (collect (.ref a)) Qc E s5 := by
  have hSI : s5.heap.objs.size ≠ a := Nat.ne_of_gt M.lt
  have hcl : cStatics < s5.heap.objs.size := let ⟨_, hn, _⟩ := M.lim; hn.lt
  have gty : ∀ {h : Heap}, (∀ b o, s5.heap.get? b = some o → h.get? b = some o) → h.IsGen a g := fun {h} q => M.gen.keeps q
  have k1 : ∀ b o, s5.heap.get? b = some o → (s5.heap.push { cls := .type "list", data := .seq ([] : List Value).toArray }).get? b = some o := fun b o e => Heap.get?_push_of_some _ e
  unfold collect
  refine wpAny_bind (wpAny_runValue (codeAny_builtin F.entry_proto_collect ?_))
  rw [Around.under_plainId F.plain_proto_collect _]
  show wpAny _ A.in1 (newList [] >>= fun l => again (.builtin "list.__iadd__" ⟨[l, .ref a], []⟩)) _ _ s5
  refine wpAny_bind (wpAny_newObj_type ?_)
  refine wpAny_pure ⟨plainId_quiet F.plain_list_iadd _, codeAny_builtin F.entry_list_iadd ?_⟩
  rw [Around.under_plainId F.plain_list_iadd _]
  show wpAny _ A.in1 (Builtin.List.listExtendWith (.ref s5.heap.objs.size) (.ref a) (.ref s5.heap.objs.size)) _ _ _
  unfold Builtin.List.listExtendWith
  refine wpAny_bind (wpAny_typeOf (Heap.IsGen.typeIs (s := { s5 with heap := _ }) (gty k1)) ?_)
  have h1 : Builtin.List.listSameRef (.ref s5.heap.objs.size) (.ref a) = false := by simp [Builtin.List.listSameRef, hSI]
  have h2 : (Value.type "generator" == Value.type "list") = false := by decide
  have h3 : (Value.type "generator" == Value.type "tuple") = false := by decide
  simp only [h1, h2, h3, Bool.or_false, Bool.false_eq_true, if_false]
  refine wpAny_bind (wpAny_pyIter_gen (s := { s5 with heap := _ }) (gty k1) ?_)
  refine wpAny_bind (wpAny_holding ?_)
  unfold Builtin.List.listLengthHint
  refine wpAny_bind (wpAny_specialOf (Heap.IsGen.typeIs (s := { s5 with heap := _ }) (gty k1)) F.gen_no_len ?_)
  show wpAny _ A.in1 (specialOf (Value.ref a) (Str.ofString "__length_hint__") >>= _) _ _ _
  refine wpAny_bind (wpAny_specialOf (Heap.IsGen.typeIs (s := { s5 with heap := _ }) (gty k1)) F.gen_no_hint ?_)
  refine wpAny_pure ?_
  show wpAny _ A.in1 (rule "list.extend.makes-room" >>= fun _ => Builtin.List.listTouch (.ref s5.heap.objs.size) >>= fun _ =>
    again (.builtin "list.extend.loop" ⟨[.ref s5.heap.objs.size, .ref a, .ref s5.heap.objs.size], []⟩)) _ _ _
  refine wpAny_bind (wpAny_rule ?_)
  have hS₁ : (s5.heap.push { cls := .type "list", data := .seq ([] : List Value).toArray }).get? s5.heap.objs.size = some { cls := .type "list", data := .seq ([] : List Value).toArray } := Heap.get?_push_size _ rfl
  refine wpAny_bind ?_
  show wpAny _ A.in1 (updateSeq s5.heap.objs.size (·.push .none) >>= fun _ => updateSeq s5.heap.objs.size (·.pop)) _ _ _
  refine wpAny_bind (wpAny_updateSeq hS₁ rfl ?_)
  have hS₂ := Heap.get?_update_self (Obj.mapSeq (·.push Value.none)) hS₁ rfl
  refine wpAny_updateSeq hS₂ rfl ?_
  have hS₃ := Heap.get?_update_self (Obj.mapSeq (·.pop)) hS₂ rfl
  have oth : ∀ b o, b ≠ s5.heap.objs.size → (s5.heap.push { cls := .type "list", data := .seq ([] : List Value).toArray }).get? b = some o →
      (((s5.heap.push { cls := .type "list", data := .seq ([] : List Value).toArray }).update s5.heap.objs.size (Obj.mapSeq (·.push Value.none))).update s5.heap.objs.size (Obj.mapSeq (·.pop))).get? b = some o :=
    fun b o hb e => (Heap.get?_update_other _ _ (Ne.symm hb)).trans ((Heap.get?_update_other _ _ (Ne.symm hb)).trans e)
  have k4 : ∀ b o, s5.heap.get? b = some o → (((s5.heap.push { cls := .type "list", data := .seq ([] : List Value).toArray }).update s5.heap.objs.size (Obj.mapSeq (·.push Value.none))).update s5.heap.objs.size (Obj.mapSeq (·.pop))).get? b = some o :=
    fun b o e => oth b o (Nat.ne_of_lt (Heap.lt_size e)) (k1 b o e)
  refine wpAny_pure ⟨plainId_quiet F.plain_extend_loop _, ?_⟩
  refine drain (P := X.prog) (w := X.w) (outer := X.stack) (H := H) (sc := sc) (ex := fp) (Q := Qe) (EX := fun _ _ _ => False) (A := A) (S := s5.heap.objs.size) (g := g) M.hh M.dp hSI (Nat.ne_of_gt hcl)
    (fun s' acc c H' ys q1 q2 q3 q4 q5 q6 q7 q8 q9 => ?_) (fun e s' hc => ?_)
    sizeLine _ (gty k4) (M.lim.keeps k4) (M.go _ _ { s5 with heap := _ } (Nat.le_refl _) k4 M.os rfl hS₃)
  · show wpAny _ A (load s5.heap.objs.size >>= _) _ _ s'
    refine wpAny_bind (wpAny_load q1 ?_)
    exact wpAny_pure (hQ s' acc.toList ys H' (Nat.le_of_lt (Heap.lt_size q1)) q2 q3 q4 q5 q6 q7 q9)
  · obtain ⟨aa, B, H', cls, d, _, fl, _, _, _, _, _, hW⟩ := hc
    exact hW.elim

theorem code_tuple_gx {Q₁ : Value → Shared → Prop} (M : Full X H a g sc s5 fp A.in1.in1.in1 Qe)
    (hQ : ∀ (s' : Shared) (vs : List Value) (ys : List V) (H' : Hp), s5.heap.objs.size ≤ s'.heap.objs.size → Vals ys vs → ys.length ≤ sizeLine → s'.os = sc.os → AllBare s'.gens → Un (frs X.stack) fp H H' sc.heap s'.heap → HOk X.prog X.w H' s'.heap → Qe ys H' →
      Q₁ (.ref s'.heap.objs.size) { s' with heap := s'.heap.push { cls := .type "tuple", data := .seq vs.toArray } }) :
    codeAny (model X.prog X.w) A (.call (.builtin "tuple.__new__") ⟨[.type "tuple", .ref a], []⟩) (wants Q₁ E) s5 := by
  refine codeAny_of_tree ?_
  show wpAny _ A.in1 (do checkBuiltinCall "tuple.__new__" ⟨[.type "tuple", .ref a], []⟩; again (.builtin "tuple.__new__" ⟨[.type "tuple", .ref a], []⟩)) _ _ s5
  refine wpAny_bind (wpAny_of_eq (F.newCall_tuple_1 _) (wpAny_pure ⟨plainId_quiet F.plain_tuple_new _, codeAny_builtin F.entry_tuple_new ?_⟩))
  rw [Around.under_plainId F.plain_tuple_new _]
  have hsub := sub_tuple_self
  have hinit := init_tuple_lookup
  have hmh := madeHere_tuple
  have hTI := M.gen.typeIs
  wp_walk using wpAny_typeOf hTI, collect_gx M
  intro s' acc ys H' hsz r hl q1 q2 q3 q4 q5
  show wpAny _ _ (Builtin.Tuple.tupleExact acc.toArray >>= fun v => ret v) _ _ _
  unfold Builtin.Tuple.tupleExact
  refine wpAny_bind (wpAny_newObj_type ?_ (by show acc.toArray.size ≤ sizeLine; rw [List.size_toArray, ← r.length]; exact hl))
  exact wpAny_pure (hQ s' acc ys H' hsz r hl q1 q2 q3 q4 q5)
theorem call_tuple_gx {Q : Value → Shared → Prop} (M : Full X H a g sc s5 fp A.in1.in1.in1.in1 Qe)
    (hQ : ∀ (s' : Shared) (vs : List Value) (ys : List V) (H' : Hp), s5.heap.objs.size ≤ s'.heap.objs.size → Vals ys vs → ys.length ≤ sizeLine → s'.os = sc.os → AllBare s'.gens → Un (frs X.stack) fp H H' sc.heap s'.heap → HOk X.prog X.w H' s'.heap → Qe ys H' →
      Q (.ref s'.heap.objs.size) { s' with heap := s'.heap.push { cls := .type "tuple", data := .seq vs.toArray } }) :
    wpAny (model X.prog X.w) A (call (.type "tuple") [.ref a]) Q E s5 := by
  refine callType_codes (Q₁ := fun obj s₁ => s₁.TypeIs obj "tuple" ∧ Q obj s₁) F.called_tuple (F.typeCall_tuple_1 _) F.entry_object_init
    (code_tuple_gx M fun s' vs ys H' h1 h2 h3 h4 h5 h6 h7 h8 => ⟨⟨_, Heap.get?_push_size _ rfl, rfl⟩, hQ s' vs ys H' h1 h2 h3 h4 h5 h6 h7 h8⟩) fun obj s₁ h₁ => ?_
  exact ⟨h₁.1, F.args_object_init_2 obj _, object_init_meets F.called_tuple.init.lookup F.called_tuple.made (by decide) X.prog X.w A.in1 _ s₁ ⟨h₁.1, rfl, h₁.2⟩⟩
end
end GX
set_option Elab.async false
set_option linter.all false
set_option maxRecDepth 100000
set_option maxHeartbeats 1000000
namespace GX
open PySem PySem.Spec PyProof.Rows L2 GenW GxR

def eTup : List V → Hp → VK → Prop := fun ys H' Q => ∀ p, H' p = none → Q (.ref p) (upd H' p (.tup ys))
def eJoin (sep : Str) : List V → Hp → VK → Prop := fun ys H' Q => ∃ zs : List Str, ys = zs.map V.str ∧ JoinOk sep zs = true ∧ Q (.str (Txt.join sep zs)) H'

section
variable {X : L2.Cx} {pins : List (Addr × Obj)} {σ : L2.St} {H : Hp}
theorem full_of {J : It} {elt tg iter : Expr} {ifs : List Expr} {scope : Scope} {own : List (Str × Nat)} {gpos : Pos} {a g' : Nat} {sc s5 : Shared} {cenv : Env} {fp : List Addr} {it : Addr} {tn : Nat → Heap → Prop} {go : Obj} {g : TG} {tt : TT} {te : TE} {Qe : List V → Hp → Prop} {W : Nat → Nat → List V → Hp → Prop} {m0 : Nat} {A : Around}
    (M : Made X pins σ own tg elt iter ifs scope gpos J H a g' sc s5 cenv fp it tn go) (hc : X.calm = true) (hh : A.handled = none) (hdp : A.depth < recursionLimit) (hfr : A.frames = some X.stack) (hco : scope.isCoroutine = false)
    (hg : PG (gcx X sc H cenv (A.deeper cenv) fp) tg g) (ht : PTs (gcx X sc H cenv (A.deeper cenv) fp) ifs tt) (he : PE (gcx X sc H cenv (A.deeper cenv) fp) elt te)
    (hw : W 0 m0 [] H) (gt : GTL J g tt te (own.map (·.2)) (wipe σ (own.map (·.2))) Qe W) : Full X H a g' sc s5 fp A Qe :=
  ⟨hh, hdp, M.gen _ M.at5, M.lim, M.os, M.bare, Heap.lt_size M.at5, fun S c0 s2 hS hk hos hg2 heS => made_list M hc hh hfr hco hg ht he hw gt hS hk hos (by rw [hg2]; exact M.bare) hg2 heS⟩

theorem pe_tupG {c P : Addr} {elt iter tg : Expr} {ifs : List Expr} {p pos gpos : Pos} {scope : Scope} {own : List (Str × Nat)} {wi : TI} {g : TG} {tt : TT} {te : TE} {k : Nat}
    (hr : Room (k + 1) X.A) (hc : X.calm = true) (hgl : Gl X "tuple") (hm : X.mg "tuple" = none) (hb : bootBuiltins "tuple" = some (.type "tuple")) (TB : TabB X.base X.mg c P) (hcode : X.env.code = .ref c)
    (ok : GOk X.N X.env.scope scope own) (hN : X.N.Nodup) (hi : PI X tg iter wi)
    (hg : ∀ s H C code A' fp, PG (gcx X s H (GCtx X scope C code) A' fp) tg g)
    (ht : ∀ s H C code A' fp, Room k A' → PTs (gcx X s H (GCtx X scope C code) A' fp) ifs tt)
    (he : ∀ s H C code A' fp, Room k A' → PE (gcx X s H (GCtx X scope C code) A' fp) elt te)
    (hs : ∀ v, genFold iter X.env v = pure v := by intro _; rfl)
    (hst : starEach [.GeneratorExp elt [⟨tg, iter, ifs, 0⟩] scope gpos] X.env = (false, eval (.GeneratorExp elt [⟨tg, iter, ifs, 0⟩] scope gpos) X.env) :: starEach [] X.env := by rfl) :
    PE X (.Call (.Name "tuple" p) [.GeneratorExp elt [⟨tg, iter, ifs, 0⟩] scope gpos] [] pos) (tGx P wi (bLst g tt te (own.map (·.2)) eTup)) := by
  refine ⟨fun pins s σ H Q I h => ?_⟩
  refine wpAny_Call_Name_kw (ld_blt I hgl hm hb ?_)
  refine PyProof.Rows.callWith_type1 ?_ hst (by rfl)
  rw [hst]
  show wpAny _ _ (spliced ((false, eval (.GeneratorExp elt [⟨tg, iter, ifs, 0⟩] scope gpos) X.env) :: backTo pos (starEach [] X.env))) _ _ s
  refine Calls.spliced_cons (gx_make hr TB hcode ok hN hi hs I h fun J H2 a g' sc s5 C code fp it tn go hR M => ?_)
  refine Calls.spliced_nil ?_
  obtain ⟨W, ⟨m0, hw⟩, gt⟩ := hR
  refine call_tuple_gx (X := X) (H := H2) (g := g') (sc := sc) (fp := fp) (full_of M hc hr.hd (by have := hr.dp; show X.A.depth < _; omega) M.inv.ok.frames ok.co (hg ..) (ht _ _ _ _ _ _ (room_gen hr rfl rfl (by show X.A.units + 1 + 1 + 1 + 1 ≤ _; omega))) (he _ _ _ _ _ _ (room_gen hr rfl rfl (by show X.A.units + 1 + 1 + 1 + 1 ≤ _; omega))) hw gt)
    fun s' vs ys H' hsz r hl os hb un hok hq => ?_
  have I' := out_inv M.inv M.fpok os hb un hok
  have I2 : Inv X pins σ (upd H' s'.heap.objs.size (.tup ys)) { s' with heap := s'.heap.push { cls := .type "tuple", data := .seq vs.toArray } } :=
    I'.laid (t' := s'.toks) (fun b o e => Heap.get?_push_of_some _ e) (Nat.le_refl _) (show ObjOk X.prog X.w _ _ _ (.tup ys) from ⟨hl, vs, r, IsTup.new _ _⟩)
  exact ⟨.ref s'.heap.objs.size, _, I2, rfl, hq _ (I'.hok.fresh (Nat.le_refl _))⟩

theorem strs_of : ∀ {zs : List Str} {vs : List Value}, Vals (zs.map V.str) vs → ∃ l : List (Str × Tok), strValues l = vs ∧ l.map (·.1) = zs
  | [], _, h => by cases h; exact ⟨[], rfl, rfl⟩
  | z :: zs, _, h => by
    cases h with
    | cons r t =>
      obtain ⟨tk, rfl⟩ := r
      obtain ⟨l, e1, e2⟩ := strs_of t
      subst e1
      exact ⟨(z, tk) :: l, rfl, by rw [List.map_cons, e2]⟩

theorem join_gx {a g : Nat} {sc s5 : Shared} {fp : List Addr} {Qe : List V → Hp → Prop} {A : Around} {E : Value → Shared → Prop} {x : Str} {t : Tok} {Q : Value → Shared → Prop} (M : Full X H a g sc s5 fp A.in1.in1.in1 Qe)
    (hQ : ∀ (s' : Shared) (ys : List V) (H' : Hp), s'.os = sc.os → AllBare s'.gens → Un (frs X.stack) fp H H' sc.heap s'.heap → HOk X.prog X.w H' s'.heap → Qe ys H' →
      ∃ zs : List Str, ys = zs.map V.str ∧ JoinOk x zs = true ∧ ∀ t' k, Q (.str (Txt.join x zs) t') { s' with toks := k }) :
    wpAny (model X.prog X.w) A (call (.builtin "str.join") [.str x t, .ref a]) Q E s5 := by
  refine wpAny_call (codeAny_call_builtin F.slot_str_join.plain F.entry_str_join (F.slot_str_join.check _ _ _ _ _ _ _ _ (typeIs_str _ _ _) (F.args_str_join_2 _ _) ?_))
  rw [join_tree_other]
  refine wpAny_bind (wpAny_typeOf M.gen.typeIs ?_)
  show wpAny _ A.in1 ((pyIter (.ref a)).tryCatch _ >>= fun it => collect it >>= fun items => joinTail x items) _ _ s5
  refine wpAny_bind (wpAny_tryCatch (wpAny_pyIter_gen M.gen ?_))
  refine wpAny_bind (collect_gx M fun s' vs ys H' hsz r hl q1 q2 q3 q4 q5 => ?_)
  obtain ⟨zs, rfl, hok, hpost⟩ := hQ s' ys H' q1 q2 q3 q4 q5
  obtain ⟨l, e1, e2⟩ := strs_of r
  rw [← e1]
  rw [← e2] at hok hpost
  unfold JoinOk at hok
  rw [Bool.not_eq_true'] at hok
  have g : Gives (joinTail x (strValues l)) (joinMade x l) := by
    have g0 := gives_joinTail x l hok
    cases l with
    | nil => exact g0
    | cons p r => cases r with
      | nil => exact g0
      | cons q r' => exact g0
  exact g X.prog X.w A (wants Q E) s' (post_join l ⟨joinFit_length hok, hpost⟩)

theorem pe_joinG {c P : Addr} {o elt iter tg : Expr} {ifs : List Expr} {apos pos gpos : Pos} {scope : Scope} {own : List (Str × Nat)} {sep : Str} {wi : TI} {g : TG} {tt : TT} {te : TE} {k : Nat} {n : Nat} {pp : Pos}
    (hr : Room (k + 1) X.A) (hc : X.calm = true) (TB : TabB X.base X.mg c P) (hcode : X.env.code = .ref c)
    (ok : GOk X.N X.env.scope scope own) (hN : X.N.Nodup) (hi : PI X tg iter wi)
    (hg : ∀ s H C code A' fp, PG (gcx X s H (GCtx X scope C code) A' fp) tg g)
    (ht : ∀ s H C code A' fp, Room k A' → PTs (gcx X s H (GCtx X scope C code) A' fp) ifs tt)
    (he : ∀ s H C code A' fp, Room k A' → PE (gcx X s H (GCtx X scope C code) A' fp) elt te)
    (hs : ∀ v, genFold iter X.env v = pure v := by intro _; rfl)
    (hbase : attributeBase (.Constant (.str sep) n pp) "join" X.env (eval (.Constant (.str sep) n pp) X.env) = eval (.Constant (.str sep) n pp) X.env := by rfl)
    (hfew : ((backTo pos (starEach [.GeneratorExp elt [⟨tg, iter, ifs, 0⟩] scope gpos] X.env)).all (fun x => !x.1) && (backToKw pos (keywordEach [] X.env)).all (fun x => x.1.isSome)
      && decide (([.GeneratorExp elt [⟨tg, iter, ifs, 0⟩] scope gpos] : List Expr).length + ([] : List Keyword).length + (if ([] : List Keyword).isEmpty then 0 else 1) < 30)) = true := by rfl)
    (hline : (apos.endLine == pos.line) = true := by rfl)
    (hst : starEach [.GeneratorExp elt [⟨tg, iter, ifs, 0⟩] scope gpos] X.env = (false, eval (.GeneratorExp elt [⟨tg, iter, ifs, 0⟩] scope gpos) X.env) :: starEach [] X.env := by rfl)
    (hplain : (backTo pos (starEach [] X.env)).any (·.1) = false := by rfl) :
    PE X (.Call (.Attribute (.Constant (.str sep) n pp) "join" apos) [.GeneratorExp elt [⟨tg, iter, ifs, 0⟩] scope gpos] [] pos) (tGx P wi (bLst g tt te (own.map (·.2)) (eJoin sep))) := by
  refine ⟨fun pins s σ H Q I h => ?_⟩
  refine wpAny_Call_method_late hbase hfew hline rfl (Calls.Constant_str ?_)
  refine ⟨"str", _, PySem.F.plainAttrs_str, PySem.F.slot_str_join, PySem.F.type_str_join, typeIs_str _ _ _, (fun _ e => nomatch e), ?_⟩
  rw [hst]
  refine Calls.callWith_builtin (by show (false || (backTo pos (starEach [] X.env)).any (·.1)) = false; rw [hplain] <;> rfl) (Calls.evalArgs_plain ?_)
  show wpAny _ _ (spliced ((false, eval (.GeneratorExp elt [⟨tg, iter, ifs, 0⟩] scope gpos) X.env) :: backTo pos (starEach [] X.env))) _ _ _
  refine Calls.spliced_cons (gx_make hr TB hcode ok hN hi hs (I.tok _) h fun J H2 a g' sc s5 C code fp it tn go hR M => ?_)
  refine Calls.spliced_nil ?_
  obtain ⟨W, ⟨m0, hw⟩, gt⟩ := hR
  refine join_gx (X := X) (H := H2) (g := g') (sc := sc) (fp := fp) (full_of M hc hr.hd (by have := hr.dp; show X.A.depth < _; omega) M.inv.ok.frames ok.co (hg ..) (ht _ _ _ _ _ _ (room_gen hr rfl rfl (by show X.A.units + 1 + 1 + 1 ≤ _; omega))) (he _ _ _ _ _ _ (room_gen hr rfl rfl (by show X.A.units + 1 + 1 + 1 ≤ _; omega))) hw gt)
    fun s' ys H' os hb un hok hq => ?_
  obtain ⟨zs, e, jok, q⟩ := hq
  have I' := out_inv M.inv M.fpok os hb un hok
  exact ⟨zs, e, jok, fun t' k' => ⟨.str _, H', I'.tok k', ⟨t', rfl⟩, q⟩⟩
end
end GX
set_option Elab.async false
set_option linter.all false
set_option maxRecDepth 100000
set_option maxHeartbeats 1000000
/-! DLT: tuples made with their object known: no dict of its own. -/
namespace DL
open PySem PySem.Spec PyProof.Rows L2 GX GenW GxR

def NT (H : Hp) (ys : List V) (Q : VK) : Prop := ∀ p (ob : Obj), H p = none → ob.dict = none → Q (.ref p) (upd H p (.frz ob (.tup ys)))
section
variable {X : L2.Cx} {pins : List (Addr × Obj)} {σ : L2.St} {H : Hp} {s : Shared}
theorem laidT {Q : VK} {ys : List V} {its : List Value} {h' : Heap} {t' : Nat} (I : Inv X pins σ H s) (r : Vals ys its) (z : ys.length ≤ sizeLine) (k : ∀ b u, s.heap.get? b = some u → h'.get? b = some u) (hp : s.heap.objs.size ≤ h'.objs.size) (q : NT H ys Q) :
    EP X pins σ Q (.ref h'.objs.size) { s with heap := h'.push { cls := .type "tuple", data := .seq its.toArray }, toks := t' } := by
  refine ⟨.ref h'.objs.size, _, I.laid (t' := t') (o := .frz { cls := .type "tuple", data := .seq its.toArray } (.tup ys)) (fun b u e => Heap.get?_push_of_some _ (k b u e)) hp ?_, rfl, q _ _ (I.hok.fresh hp) rfl⟩
  exact ⟨Heap.get?_push_size _ rfl, z, its, r, _, Heap.get?_push_size _ rfl, rfl, _, rfl⟩

def tTupF (t : TA) : TE := fun σ H Q => t σ H fun xs H1 => xs.length ≤ sizeLine ∧ NT H1 xs Q
theorem pe_tupF {es : List Expr} {t : TA} {pos : Pos} {x1} (h : PA X es t) : PE X (.Tuple es x1 pos) (tTupF t) := by
  refine ⟨fun pins s σ H Q I hq => ?_⟩
  refine wpAny_Tuple_spliced (thn (h.run pos pins s σ H _ I hq) fun us s1 ⟨xs, H1, I1, r, z, q⟩ => ⟨by rw [← r.length]; exact z, ?_⟩)
  exact laidT (t' := s1.toks) I1 r z (fun _ _ e => e) (Nat.le_refl _) q
def rCatF (K : PySem.W.Frag) : R2 := fun x y H Q => ∃ a b xs ys, x = .ref a ∧ y = .ref b ∧ SqT K H a xs ∧ SqT K H b ys ∧ xs.length + ys.length ≤ sizeLine ∧
  (xs = [] → Q (.ref b) H) ∧ (xs ≠ [] → ys = [] → Q (.ref a) H) ∧ (xs ≠ [] → ys ≠ [] → NT H (xs ++ ys) Q)
theorem op_catF : OpR X (binaryOp .Add) (rCatF X.K) := by
  intro pins s σ H x y v u Q I rx ry h
  obtain ⟨a, b, xs, ys, rfl, rfl, ha, hb, hz, q0, q1, q2⟩ := h
  cases rx
  cases ry
  obtain ⟨its, r1, p1, _⟩ := I.tuple ha
  obtain ⟨its2, r2, p2, _⟩ := I.tuple hb
  by_cases hx : xs = []
  · subst hx
    cases r1
    exact cat_tup0 p1 p2 ⟨.ref b, H, I, rfl, q0 rfl⟩
  · refine HT.cat_tup p1 p2 (fun z => hx (r1.nil_iff.mp z)) (fun z => ⟨.ref a, H, I, rfl, q1 hx (r2.nil_iff.mp z)⟩) (fun z => ?_) (by rw [← r1.length, ← r2.length]; exact hz)
    exact laidT (t' := s.toks) I (r1.append r2) (by rw [List.length_append]; exact hz) (fun _ _ e => e) (Nat.le_refl _) (q2 hx fun w => z (r2.nil_iff.mpr w))
def rSlF (K : PySem.W.Frag) : V → Option Int → Option Int → Hp → VK → Prop := fun x lo hi H Q => ∃ a xs, x = .ref a ∧ SqT K H a xs ∧
  (HT.sIx xs.length 0 lo = 0 ∧ HT.sIx xs.length xs.length hi = xs.length → Q (.ref a) H) ∧ (¬ (HT.sIx xs.length 0 lo = 0 ∧ HT.sIx xs.length xs.length hi = xs.length) → NT H (cutV xs lo hi) Q)
theorem sl_tupF : SlR X (rSlF X.K) := by
  intro pins s σ H x v vl vu lo hi sl Q I rx hs pl pu h
  obtain ⟨a, xs, rfl, hx, q1, q2⟩ := h
  cases rx
  obtain ⟨its, r, ht, hz⟩ := I.tuple hx
  have hlen : its.toArray.size = xs.length := by rw [List.size_toArray]; exact r.length.symm
  by_cases hw : HT.sIx xs.length 0 lo = 0 ∧ HT.sIx xs.length xs.length hi = xs.length
  · refine ⟨"tuple", _, PyProof.Rows.slot_tuple_getitem.lookup, ht.typeIs, ?_⟩
    exact getItem_tuple_whole ht hs pl pu (by rw [hlen]; exact hw) ⟨.ref a, H, I, rfl, q1 hw⟩
  · refine ⟨"tuple", _, PyProof.Rows.slot_tuple_getitem.lookup, ht.typeIs, ?_⟩
    refine HT.getItem_tuple_cut ht hs pl pu (by rw [hlen]; exact hw) ?_ (by rw [hlen]; exact hz)
    rw [hlen]
    exact laidT (t' := s.toks) I ((r.drop (HT.sIx xs.length 0 lo)).take (HT.sIx xs.length xs.length hi - HT.sIx xs.length 0 lo)) (Nat.le_trans (cutV_length xs lo hi) hz) (fun _ _ e => e) (Nat.le_refl _) (q2 hw)
theorem call_tupF : CallR X (.type "tuple") (fun xs H Q => ∃ p ys, xs = [.ref p] ∧ SqL X.K H p ys ∧ NT H ys Q) := by
  intro pins s σ H xs us Q I r h
  obtain ⟨p, ys, rfl, hq, q⟩ := h
  obtain ⟨u, rfl, rx⟩ := vals1 r
  cases rx
  obtain ⟨its, r', pl, hz⟩ := I.list hq
  have hlen := r'.length
  refine call_tuple_list pl.isList (fun h' kp => ?_) (by simp only [List.size_toArray] <;> omega)
  have I1 : Inv X pins σ H { s with heap := h' } := I.kept (t' := s.toks) kp
  exact laidT (s := { s with heap := h' }) (t' := s.toks) I1 r' hz (fun _ _ e => e) (Nat.le_refl _) q

/-- a tuple with no dict of its own: known as it stands, or written -/
def TupX (K : PySem.W.Frag) (H : Hp) (a : Addr) (us : List V) : Prop :=
  (∃ o : Obj, H a = some (.frz o (.tup us)) ∧ o.dict = none) ∨
    ∃ (o : Obj) (its : Array Value) (n : Nat), K.lookup a = some o ∧ o.cls = .type "tuple" ∧ o.dict = none ∧ o.data = .seq its n ∧ its.size ≤ sizeLine ∧ Vals us its.toList
theorem TupX.at {a : Addr} {us : List V} (I : Inv X pins σ H s) (h : TupX X.K H a us) : ∃ (o : Obj) (its : List Value) (n : Nat), s.heap.get? a = some o ∧ o.cls = .type "tuple" ∧ o.dict = none ∧ o.data = .seq its.toArray n ∧ its.length ≤ sizeLine ∧ Vals us its := by
  rcases h with ⟨o, h, hd⟩ | ⟨o, its, n, h1, h2, h3, h4, h5, h6⟩
  · obtain ⟨e, z, its, r, o2, e2, c2, n, d2⟩ := I.hok a _ h
    rw [e] at e2
    cases e2
    exact ⟨o, its, n, e, c2, hd, d2, by rw [← r.length]; exact z, r⟩
  · exact ⟨o, its.toList, n, I.kIn a o h1, h2, h3, by rw [h4], by simpa using h5, h6⟩
def tBMT (K : PySem.W.Frag) (r : V → List V → Hp → VK → Prop) (to : TE) (t : TA) : TE := fun σ H Q => to σ H fun x H1 => (∃ a us, x = .ref a ∧ TupX K H1 a us) ∧ t σ H1 fun xs H2 => r x xs H2 Q
theorem pe_bmT {o e : Expr} {es : List Expr} {to : TE} {t : TA} {name : Str} {apos cpos : Pos} {id : String} {r : V → List V → Hp → VK → Prop} (pa : PlainAttrs "tuple") (slot : Slot "tuple" name id) (hty : typeOf (.builtin id) = pure (.type "method_descriptor")) (hm : MtR X id r) (ho : PE X o to) (ha : PA X (e :: es) t)
    (hbase : attributeBase o name X.env (eval o X.env) = eval o X.env := by rfl)
    (hfew : ((backTo cpos (starEach (e :: es) X.env)).all (fun x => !x.1) && (backToKw cpos (keywordEach [] X.env)).all (fun x => x.1.isSome)
      && decide ((e :: es).length + ([] : List Keyword).length + (if ([] : List Keyword).isEmpty then 0 else 1) < 30)) = true := by rfl)
    (hline : (apos.endLine == cpos.line) = true := by rfl) (hs : starEach (e :: es) X.env = (false, eval e X.env) :: starEach es X.env := by rfl) (hplain : (backTo cpos (starEach es X.env)).any (·.1) = false := by rfl) :
    PE X (.Call (.Attribute o name apos) (e :: es) [] cpos) (tBMT X.K r to t) := by
  refine ⟨fun pins s σ H Q I h => ?_⟩
  refine wpAny_Call_method_late hbase hfew hline rfl (thn (ho.run pins s σ H _ I h) fun v s1 ⟨x, H1, I1, r1, ⟨a, us, ex, ty⟩, q1⟩ => ?_)
  subst ex
  obtain rfl : v = Value.ref a := r1
  obtain ⟨ob, its, n, e1, c1, d1, _⟩ := ty.at I1
  refine ⟨"tuple", id, pa, slot, hty, ⟨ob, e1, c1⟩, fun b e => by cases e; exact ⟨ob, e1, d1⟩, ?_⟩
  have hA := ha.run cpos pins s1 σ H1 _ I1 q1
  rw [hs] at hA ⊢
  refine Calls.callWith_builtin (by show (false || (backTo cpos (starEach es X.env)).any (·.1)) = false; rw [hplain] <;> rfl) (Calls.evalArgs_plain ?_)
  exact thn hA fun us s2 ⟨vs, H2, I2, r2, q2⟩ => hm pins s2 σ H2 (.ref a) vs (.ref a) us Q I2 rfl r2 q2
theorem count_eqU {x : V} : ∀ {xs : List V} {us : List Value}, Vals xs us → xs.all flatV = true → us.countP (eqU x) = xs.countP fun y => eqV y x
  | _, _, .nil, _ => rfl
  | _, _, @Paired.cons _ _ _ y u _ _ r t, h => by
    rw [List.all_cons, Bool.and_eq_true] at h
    rw [List.countP_cons, List.countP_cons, count_eqU t h.2, eqU_of r h.1]
theorem mt_countT : MtR X "tuple.count" (fun x xs H Q => ∃ a us y, x = .ref a ∧ xs = [y] ∧ SqT X.K H a us ∧ flatV y = true ∧ us.all flatV = true ∧ Q (.int (us.countP fun w => eqV w y)) H) := by
  intro pins s σ H x xs v us Q I rx rs h
  obtain ⟨a, ws, y, rfl, rfl, hq, fy, fa, q⟩ := h
  cases rx
  obtain ⟨u, rfl, ru⟩ := vals1 rs
  obtain ⟨its, r, ⟨⟨cls, dd, data, sl⟩, ho, hc, n, hd⟩, hz⟩ := I.tuple hq
  simp only at hc hd
  subst hc hd
  refine call_meets PySem.F.slot_tuple_count ⟨_, ho, rfl⟩ PySem.F.entry_tuple_count (PySem.F.args_tuple_count_2 _ _) (SeqAt.tuple_countAt a its.toArray n dd sl u (eqU y)) ⟨ho, fun w hw => ?_, ?_⟩
  · have hw' : w ∈ its := by simpa using hw
    obtain ⟨i, hi, e⟩ := List.getElem_of_mem hw'
    have hl := r.length
    have hv : ws[i]? = some (ws[i]'(by omega)) := List.getElem?_eq_getElem _
    obtain ⟨w2, e2, rw2⟩ := r.get hv
    rw [List.getElem?_eq_getElem hi, e] at e2
    cases e2
    have fw : flatV (ws[i]'(by omega)) = true := List.all_eq_true.mp fa _ (List.getElem_mem _)
    rw [eqU_of rw2 fw]
    exact eqAt_V rw2 ru fw fy
  · refine ⟨.int _, H, I.tok _, ⟨_, rfl⟩, ?_⟩
    have e : (its.toArray.toList.countP (eqU y)) = ws.countP fun w => eqV w y := by
      simpa using count_eqU r fa
    rw [e]
    exact q
end
def eTupF : List V → Hp → VK → Prop := fun ys H' Q => NT H' ys Q
section
variable {X : L2.Cx} {pins : List (Addr × Obj)} {σ : L2.St} {H : Hp}
theorem pe_tupGF {c P : Addr} {elt iter tg : Expr} {ifs : List Expr} {p pos gpos : Pos} {scope : Scope} {own : List (Str × Nat)} {wi : TI} {g : TG} {tt : TT} {te : TE} {k : Nat}
    (hr : Room (k + 1) X.A) (hc : X.calm = true) (hgl : Gl X "tuple") (hm : X.mg "tuple" = none) (hb : bootBuiltins "tuple" = some (.type "tuple")) (TB : TabB X.base X.mg c P) (hcode : X.env.code = .ref c)
    (ok : GOk X.N X.env.scope scope own) (hN : X.N.Nodup) (hi : PI X tg iter wi)
    (hg : ∀ s H C code A' fp, PG (gcx X s H (GCtx X scope C code) A' fp) tg g)
    (ht : ∀ s H C code A' fp, Room k A' → PTs (gcx X s H (GCtx X scope C code) A' fp) ifs tt)
    (he : ∀ s H C code A' fp, Room k A' → PE (gcx X s H (GCtx X scope C code) A' fp) elt te)
    (hs : ∀ v, genFold iter X.env v = pure v := by intro _; rfl)
    (hst : starEach [.GeneratorExp elt [⟨tg, iter, ifs, 0⟩] scope gpos] X.env = (false, eval (.GeneratorExp elt [⟨tg, iter, ifs, 0⟩] scope gpos) X.env) :: starEach [] X.env := by rfl) :
    PE X (.Call (.Name "tuple" p) [.GeneratorExp elt [⟨tg, iter, ifs, 0⟩] scope gpos] [] pos) (tGx P wi (bLst g tt te (own.map (·.2)) eTupF)) := by
  refine ⟨fun pins s σ H Q I h => ?_⟩
  refine wpAny_Call_Name_kw (ld_blt I hgl hm hb ?_)
  refine PyProof.Rows.callWith_type1 ?_ hst (by rfl)
  rw [hst]
  show wpAny _ _ (spliced ((false, eval (.GeneratorExp elt [⟨tg, iter, ifs, 0⟩] scope gpos) X.env) :: backTo pos (starEach [] X.env))) _ _ s
  refine Calls.spliced_cons (gx_make hr TB hcode ok hN hi hs I h fun J H2 a g' sc s5 C code fp it tn go hR M => ?_)
  refine Calls.spliced_nil ?_
  obtain ⟨W, ⟨m0, hw⟩, gt⟩ := hR
  refine call_tuple_gx (X := X) (H := H2) (g := g') (sc := sc) (fp := fp) (full_of M hc hr.hd (by have := hr.dp; show X.A.depth < _; omega) M.inv.ok.frames ok.co (hg ..) (ht _ _ _ _ _ _ (room_gen hr rfl rfl (by show X.A.units + 1 + 1 + 1 + 1 ≤ _; omega))) (he _ _ _ _ _ _ (room_gen hr rfl rfl (by show X.A.units + 1 + 1 + 1 + 1 ≤ _; omega))) hw gt)
    fun s' vs ys H' hsz r hl os hb un hok hq => ?_
  exact laidT (t' := s'.toks) (out_inv M.inv M.fpok os hb un hok) r hl (fun _ _ e => e) (Nat.le_refl _) hq
end
end DL
set_option Elab.async false
set_option linter.all false
set_option maxRecDepth 100000
set_option maxHeartbeats 1000000
/-! DT0: a dict whose keys are tuples of texts, as one known object. -/
namespace DL
open PySem PySem.Spec PyProof.Rows L2

/-- something stands there -/
def alive (D : Addr) : HO := .ext fun h => ∃ o, h.get? D = some o
theorem alive_ok {P : Program} {w : World} {H : Hp} {h : Heap} {D : Addr} {o : Obj} (e : h.get? D = some o) : ObjOk P w H h D (alive D) := ⟨⟨o, e⟩, ⟨o, e⟩, fun h1 h2 ⟨o1, e1⟩ k => ⟨o1, k o1 e1⟩⟩
/-- the object of a dict with such keys, hs their hash -/
def TDo (hs : List Key → Int) (D : Addr) (o : Obj) (xs : List (List Key × Addr × Value)) : Prop :=
  (D == sysModules) = false ∧ o.ExactDict ∧ xs.length ≤ sizeLine ∧ (xs.map (·.1)).Nodup ∧ ∃ (es : Array DictEntry) (ep : Nat), o.data = .dict es ep ∧ es.toList = xs.map fun x => (⟨hs x.1, .ref x.2.1, x.2.2⟩ : DictEntry)
/-- the hash of such keys -/
def hsOf (P : Program) (w : World) : List Key → Int := (tupleKind (mixKind P w)).hash
/-- the hash of a set's members, and whether the text's order holds -/
structure SetSp where
  hs : List Int → Int
  fl : Bool
  deriving Inhabited
/-- the object of a set of tuples of ints -/
def SetOb (sp : SetSp) (o : Obj) (L : List (Addr × List Int)) : Prop :=
  ∃ (es : Array (Int × Value)) (ep : Nat) (t : SetTable), o.ExactSet ∧ o.data = .set es ep t ∧ es.toList = L.map (fun p => (sp.hs p.2, Value.ref p.1)) ∧ TabOk t (L.map fun p => sp.hs p.2) ∧ (L.map (·.2)).Nodup ∧ t.plain = true ∧ (sp.fl = true ∨ t.led = true) ∧ L.length * 5 < t.mask * 3 ∧ L.length < 64
def spOf (P : Program) (w : World) : SetSp := ⟨thash P w, w.params.followText "set-order"⟩
section
variable {P : Program} {w : World} {H : Hp} {h : Heap} {D : Addr} {o : Obj} {xs : List (List Key × Addr × Value)}
theorem TDo.of (hd : (D == sysModules) = false) (hz : xs.length ≤ sizeLine) (m : h.DictOfH (tupleKind (mixKind P w)) D xs) : ∃ o, h.get? D = some o ∧ TDo (hsOf P w) D o xs := by
  obtain ⟨o, es, ep, ho, hx, hdt, he, _, hn⟩ := m
  exact ⟨o, ho, hd, hx, hz, hn, es, ep, hdt, he⟩
theorem TDo.dict (t : TDo (hsOf P w) D o xs) (ho : h.get? D = some o) (hk : ∀ x ∈ xs, (tupleKind (mixKind P w)).is h x.1 x.2.1) : h.DictOfH (tupleKind (mixKind P w)) D xs := by
  obtain ⟨hd, hx, hz, hn, es, ep, hdt, he⟩ := t
  exact ⟨o, es, ep, ho, hx, hdt, he, hk, hn⟩
theorem items_mix : ∀ {ks : List Key} {us : List Value}, Vals (ks.map kV) us → ItemsAre (mixKind P w) ks us
  | [], _, .nil => .nil
  | k :: ks, _, .cons r t => .cons (kV_is r) (items_mix t)
end
section
variable {X : L2.Cx} {pins : List (Addr × Obj)} {σ : L2.St} {H : Hp} {s : Shared} {b D : Addr} {k : List Key}
theorem key_is (I : Inv X pins σ H s) (h : SqT X.K H b (k.map kV)) : (tupleKind (mixKind X.prog X.w)).is s.heap k b := by
  obtain ⟨its, r, ⟨o, ho, hc, n, hd⟩, _⟩ := I.tuple h
  exact ⟨o, its.toArray, n, ho, hc, hd, by simpa using items_mix r⟩
end
section
variable {P : Program} {w : World} {h : Heap} {a : Addr} {o : Obj} {L : List (Addr × List Int)} {es : Array (Int × Value)} {ep : Nat} {t : SetTable}
theorem SetOb.of (R : SetTR P w h a L es ep t) : ∃ o, h.get? a = some o ∧ SetOb (spOf P w) o L := by
  obtain ⟨o, ho, hx, hd⟩ := R.ob
  exact ⟨o, ho, es, ep, t, hx, hd, R.rows, R.tab, R.nd, R.plain, R.led, R.room, R.few⟩
theorem SetOb.full (s : SetOb (spOf P w) o L) (ho : h.get? a = some o) (ht : ∀ p ∈ L, IsT P w h p.2 p.1) : ∃ es ep t, SetTR P w h a L es ep t := by
  obtain ⟨es, ep, t, hx, hd, h1, h2, h3, h4, h5, h6, h7⟩ := s
  exact ⟨es, ep, t, ⟨o, ho, hx, hd⟩, h1, h2, h3, ht, h4, h5, h6, h7⟩
end
end DL
set_option Elab.async false
set_option linter.all false
set_option maxRecDepth 100000
set_option maxHeartbeats 1000000
/-! DL1: plain data, what stands for it, results. -/
namespace DL
open PySem PySem.Spec PyProof.Rows L2

/-- plain data -/
inductive D where
  | non | bl (b : Bool) | int (i : Int) | str (z : List Nat) | ty (n : String)
  | tup (xs : List D) | wt (xs : List D) | lst (xs : List D) | dS (kvs : List (List Nat × D)) | dT (hs : List Key → Int) (kvs : List (List (List Nat) × D))
  | st (sp : SetSp) (ks : List (List Int))
  | row | fn (j : Nat) (a : Addr)
  deriving Inhabited

/-- the drawn row -/
structure S where
  script : List Int
  place : Int
  seed : Int
  rest : Int
  dk : Option (Addr × List (Str × D)) := none

/-- an exception: its class's name, what its attribute index holds -/
structure Exn where
  cls : Str
  idx : Option D

inductive Res (α : Type) where
  | ok (a : α) (s : S)
  | exc (x : Exn) (s : S)
  | bad
abbrev M (α : Type) := S → Res α
def mpure {α : Type} (a : α) : M α := fun s => .ok a s
def mbad {α : Type} : M α := fun _ => .bad
def mbind {α β : Type} (m : M α) (k : α → M β) : M β := fun s => match m s with
  | .ok a s' => k a s'
  | .exc x s' => .exc x s'
  | .bad => .bad
def mopt {α : Type} (o : Option α) : M α := fun s => match o with
  | some a => .ok a s
  | none => .bad
theorem mbind_ok {α β : Type} {m : M α} {k : α → M β} {s s' : S} {a : α} (h : m s = .ok a s') : mbind m k s = k a s' := by
  unfold mbind; rw [h]
theorem mbind_exc {α β : Type} {m : M α} {k : α → M β} {s s' : S} {x : Exn} (h : m s = .exc x s') : mbind m k s = .exc x s' := by
  unfold mbind; rw [h]
theorem mbind_bad {α β : Type} {m : M α} {k : α → M β} {s : S} (h : m s = .bad) : mbind m k s = .bad := by
  unfold mbind; rw [h]

def ST (z : List Nat) : Str := ⟨z.toArray⟩
theorem ST_len (z : List Nat) : (ST z).length = z.length := by simp [ST, Str.length]
theorem ST_toList (z : List Nat) : (ST z).cps.toList = z := by simp [ST]
theorem ST_inj {a b : List Nat} (h : ST a = ST b) : a = b := by
  have := congrArg (fun s : Str => s.cps.toList) h
  simpa [ST] using this

/-- flat data -/
inductive Atom (R : Addr) : V → D → Prop
  | non : Atom R .non .non
  | bl {b : Bool} : Atom R (.bl b) (.bl b)
  | int {i : Int} : Atom R (.int i) (.int i)
  | str {z : List Nat} : Atom R (.str (ST z)) (.str z)
  | ty {n : String} : Atom R (.ty n) (.ty n)
  | row : Atom R (.ref R) .row
  | fn {j : Nat} {a : Addr} : Atom R (.ref a) (.fn j a)

def kS : List Nat × D → Key := fun p => .inr (ST p.1)
def kT : List (List Nat) × D → List Key := fun p => p.1.map fun z => .inr (ST z)

theorem TupX.sq {K : PySem.W.Frag} {H : Hp} {a : Addr} {us : List V} (h : TupX K H a us) : SqT K H a us := by
  rcases h with ⟨o, h, _⟩ | ⟨o, its, n, h1, h2, h3, h4, h5, h6⟩
  · exact .inl (.inr ⟨o, h⟩)
  · exact .inr ⟨o, its, n, h1, h2, h4, h5, h6⟩
/-- these values stand for these data; nothing of it stands where B says -/
inductive Rs (K : PySem.W.Frag) (H : Hp) (R : Addr) (B : Addr → Prop) : List V → List D → Prop
  | nil : Rs K H R B [] []
  | atom {v : V} {d : D} {vs : List V} {ds : List D} : Atom R v d → Rs K H R B vs ds → Rs K H R B (v :: vs) (d :: ds)
  | tup {a : Addr} {us vs : List V} {es ds : List D} : TupX K H a us → ¬ B a → Rs K H R B us es → Rs K H R B vs ds → Rs K H R B (.ref a :: vs) (.tup es :: ds)
  | wt {a : Addr} {us vs : List V} {es ds : List D} : SqT K H a us → ¬ B a → Rs K H R B us es → Rs K H R B vs ds → Rs K H R B (.ref a :: vs) (.wt es :: ds)
  | lst {a : Addr} {us vs : List V} {es ds : List D} : H a = some (.lst us) → ¬ B a → Rs K H R B us es → Rs K H R B vs ds → Rs K H R B (.ref a :: vs) (.lst es :: ds)
  | dS {a : Addr} {o : Obj} {kvs : List (Key × V)} {es : List (List Nat × D)} {vs : List V} {ds : List D} : H a = some (.frz o (.dK kvs)) → ¬ B a → kvs.map (·.1) = es.map kS → Rs K H R B (kvs.map (·.2)) (es.map (·.2)) → Rs K H R B vs ds → Rs K H R B (.ref a :: vs) (.dS es :: ds)
  | dT {hs : List Key → Int} {a : Addr} {o : Obj} {xs : List (List Key × Addr × Value)} {us : List V} {es : List (List (List Nat) × D)} {vs : List V} {ds : List D} : H a = some (.frz o (alive a)) → ¬ B a → (TDo hs a o xs ∧ xs.map (·.1) = es.map kT ∧ Vals us (xs.map (·.2.2))) →
      Rs K H R B (xs.map fun x => .ref x.2.1) (es.map fun e => .tup (e.1.map .str)) → Rs K H R B us (es.map (·.2)) → Rs K H R B vs ds → Rs K H R B (.ref a :: vs) (.dT hs es :: ds)
  | st {sp : SetSp} {a : Addr} {o : Obj} {L : List (Addr × List Int)} {ks : List (List Int)} {vs : List V} {ds : List D} : H a = some (.frz o (alive a)) → ¬ B a → (SetOb sp o L ∧ ∀ k, k ∈ L.map (·.2) ↔ k ∈ ks) →
      Rs K H R B (L.map fun p => .ref p.1) (L.map fun p => .tup (p.2.map .int)) → Rs K H R B vs ds → Rs K H R B (.ref a :: vs) (.st sp ks :: ds)
abbrev R1 (K : PySem.W.Frag) (H : Hp) (R : Addr) (B : Addr → Prop) (v : V) (d : D) : Prop := Rs K H R B [v] [d]

def DataHO : HO → Prop
  | .lst _ => True
  | .tup _ => True
  | .dK _ => True
  | .dT _ => True
  | _ => False
/-- what may be read at H may be read at H' -/
def RdLe (B : Addr → Prop) (H H' : Hp) : Prop := (∀ a u, ¬ B a → DataHO u → Rd H a u → Rd H' a u) ∧ (∀ a o u, ¬ B a → H a = some (.frz o u) → H' a = some (.frz o u)) ∧ ∀ a us, ¬ B a → H a = some (.lst us) → H' a = some (.lst us)
section
variable {K : PySem.W.Frag} {H H' : Hp} {R : Addr} {B B' : Addr → Prop} {v : V} {d : D} {vs us : List V} {ds es : List D}
theorem RdLe.sqL {a : Addr} {xs : List V} (r : RdLe B H H') (n : ¬ B a) (h : SqL K H a xs) : SqL K H' a xs := by
  rcases h with h | h
  · exact .inl (r.1 a _ n trivial h)
  · exact .inr h
theorem RdLe.sqT {a : Addr} {xs : List V} (r : RdLe B H H') (n : ¬ B a) (h : SqT K H a xs) : SqT K H' a xs := by
  rcases h with h | h
  · exact .inl (r.1 a _ n trivial h)
  · exact .inr h
theorem RdLe.tupX {a : Addr} {xs : List V} (r : RdLe B H H') (n : ¬ B a) (h : TupX K H a xs) : TupX K H' a xs := by
  rcases h with ⟨o, h, hd⟩ | h
  · exact .inl ⟨o, r.2.1 a o _ n h, hd⟩
  · exact .inr h
theorem Rs.mono (r : RdLe B H H') (h : Rs K H R B vs ds) : Rs K H' R B vs ds := by
  induction h with
  | nil => exact .nil
  | atom a _ ih => exact .atom a ih
  | tup s n _ _ ih1 ih2 => exact .tup (r.tupX n s) n ih1 ih2
  | wt s n _ _ ih1 ih2 => exact .wt (r.sqT n s) n ih1 ih2
  | lst s n _ _ ih1 ih2 => exact .lst (r.2.2 _ _ n s) n ih1 ih2
  | dS s n e _ _ ih1 ih2 => exact .dS (r.2.1 _ _ _ n s) n e ih1 ih2
  | dT s n e _ _ _ ih1 ih2 ih3 => exact .dT (r.2.1 _ _ _ n s) n e ih1 ih2 ih3
  | st s n e _ _ ih1 ih2 => exact .st (r.2.1 _ _ _ n s) n e ih1 ih2
theorem Rs.less (hb : ∀ a, B' a → B a) (h : Rs K H R B vs ds) : Rs K H R B' vs ds := by
  induction h with
  | nil => exact .nil
  | atom a _ ih => exact .atom a ih
  | tup s n _ _ ih1 ih2 => exact .tup s (fun z => n (hb _ z)) ih1 ih2
  | wt s n _ _ ih1 ih2 => exact .wt s (fun z => n (hb _ z)) ih1 ih2
  | lst s n _ _ ih1 ih2 => exact .lst s (fun z => n (hb _ z)) ih1 ih2
  | dS s n e _ _ ih1 ih2 => exact .dS s (fun z => n (hb _ z)) e ih1 ih2
  | dT s n e _ _ _ ih1 ih2 ih3 => exact .dT s (fun z => n (hb _ z)) e ih1 ih2 ih3
  | st s n e _ _ ih1 ih2 => exact .st s (fun z => n (hb _ z)) e ih1 ih2
theorem Rs.length (h : Rs K H R B vs ds) : vs.length = ds.length := by
  induction h <;> simp_all
theorem Rs.split (h : Rs K H R B (v :: vs) (d :: ds)) : R1 K H R B v d ∧ Rs K H R B vs ds := by
  cases h with
  | atom a t => exact ⟨.atom a .nil, t⟩
  | tup s n x t => exact ⟨.tup s n x .nil, t⟩
  | wt s n x t => exact ⟨.wt s n x .nil, t⟩
  | lst s n x t => exact ⟨.lst s n x .nil, t⟩
  | dS s n e x t => exact ⟨.dS s n e x .nil, t⟩
  | dT s n e y x t => exact ⟨.dT s n e y x .nil, t⟩
  | st s n e x t => exact ⟨.st s n e x .nil, t⟩
theorem Rs.cons (h : R1 K H R B v d) (t : Rs K H R B vs ds) : Rs K H R B (v :: vs) (d :: ds) := by
  cases h with
  | atom a _ => exact .atom a t
  | tup s n x _ => exact .tup s n x t
  | wt s n x _ => exact .wt s n x t
  | lst s n x _ => exact .lst s n x t
  | dS s n e x _ => exact .dS s n e x t
  | dT s n e y x _ => exact .dT s n e y x t
  | st s n e x _ => exact .st s n e x t
theorem Rs.append : ∀ {vs us : List V} {ds es : List D}, Rs K H R B vs ds → Rs K H R B us es → Rs K H R B (vs ++ us) (ds ++ es)
  | [], us, ds, es, h, t => by cases h; exact t
  | v :: vs, us, ds, es, h, t => by
    cases ds with
    | nil => cases h
    | cons d ds =>
      obtain ⟨a, b⟩ := h.split
      exact Rs.cons a (Rs.append b t)
theorem Rs.get : ∀ {vs : List V} {ds : List D} {i : Nat} {d : D}, Rs K H R B vs ds → ds[i]? = some d → ∃ v, vs[i]? = some v ∧ R1 K H R B v d
  | [], ds, i, d, h, e => by cases h; simp at e
  | v :: vs, [], i, d, h, e => by cases h
  | v :: vs, d' :: ds, 0, d, h, e => by
    simp at e; subst e
    exact ⟨v, rfl, h.split.1⟩
  | v :: vs, d' :: ds, i + 1, d, h, e => by
    obtain ⟨w, h1, h2⟩ := Rs.get (i := i) (d := d) h.split.2 (by simpa using e)
    exact ⟨w, by simpa using h1, h2⟩
theorem Rs.getV : ∀ {vs : List V} {ds : List D} {i : Nat} {v : V}, Rs K H R B vs ds → vs[i]? = some v → ∃ d, ds[i]? = some d ∧ R1 K H R B v d := fun {vs ds i v} h e => by
  have hl := h.length
  have hi : i < vs.length := (List.getElem?_eq_some_iff.mp e).1
  obtain ⟨v', e', r⟩ := h.get (i := i) (d := ds[i]'(by omega)) (List.getElem?_eq_getElem _)
  rw [e] at e'
  cases e'
  exact ⟨_, List.getElem?_eq_getElem _, r⟩
theorem Rs.drop : ∀ {vs : List V} {ds : List D} (n : Nat), Rs K H R B vs ds → Rs K H R B (vs.drop n) (ds.drop n)
  | _, _, 0, h => h
  | [], ds, n + 1, h => by cases h; exact .nil
  | v :: vs, [], n + 1, h => by cases h
  | v :: vs, d :: ds, n + 1, h => Rs.drop n h.split.2
theorem Rs.take : ∀ {vs : List V} {ds : List D} (n : Nat), Rs K H R B vs ds → Rs K H R B (vs.take n) (ds.take n)
  | _, _, 0, h => by simp; exact .nil
  | [], ds, n + 1, h => by cases h; exact .nil
  | v :: vs, [], n + 1, h => by cases h
  | v :: vs, d :: ds, n + 1, h => by
    simp only [List.take_succ_cons]
    exact Rs.cons h.split.1 (Rs.take n h.split.2)
theorem R1.atom' {K : PySem.W.Frag} (a : Atom R v d) : R1 K H R B v d := .atom a .nil
end

/-- what a def's run knows: the row's place, what is kept away from, the heap at the entry -/
structure G where
  R : Addr
  B : Addr → Prop
  H0 : Hp

/-- the tables: those of generator expressions, and those that tell lambdas of a name -/
structure Tb where
  gs : List Addr
  ls : List (Addr × Str)
  dc : Addr := 0
instance : Membership Addr Tb := ⟨fun T P => P ∈ T.gs⟩
@[simp] theorem Tb.mem_mk {P : Addr} {a : List Addr} {b : List (Addr × Str)} {dc : Addr} : P ∈ (⟨a, b, dc⟩ : Tb) ↔ P ∈ a := Iff.rfl
theorem codeO_ext (c : Addr) (q : Str) : ∃ φ, LamX.CodeO c q = .ext φ := by unfold LamX.CodeO; exact ⟨_, rfl⟩
/-- what keeps the tables that tell lambdas -/
theorem tabs_keep {ls : List (Addr × Str)} {H H' : Hp} (t : LamX.Tabs ls H) (k1 : ∀ p ∈ ls, ∀ ps, H p.1 = some (.tbl ps) → H' p.1 = some (.tbl ps)) (k2 : ∀ c φ, H c = some (.ext φ) → H' c = some (.ext φ)) : LamX.Tabs ls H' := fun p hp => by
  obtain ⟨ps, h1, h2, h3⟩ := t p hp
  refine ⟨ps, k1 p hp ps h1, h2, fun pos cv hc => ?_⟩
  obtain ⟨c, e1, e2⟩ := h3 pos cv hc
  obtain ⟨φ, eφ⟩ := codeO_ext c p.2
  exact ⟨c, e1, by rw [eφ] at e2 ⊢; exact k2 c φ e2⟩
mutual
/-- no dict within -/
def noS : D → Bool
  | .dS _ => false
  | .dT _ _ => false
  | .st _ _ => false
  | .tup xs => noSs xs
  | .wt xs => noSs xs
  | .lst xs => noSs xs
  | _ => true
def noSs : List D → Bool
  | [] => true
  | x :: xs => noS x && noSs xs
end
/-- the desk stands there, with these fields -/
def DskAt (K : PySem.W.Frag) (C R : Addr) (B : Addr → Prop) (H : Hp) (a : Addr) (fs : List (Str × D)) : Prop :=
  ∃ (dx : Addr) (fv : List (Str × V)), H a = some (.ins C dx fv) ∧ fv.map (·.1) = fs.map (·.1) ∧ Rs K H R B (fv.map (·.2)) (fs.map (·.2)) ∧ noSs (fs.map (·.2)) = true
structure Wo (K : PySem.W.Frag) (T : Tb) (g : G) (H : Hp) (z : S) : Prop where
  row : ∃ SA, ¬ g.B SA ∧ SqL K H SA (z.script.map V.int) ∧ H g.R = some (.lst [.ref SA, .int z.place, .int z.seed, .int z.rest])
  tabs : ∀ P ∈ T, GxR.TabG H P
  bad : g.B g.R
  dom : ∀ a, g.B a → H a ≠ none
  kn : ∀ a, g.B a → K.lookup a = none
  lam : LamX.Tabs T.ls H
  dis : ∀ p ∈ T.ls, ¬ p.1 ∈ T
  dsk : ∀ a fs, z.dk = some (a, fs) → DskAt K T.dc g.R g.B H a fs
/-- what is only changed by its own rules -/
def Stay : HO → Prop
  | .tbl _ => False
  | .ins _ _ _ => False
  | _ => True
structure Ext (R : Addr) (H H' : Hp) : Prop where
  keep : ∀ a o, H a = some o → a ≠ R → Stay o → H' a = some o
  dom : ∀ a, H a ≠ none → H' a ≠ none
  row : ∀ x xs, H R = some (.lst (x :: xs)) → ∃ ys, H' R = some (.lst (x :: ys))
section
variable {K : PySem.W.Frag} {T : Tb} {g : G} {H H' H2 : Hp} {z : S} {R : Addr} {B : Addr → Prop}
theorem DskAt.mono {K : PySem.W.Frag} {C R a : Addr} {B : Addr → Prop} {H H' : Hp} {fs : List (Str × D)} (r : RdLe B H H') (k : ∀ C dx fv, H a = some (.ins C dx fv) → H' a = some (.ins C dx fv)) (h : DskAt K C R B H a fs) : DskAt K C R B H' a fs := by
  obtain ⟨dx, fv, h1, h2, h3, h4⟩ := h
  exact ⟨dx, fv, k _ _ _ h1, h2, h3.mono r, h4⟩
theorem DskAt.less {K : PySem.W.Frag} {C R a : Addr} {B B' : Addr → Prop} {H : Hp} {fs : List (Str × D)} (hb : ∀ a, B' a → B a) (h : DskAt K C R B H a fs) : DskAt K C R B' H a fs := by
  obtain ⟨dx, fv, h1, h2, h3, h4⟩ := h
  exact ⟨dx, fv, h1, h2, h3.less hb, h4⟩
theorem Stay.ne {o : HO} (h : Stay o) : ∀ ps, o ≠ .tbl ps := fun ps e => by rw [e] at h; exact h
theorem Stay.ni {o : HO} (h : Stay o) : ∀ C dx fv, o ≠ .ins C dx fv := fun C dx fv e => by rw [e] at h; exact h
theorem data_stay {o : HO} (h : DataHO o) : Stay o := by cases o <;> first | exact h.elim | trivial
theorem Ext.refl : Ext R H H := ⟨fun _ _ e _ _ => e, fun _ e => e, fun _ xs e => ⟨xs, e⟩⟩
theorem Ext.trans (a : Ext R H H') (b : Ext R H' H2) : Ext R H H2 := ⟨fun c o e h1 h2 => b.keep c o (a.keep c o e h1 h2) h1 h2, fun c h => b.dom c (a.dom c h), fun x xs e => (a.row x xs e).elim fun ys e2 => b.row x ys e2⟩
theorem Ext.rd (a : Ext R H H') (hB : B R) : RdLe B H H' := ⟨fun c u n du r => by
  have hc : c ≠ R := fun e => n (by rw [e]; exact hB)
  rcases r with r | ⟨o, r⟩
  · exact .inl (a.keep c _ r hc (data_stay du))
  · exact .inr ⟨o, a.keep c _ r hc trivial⟩, fun c o us n e => a.keep c _ e (fun z => n (by rw [z]; exact hB)) trivial, fun c us n e => a.keep c _ e (fun z => n (by rw [z]; exact hB)) trivial⟩
theorem Ext.new {p : Addr} {o : HO} (hp : H p = none) : Ext R H (upd H p o) :=
  ⟨fun a u e _ _ => by rw [upd_ne (ne_of_none e hp)]; exact e, fun a h => by
    by_cases e : a = p
    · rw [e, upd_same]; exact fun z => by cases z
    · rw [upd_ne e]; exact h, fun x xs e => ⟨xs, by rw [upd_ne (ne_of_none e hp)]; exact e⟩⟩
theorem Wo.new {p : Addr} {o : HO} (w : Wo K T g H z) (hp : H p = none) : Wo K T g (upd H p o) z := by
  obtain ⟨⟨SA, h1, h2, h3⟩, ht, hb, hd, hk, hl, hi, hz⟩ := w
  refine ⟨⟨SA, h1, ?_, ?_⟩, fun P hP => ?_, hb, fun a ha => ?_, hk, tabs_keep hl (fun q _ ps e => by rw [upd_ne (ne_of_none e hp)]; exact e) fun c φ e => by rw [upd_ne (ne_of_none e hp)]; exact e, hi, fun a fs e => (hz a fs e).mono (Ext.rd (.new hp) hb) fun C dx fv q => by rw [upd_ne (ne_of_none q hp)]; exact q⟩
  · rcases h2 with (q | ⟨ob, q⟩) | q
    · exact .inl (.inl (by rw [upd_ne (ne_of_none q hp)]; exact q))
    · exact .inl (.inr ⟨ob, by rw [upd_ne (ne_of_none q hp)]; exact q⟩)
    · exact .inr q
  · rw [upd_ne (ne_of_none h3 hp)]; exact h3
  · obtain ⟨ps, q, r⟩ := ht P hP
    exact ⟨ps, by rw [upd_ne (ne_of_none q hp)]; exact q, r⟩
  · by_cases e : a = p
    · rw [e, upd_same]; exact fun z => by cases z
    · rw [upd_ne e]; exact hd a ha
theorem Wo.less {B' : Addr → Prop} {H0' : Hp} (w : Wo K T g H z) (hb : ∀ a, B' a → g.B a) (hR : B' g.R) : Wo K T ⟨g.R, B', H0'⟩ H z := by
  obtain ⟨⟨SA, h1, h2, h3⟩, ht, hb', hd, hk, hl, hi, hz⟩ := w
  exact ⟨⟨SA, fun q => h1 (hb _ q), h2, h3⟩, ht, hR, fun a h => hd a (hb a h), fun a h => hk a (hb a h), hl, hi, fun a fs e => (hz a fs e).less hb⟩
end
end DL
set_option Elab.async false
set_option linter.all false
set_option maxRecDepth 100000
set_option maxHeartbeats 1000000
/-! DL2: slots, states, readings by data. -/
namespace DL
open PySem PySem.Spec PyProof.Rows L2

inductive Sl where
  | val (d : D)
  | own (d : D)
abbrev EnD := List (Option Sl)

structure Yx where
  K : PySem.W.Frag
  T : Tb
  mg : Str → Option Value
  E : XK

def Own (σ : L2.St) (ρ : EnD) (a : Addr) : Prop := ∃ (i : Nat) (d : D), ρ[i]? = some (some (.own d)) ∧ σ[i]? = some (some (.ref a))
def bad (g : G) (σ : L2.St) (ρ : EnD) (a : Addr) : Prop := g.B a ∨ Own σ ρ a

def OwnAt (K : PySem.W.Frag) (H : Hp) (R : Addr) (B : Addr → Prop) (a : Addr) : D → Prop
  | .lst ds => ∃ vs, H a = some (.lst vs) ∧ Rs K H R B vs ds
  | .dS es => ∃ kvs : List (Key × V), H a = some (.dK kvs) ∧ kvs.map (·.1) = es.map kS ∧ Rs K H R B (kvs.map (·.2)) (es.map (·.2))
  | _ => False

abbrev gb (g : G) (σ : L2.St) (ρ : EnD) : G := ⟨g.R, bad g σ ρ, g.H0⟩
structure StR (Y : Yx) (g : G) (H : Hp) (σ : L2.St) (ρ : EnD) (z : S) : Prop where
  wo : Wo Y.K Y.T (gb g σ ρ) H z
  gR : g.B g.R
  len : σ.length = ρ.length
  val : ∀ (i : Nat) (d : D), ρ[i]? = some (some (.val d)) → ∃ v, σ[i]? = some (some v) ∧ R1 Y.K H g.R (bad g σ ρ) v d
  own : ∀ (i : Nat) (d : D), ρ[i]? = some (some (.own d)) → ∃ a, σ[i]? = some (some (.ref a)) ∧ ¬ g.B a ∧ g.H0 a = none ∧ Y.K.lookup a = none ∧ OwnAt Y.K H g.R (bad g σ ρ) a d
  inj : ∀ (i j : Nat) (d e : D) (a : Addr), ρ[i]? = some (some (.own d)) → ρ[j]? = some (some (.own e)) → σ[i]? = some (some (.ref a)) → σ[j]? = some (some (.ref a)) → i = j
  ext : Ext g.R g.H0 H

section
variable {Y : Yx} {g : G} {H H' H2 : Hp} {σ σ' : L2.St} {ρ ρ' : EnD} {z z' : S}
theorem OwnAt.there {K : PySem.W.Frag} {R a : Addr} {B : Addr → Prop} {d : D} (h : OwnAt K H R B a d) : ∃ o, H a = some o ∧ Mut (some o) ∧ Stay o := by
  cases d <;> first | exact h.elim | (obtain ⟨x, e, _⟩ := h; exact ⟨_, e, trivial, trivial⟩)
theorem StR.badR (s : StR Y g H σ ρ z) : bad g σ ρ g.R := s.wo.bad
theorem StR.badDom (s : StR Y g H σ ρ z) {a : Addr} (h : bad g σ ρ a) : H a ≠ none := s.wo.dom a h
theorem StR.badK (s : StR Y g H σ ρ z) {a : Addr} (h : bad g σ ρ a) : Y.K.lookup a = none := s.wo.kn a h
theorem StR.wog (s : StR Y g H σ ρ z) : Wo Y.K Y.T g H z := s.wo.less (fun a h => .inl h) s.gR
theorem StR.fresh (s : StR Y g H σ ρ z) {p : Addr} (h : H p = none) : ¬ bad g σ ρ p := fun b => s.badDom b h
theorem StR.ownNe (s : StR Y g H σ ρ z) {a : Addr} (h : Own σ ρ a) : a ≠ g.R := by
  obtain ⟨i, d, h1, h2⟩ := h
  obtain ⟨b, e1, nb, _⟩ := s.own i d h1
  rw [h2] at e1
  cases e1
  exact fun e => nb (by rw [e]; exact s.gR)
theorem OwnAt.mono {K : PySem.W.Frag} {R a : Addr} {B : Addr → Prop} {d : D} (r : RdLe B H H') (k : ∀ o, H a = some o → Stay o → H' a = some o) (h : OwnAt K H R B a d) : OwnAt K H' R B a d := by
  cases d <;> first
    | exact h.elim
    | (obtain ⟨x, e, q⟩ := h; exact ⟨x, k _ e (trivial), q.mono r⟩)
    | (obtain ⟨x, e, e2, q⟩ := h; exact ⟨x, k _ e (trivial), e2, q.mono r⟩)
theorem StR.step (s : StR Y g H σ ρ z) (e : Ext g.R H H') (w : Wo Y.K Y.T (gb g σ ρ) H' z') : StR Y g H' σ ρ z' where
  wo := w
  gR := s.gR
  len := s.len
  val := fun i d h => by
    obtain ⟨v, h1, h2⟩ := s.val i d h
    exact ⟨v, h1, h2.mono (e.rd s.badR)⟩
  own := fun i d h => by
    obtain ⟨a, h1, h2, h3, h4, h5⟩ := s.own i d h
    exact ⟨a, h1, h2, h3, h4, h5.mono (e.rd s.badR) fun o q nt => e.keep a o q (s.ownNe ⟨i, d, h, h1⟩) nt⟩
  inj := s.inj
  ext := s.ext.trans e
theorem StR.new (s : StR Y g H σ ρ z) {p : Addr} {o : HO} (hp : H p = none) : StR Y g (upd H p o) σ ρ z := s.step (.new hp) (s.wo.new hp)
theorem StR.tup (s : StR Y g H σ ρ z) {p : Addr} {o : Obj} {vs : List V} {ds : List D} (hp : H p = none) (ho : o.dict = none) (r : Rs Y.K H g.R (bad g σ ρ) vs ds) :
    R1 Y.K (upd H p (.frz o (.tup vs))) g.R (bad g σ ρ) (.ref p) (.tup ds) :=
  .tup (.inl ⟨o, upd_same, ho⟩) (s.fresh hp) (r.mono (Ext.rd (.new hp) s.badR)) .nil
theorem StR.lst (s : StR Y g H σ ρ z) {p : Addr} {vs : List V} {ds : List D} (hp : H p = none) (r : Rs Y.K H g.R (bad g σ ρ) vs ds) :
    R1 Y.K (upd H p (.lst vs)) g.R (bad g σ ρ) (.ref p) (.lst ds) :=
  .lst upd_same (s.fresh hp) (r.mono (Ext.rd (.new hp) s.badR)) .nil

/-- an exception, as the caller may see it -/
def XRep (Y : Yx) (g : G) (H : Hp) (x : Exn) (C : Value) (d : Option Addr) : Prop :=
  ∃ c, Y.mg x.cls = some (.ref c) ∧ C = .ref c ∧ (match x.idx with
    | none => d = none
    | some i => ∃ dx v, d = some dx ∧ H dx = some (.xd [("index", v)]) ∧ R1 Y.K H g.R g.B v i)
def XOk (Y : Yx) (g : G) (x : Exn) (z : S) : Prop := ∀ H' C d, Wo Y.K Y.T g H' z → Ext g.R g.H0 H' → XRep Y g H' x C d → Y.E C d H'
/-- behind a run -/
def After {α : Type} (Y : Yx) (g : G) : Res α → (α → S → Prop) → Prop
  | .ok a z, P => P a z
  | .exc x z, _ => XOk Y g x z
  | .bad, _ => False
theorem After.imp {α : Type} {r : Res α} {P Q : α → S → Prop} (h : After Y g r P) (i : ∀ a z, r = .ok a z → P a z → Q a z) : After Y g r Q := by
  cases r with
  | ok a z => exact i a z rfl h
  | exc x z => exact h
  | bad => exact h
theorem After.bind {α β : Type} {m : M α} {k : α → M β} {P : β → S → Prop} (h : After Y g (mbind m k z) P) : After Y g (m z) fun a z' => After Y g (k a z') P := by
  unfold mbind at h
  cases e : m z with
  | ok a z' => rw [e] at h; exact h
  | exc x z' => rw [e] at h; exact h
  | bad => rw [e] at h; exact h

/-- an expression's reading by its data -/
def tD (Y : Yx) (f : EnD → M D) : TE := fun σ H Q => ∃ g ρ z, StR Y g H σ ρ z ∧ After Y g (f ρ z) fun d z' => ∀ v H', StR Y g H' σ ρ z' → Ext g.R H H' → R1 Y.K H' g.R (bad g σ ρ) v d → Q v H'
def ttD (Y : Yx) (f : EnD → M Bool) : TT := fun σ H Q => ∃ g ρ z, StR Y g H σ ρ z ∧ After Y g (f ρ z) fun b z' => ∀ H', StR Y g H' σ ρ z' → Ext g.R H H' → Q b H'
def taD (Y : Yx) (f : EnD → M (List D)) : TA := fun σ H Q => ∃ g ρ z, StR Y g H σ ρ z ∧ After Y g (f ρ z) fun ds z' => ∀ vs H', StR Y g H' σ ρ z' → Ext g.R H H' → Rs Y.K H' g.R (bad g σ ρ) vs ds → Q vs H'
/-- amid: the values vs have come -/
def tDs (Y : Yx) (vs : List V) (k : List D → M D) : TE := fun σ H Q => ∃ g ρ z ds, StR Y g H σ ρ z ∧ Rs Y.K H g.R (bad g σ ρ) vs ds ∧ After Y g (k ds z) fun d z' => ∀ v H', StR Y g H' σ ρ z' → Ext g.R H H' → R1 Y.K H' g.R (bad g σ ρ) v d → Q v H'
def ttDs (Y : Yx) (vs : List V) (k : List D → M Bool) : TT := fun σ H Q => ∃ g ρ z ds, StR Y g H σ ρ z ∧ Rs Y.K H g.R (bad g σ ρ) vs ds ∧ After Y g (k ds z) fun b z' => ∀ H', StR Y g H' σ ρ z' → Ext g.R H H' → Q b H'

theorem PE_imp {X : Cx} {e : Expr} {t t' : TE} (h : PE X e t) (i : ∀ σ H Q, t' σ H Q → t σ H Q) : PE X e t' := ⟨fun pins s σ H Q I q => h.run pins s σ H Q I (i σ H Q q)⟩
theorem PT_imp {X : Cx} {e : Expr} {t t' : TT} (h : PT X e t) (i : ∀ σ H Q, t' σ H Q → t σ H Q) : PT X e t' := ⟨fun pins s σ H Q I q => h.run pins s σ H Q I (i σ H Q q)⟩
theorem PA_imp {X : Cx} {e : List Expr} {t t' : TA} (h : PA X e t) (i : ∀ σ H Q, t' σ H Q → t σ H Q) : PA X e t' := ⟨fun pos pins s σ H Q I q => h.run pos pins s σ H Q I (i σ H Q q)⟩
theorem PS_imp {X : Cx} {e : Stmt} {t t' : TS} (h : PS X e t) (i : ∀ D σ H, t' D σ H → t D σ H) : PS X e t' := ⟨fun pins s σ H D I q => h.run pins s σ H D I (i D σ H q)⟩
theorem PSs_imp {X : Cx} {e : List Stmt} {t t' : TS} (h : PSs X e t) (i : ∀ D σ H, t' D σ H → t D σ H) : PSs X e t' := ⟨fun pins s σ H D I q => h.run pins s σ H D I (i D σ H q)⟩

/-- one, then what follows with it -/
theorem tD_bind {f : EnD → M D} {k : EnD → D → M D} {Q : VK} (h : tD Y (fun ρ => mbind (f ρ) (k ρ)) σ H Q) :
    tD Y f σ H fun v H1 => ∃ g ρ z d, StR Y g H1 σ ρ z ∧ R1 Y.K H1 g.R (bad g σ ρ) v d ∧ After Y g (k ρ d z) fun d z' => ∀ v H', StR Y g H' σ ρ z' → Ext g.R H1 H' → R1 Y.K H' g.R (bad g σ ρ) v d → Q v H' := by
  obtain ⟨g, ρ, z, st, a⟩ := h
  refine ⟨g, ρ, z, st, a.bind.imp fun d z1 _ h1 v H1 st1 e1 r1 => ⟨g, ρ, z1, d, st1, r1, h1.imp fun d2 z2 _ h2 v2 H2 st2 e2 r2 => h2 v2 H2 st2 (e1.trans e2) r2⟩⟩
/-- two, then what follows with them -/
theorem tD_bind2 {f f' : EnD → M D} {k : D → D → M D} {Q : VK} (h : tD Y (fun ρ => mbind (f ρ) fun x => mbind (f' ρ) fun y => k x y) σ H Q) :
    tD Y f σ H fun v H1 => tD Y f' σ H1 fun w H2 => ∃ g ρ z d e, StR Y g H2 σ ρ z ∧ R1 Y.K H2 g.R (bad g σ ρ) v d ∧ R1 Y.K H2 g.R (bad g σ ρ) w e ∧
      After Y g (k d e z) fun d z' => ∀ v H', StR Y g H' σ ρ z' → Ext g.R H2 H' → R1 Y.K H' g.R (bad g σ ρ) v d → Q v H' := by
  obtain ⟨g, ρ, z, st, a⟩ := h
  refine ⟨g, ρ, z, st, a.bind.imp fun d z1 _ h1 v H1 st1 e1 r1 => ⟨g, ρ, z1, st1, h1.bind.imp fun e z2 _ h2 w H2 st2 e2 r2 => ?_⟩⟩
  exact ⟨g, ρ, z2, d, e, st2, r1.mono (e2.rd st1.badR), r2, h2.imp fun d3 z3 _ h3 v3 H3 st3 e3 r3 => h3 v3 H3 st3 (e1.trans (e2.trans e3)) r3⟩
end
end DL
set_option Elab.async false
set_option linter.all false
set_option maxRecDepth 100000
set_option maxHeartbeats 1000000
/-! DL3: names, constants, operators, tests. -/
namespace DL
open PySem PySem.Spec PyProof.Rows L2

abbrev yx (X : Cx) (T : Tb) (E : XK) : Yx := ⟨X.K, T, X.mg, E⟩

/-! the words of the data language -/
def eV (i : Nat) : EnD → M D := fun ρ => match ρ[i]? with
  | some (some (.val d)) => mpure d
  | _ => mbad
def eC (d : D) : EnD → M D := fun _ => mpure d
def e1 (F : D → M D) (f : EnD → M D) : EnD → M D := fun ρ => mbind (f ρ) F
def e2 (F : D → D → M D) (f f' : EnD → M D) : EnD → M D := fun ρ => mbind (f ρ) fun x => mbind (f' ρ) fun y => F x y
def eIf (t : EnD → M Bool) (f f' : EnD → M D) : EnD → M D := fun ρ => mbind (t ρ) fun b => if b then f ρ else f' ρ
def asB : D → Option Bool
  | .bl b => some b
  | _ => none
/-- an expression whose value is a bool, as a test -/
def tV (f : EnD → M D) : EnD → M Bool := fun ρ => mbind (f ρ) fun d => mopt (asB d)
def tNot (t : EnD → M Bool) : EnD → M Bool := fun ρ => mbind (t ρ) fun b => mpure (!b)
def tAnd (t u : EnD → M Bool) : EnD → M Bool := fun ρ => mbind (t ρ) fun b => if b then u ρ else mpure false
def tOr (t u : EnD → M Bool) : EnD → M Bool := fun ρ => mbind (t ρ) fun b => if b then mpure true else u ρ
def eB (t : EnD → M Bool) : EnD → M D := fun ρ => mbind (t ρ) fun b => mpure (.bl b)

section
variable {X : Cx} {T : Tb} {E : XK} {a b c : Expr} {f fa fb : EnD → M D} {t u : EnD → M Bool} {pos : Pos} {σ : L2.St} {H : Hp} {Q : VK}
theorem After.pure {α : Type} {Y : Yx} {g : G} {x : α} {z : S} {P : α → S → Prop} (h : After Y g (mpure x z) P) : P x z := h
theorem After.opt {α : Type} {Y : Yx} {g : G} {x : Option α} {z : S} {P : α → S → Prop} (h : After Y g (mopt x z) P) : ∃ y, x = some y ∧ P y z := by
  cases x with
  | none => exact h.elim
  | some y => exact ⟨y, rfl, h⟩

theorem pu_v {i : Nat} {x : Str} (hN : X.N[i]? = some x) (hv : Vis X.env.scope x) (hd : (x == ("__debug__" : Str)) = false := by decide) (hcd : (x == ("__classdict__" : Str)) = false := by decide) :
    PE X (.Name x pos) (tD (yx X T E) (eV i)) := by
  refine PE_imp (pe_var hN hv hd hcd) fun σ H Q ⟨g, ρ, z, st, h⟩ => ?_
  unfold eV at h
  cases hs : ρ[i]? with
  | none => rw [hs] at h; exact h.elim
  | some o =>
    cases o with
    | none => rw [hs] at h; exact h.elim
    | some sl =>
      cases sl with
      | own d => rw [hs] at h; exact h.elim
      | val d =>
        rw [hs] at h
        obtain ⟨v, h1, h2⟩ := st.val i d hs
        exact ⟨v, h1, (After.pure h) v H st .refl h2⟩
theorem tC_imp {v : V} {d : D} (r : ∀ g : G, ∀ ρ z, StR (yx X T E) g H σ ρ z → R1 X.K H g.R (bad g σ ρ) v d) (h : tD (yx X T E) (eC d) σ H Q) : tC v σ H Q := by
  obtain ⟨g, ρ, z, st, h⟩ := h
  exact (After.pure h) v H st .refl (r g ρ z st)
theorem pu_int {i : Int} {j : Nat} : PE X (.Constant (.int i) j pos) (tD (yx X T E) (eC (.int i))) := PE_imp pe_int fun σ H Q h => tC_imp (fun _ _ _ _ => .atom .int .nil) h
theorem pu_bl {i : Bool} {j : Nat} : PE X (.Constant (.bool i) j pos) (tD (yx X T E) (eC (.bl i))) := PE_imp pe_bl fun σ H Q h => tC_imp (fun _ _ _ _ => .atom .bl .nil) h
theorem pu_non {j : Nat} : PE X (.Constant .none j pos) (tD (yx X T E) (eC .non)) := PE_imp pe_non fun σ H Q h => tC_imp (fun _ _ _ _ => .atom .non .nil) h
theorem pu_str {x : Str} {z : List Nat} {j : Nat} (hx : x = DL.ST z) : PE X (.Constant (.str x) j pos) (tD (yx X T E) (eC (.str z))) := by
  subst hx
  exact PE_imp pe_str fun σ H Q h => tC_imp (fun _ _ _ _ => .atom .str .nil) h
/-- a module's text, int, type -/
theorem pu_gA {x : Str} {v : V} {d : D} {w : Value} (hg : Gl X x) (hm : X.mg x = some w) (r : RelV v w) (ha : ∀ R, Atom R v d) (hd : (x == ("__debug__" : Str)) = false := by decide) : PE X (.Name x pos) (tD (yx X T E) (eC d)) :=
  PE_imp (pe_glob hg hm r hd) fun σ H Q h => tC_imp (fun _ _ _ _ => .atom (ha _) .nil) h
/-- a module's tuple, written -/
def WR (K : PySem.W.Frag) (v : V) (d : D) : Prop := ∀ (H : Hp) (R : Addr) (B : Addr → Prop), (∀ a, B a → K.lookup a = none) → R1 K H R B v d
theorem pu_gT {x : Str} {v : V} {d : D} {w : Value} (hg : Gl X x) (hm : X.mg x = some w) (r : RelV v w) (hw : WR X.K v d) (hd : (x == ("__debug__" : Str)) = false := by decide) : PE X (.Name x pos) (tD (yx X T E) (eC d)) :=
  PE_imp (pe_glob hg hm r hd) fun σ H Q h => tC_imp (fun g ρ z st => hw _ _ _ fun a ha => st.badK ha) h

/-! ### operators -/
def rOp (X : Cx) (f : Value → Value → Sem Value) : R2 := fun x y H Q => ∃ r, OpR X f r ∧ r x y H Q
theorem opOp {f : Value → Value → Sem Value} : OpR X f (rOp X f) := fun pins s σ H x y v u Q I rx ry ⟨r, ho, q⟩ => ho pins s σ H x y v u Q I rx ry q
def OpD (X : Cx) (T : Tb) (E : XK) (f : Value → Value → Sem Value) (F : D → D → M D) : Prop :=
  ∀ (g : G) (H : Hp) (σ : L2.St) (ρ : EnD) (z : S) (v w : V) (d e : D) (Q : VK), StR (yx X T E) g H σ ρ z → R1 X.K H g.R (bad g σ ρ) v d → R1 X.K H g.R (bad g σ ρ) w e →
    After (yx X T E) g (F d e z) (fun d' z' => ∀ v H', StR (yx X T E) g H' σ ρ z' → Ext g.R H H' → R1 X.K H' g.R (bad g σ ρ) v d' → Q v H') → rOp X f v w H Q
theorem pu_bin {op : Operator} {F : D → D → M D} (hop : OpD X T E (binaryOp op) F) (ha : PE X a (tD (yx X T E) fa)) (hb : PE X b (tD (yx X T E) fb)) : PE X (.BinOp a op b pos) (tD (yx X T E) (e2 F fa fb)) :=
  PE_imp (pe_op opOp ha hb) fun σ H Q h => by
    obtain ⟨g, ρ, z, st, a⟩ := tD_bind2 h
    refine ⟨g, ρ, z, st, a.imp fun d z1 _ h1 v H1 st1 e1 r1 => ?_⟩
    obtain ⟨g2, ρ2, z2, st2, a2⟩ := h1 v H1 st1 e1 r1
    exact ⟨g2, ρ2, z2, st2, a2.imp fun e z3 _ h3 w H3 st3 e3 r3 => by
      obtain ⟨g4, ρ4, z4, d4, e4, st4, rv, rw, a4⟩ := h3 w H3 st3 e3 r3
      exact hop g4 H3 σ ρ4 z4 v w d4 e4 Q st4 rv rw a4⟩
theorem pu_cmp {op : CmpOp} {F : D → D → M D} (hop : OpD X T E (compareOp op) F) (ha : PE X a (tD (yx X T E) fa)) (hb : PE X b (tD (yx X T E) fb)) (hm : behindInMarks op b = false) : PE X (.Compare a [op] [b] pos) (tD (yx X T E) (e2 F fa fb)) :=
  PE_imp (pe_cmpR opOp ha hb hm) fun σ H Q h => by
    obtain ⟨g, ρ, z, st, a⟩ := tD_bind2 h
    refine ⟨g, ρ, z, st, a.imp fun d z1 _ h1 v H1 st1 e1 r1 => ?_⟩
    obtain ⟨g2, ρ2, z2, st2, a2⟩ := h1 v H1 st1 e1 r1
    exact ⟨g2, ρ2, z2, st2, a2.imp fun e z3 _ h3 w H3 st3 e3 r3 => by
      obtain ⟨g4, ρ4, z4, d4, e4, st4, rv, rw, a4⟩ := h3 w H3 st3 e3 r3
      exact hop g4 H3 σ ρ4 z4 v w d4 e4 Q st4 rv rw a4⟩

/-! ### tests -/
/-- a bool's value -/
theorem tV_imp {f : EnD → M D} {Q : Bool → Hp → Prop} (h : ttD (yx X T E) (tV f) σ H Q) : tD (yx X T E) f σ H fun x H1 => ∃ k, x = .bl k ∧ Q k H1 := by
  obtain ⟨g, ρ, z, st, a⟩ := h
  refine ⟨g, ρ, z, st, a.bind.imp fun d z1 _ h1 v H1 st1 e1 r1 => ?_⟩
  obtain ⟨b, hb, q⟩ := h1.opt
  cases d <;> first | (cases hb; cases r1 with | atom x _ => cases x; exact ⟨_, rfl, q H1 st1 e1⟩) | cases hb
theorem pt_cmp {op : CmpOp} {F : D → D → M D} (hop : OpD X T E (compareOp op) F) (ha : PE X a (tD (yx X T E) fa)) (hb : PE X b (tD (yx X T E) fb)) (hm : behindInMarks op b = false) : PT X (.Compare a [op] [b] pos) (ttD (yx X T E) (tV (e2 F fa fb))) :=
  PT_imp (pt_cmpR opOp ha hb hm) fun σ H Q h => by
    have h := tV_imp h
    obtain ⟨g, ρ, z, st, a⟩ := tD_bind2 h
    refine ⟨g, ρ, z, st, a.imp fun d z1 _ h1 v H1 st1 e1 r1 => ?_⟩
    obtain ⟨g2, ρ2, z2, st2, a2⟩ := h1 v H1 st1 e1 r1
    exact ⟨g2, ρ2, z2, st2, a2.imp fun e z3 _ h3 w H3 st3 e3 r3 => by
      obtain ⟨g4, ρ4, z4, d4, e4, st4, rv, rw, a4⟩ := h3 w H3 st3 e3 r3
      exact hop g4 H3 σ ρ4 z4 v w d4 e4 _ st4 rv rw a4⟩
/-- any other expression whose value is a bool -/
theorem pt_v (h : PE X a (tD (yx X T E) f)) (he : ∀ whole, isTrue a X.env whole = (do let v ← whole; standAt a.pos; holding [v] (truthy v)) := by intro _; rfl) : PT X a (ttD (yx X T E) (tV f)) :=
  PT_imp (pt_val h he) fun σ H Q h => by
    obtain ⟨g, ρ, z, st, a⟩ := tV_imp h
    exact ⟨g, ρ, z, st, a.imp fun d z1 _ h1 v H1 st1 e1 r1 => by
      obtain ⟨k, e, q⟩ := h1 v H1 st1 e1 r1
      exact ⟨k, e, q⟩⟩
theorem tt_bind {t : EnD → M Bool} {k : EnD → Bool → M Bool} {Q : Bool → Hp → Prop} (h : ttD (yx X T E) (fun ρ => mbind (t ρ) (k ρ)) σ H Q) :
    ttD (yx X T E) t σ H fun b H1 => ttD (yx X T E) (fun ρ => k ρ b) σ H1 Q := by
  obtain ⟨g, ρ, z, st, a⟩ := h
  exact ⟨g, ρ, z, st, a.bind.imp fun b z1 _ h1 H1 st1 e1 => ⟨g, ρ, z1, st1, h1.imp fun c z2 _ h2 H2 st2 e2 => h2 H2 st2 (e1.trans e2)⟩⟩
theorem tt_bindE {t : EnD → M Bool} {k : EnD → Bool → M D} (h : tD (yx X T E) (fun ρ => mbind (t ρ) (k ρ)) σ H Q) :
    ttD (yx X T E) t σ H fun b H1 => tD (yx X T E) (fun ρ => k ρ b) σ H1 Q := by
  obtain ⟨g, ρ, z, st, a⟩ := h
  exact ⟨g, ρ, z, st, a.bind.imp fun b z1 _ h1 H1 st1 e1 => ⟨g, ρ, z1, st1, h1.imp fun c z2 _ h2 v H2 st2 e2 r2 => h2 v H2 st2 (e1.trans e2) r2⟩⟩
theorem tt_mono {t : EnD → M Bool} {Q Q' : Bool → Hp → Prop} (h : ttD (yx X T E) t σ H Q) (i : ∀ b H', Q b H' → Q' b H') : ttD (yx X T E) t σ H Q' := by
  obtain ⟨g, ρ, z, st, a⟩ := h
  exact ⟨g, ρ, z, st, a.imp fun b z1 _ h1 H1 st1 e1 => i _ _ (h1 H1 st1 e1)⟩
theorem td_mono {Q Q' : VK} (h : tD (yx X T E) f σ H Q) (i : ∀ b H', Q b H' → Q' b H') : tD (yx X T E) f σ H Q' := by
  obtain ⟨g, ρ, z, st, a⟩ := h
  exact ⟨g, ρ, z, st, a.imp fun b z1 _ h1 v H1 st1 e1 r1 => i _ _ (h1 v H1 st1 e1 r1)⟩
theorem tt_pure {b : Bool} {Q : Bool → Hp → Prop} (h : ttD (yx X T E) (fun _ => mpure b) σ H Q) : Q b H := by
  obtain ⟨g, ρ, z, st, a⟩ := h
  exact a.pure H st .refl
theorem pt_not (ha : PT X a (ttD (yx X T E) t)) : PT X (.UnaryOp .Not a pos) (ttD (yx X T E) (tNot t)) :=
  PT_imp (L2.pt_not ha) fun σ H Q h => tt_mono (tt_bind h) fun b H' q => tt_pure (b := !b) q
theorem pw_one (ha : PT X a (ttD (yx X T E) t)) : PW X (.BoolOp .And [a] pos) (ttD (yx X T E) t) := pw_and1 ha
theorem PW_imp {X : Cx} {e : Expr} {t t' : TT} (h : PW X e t) (i : ∀ σ H Q, t' σ H Q → t σ H Q) : PW X e t' := ⟨fun wh pins s σ H Q I q => h.run wh pins s σ H Q I (i σ H Q q)⟩
variable {rest : List Expr}
theorem pw_and (ha : PT X a (ttD (yx X T E) t)) (hb : PW X (.BoolOp .And (b :: rest) pos) (ttD (yx X T E) u)) : PW X (.BoolOp .And (a :: b :: rest) pos) (ttD (yx X T E) (tAnd t u)) :=
  PW_imp (L2.pw_and ha hb) fun σ H Q h => tt_mono (tt_bind h) fun k H' q => by
    cases k with
    | true => exact q
    | false => exact tt_pure (b := false) q
theorem pw_or (ha : PT X a (ttD (yx X T E) t)) (hb : PW X (.BoolOp .Or (b :: rest) pos) (ttD (yx X T E) u)) : PW X (.BoolOp .Or (a :: b :: rest) pos) (ttD (yx X T E) (tOr t u)) :=
  PW_imp (L2.pw_or ha hb) fun σ H Q h => tt_mono (tt_bind h) fun k H' q => by
    cases k with
    | true => exact tt_pure (b := true) q
    | false => exact q
theorem pu_if (ht : PT X c (ttD (yx X T E) t)) (ha : PE X a (tD (yx X T E) fa)) (hb : PE X b (tD (yx X T E) fb)) : PE X (.IfExp c a b pos) (tD (yx X T E) (eIf t fa fb)) :=
  PE_imp (pe_ifExp ht ha hb) fun σ H Q h => tt_mono (tt_bindE h) fun k H' q => by
    cases k with
    | true => exact q
    | false => exact q
/-- and, or as values: all but the last bools -/
theorem tb_bind {f : EnD → M D} {k : EnD → Bool → M D} (h : tD (yx X T E) (fun ρ => mbind (mbind (f ρ) fun d => mopt (asB d)) (k ρ)) σ H Q) :
    tD (yx X T E) f σ H fun x H1 => ∃ c, x = .bl c ∧ tD (yx X T E) (fun ρ => k ρ c) σ H1 Q := by
  exact tV_imp (tt_bindE h)
def eAnd (f f' : EnD → M D) : EnD → M D := fun ρ => mbind (mbind (f ρ) fun d => mopt (asB d)) fun b => if b then f' ρ else mpure (.bl false)
def eOr (f f' : EnD → M D) : EnD → M D := fun ρ => mbind (mbind (f ρ) fun d => mopt (asB d)) fun b => if b then mpure (.bl true) else f' ρ
def eNot (f : EnD → M D) : EnD → M D := fun ρ => mbind (mbind (f ρ) fun d => mopt (asB d)) fun b => mpure (.bl (!b))
theorem tD_blp {b : Bool} (h : tD (yx X T E) (fun _ => mpure (.bl b)) σ H Q) : Q (.bl b) H := by
  obtain ⟨g, ρ, z, st, a⟩ := h
  exact a.pure _ H st .refl (.atom .bl .nil)
theorem pu_one {op : BoolOp} (h : PE X a (tD (yx X T E) f)) : PE X (.BoolOp op [a] pos) (tD (yx X T E) f) := pe_one h
theorem pu_and (ha : PE X a (tD (yx X T E) fa)) (hb : PE X (.BoolOp .And (b :: rest) pos) (tD (yx X T E) fb)) : PE X (.BoolOp .And (a :: b :: rest) pos) (tD (yx X T E) (eAnd fa fb)) :=
  PE_imp (pe_and ha hb) fun σ H Q h => td_mono (tb_bind h) fun x H' q => by
    obtain ⟨c, e, q⟩ := q
    refine ⟨c, e, ?_⟩
    cases c with
    | true => exact q
    | false => exact tD_blp q
theorem pu_or (ha : PE X a (tD (yx X T E) fa)) (hb : PE X (.BoolOp .Or (b :: rest) pos) (tD (yx X T E) fb)) : PE X (.BoolOp .Or (a :: b :: rest) pos) (tD (yx X T E) (eOr fa fb)) :=
  PE_imp (pe_or ha hb) fun σ H Q h => td_mono (tb_bind h) fun x H' q => by
    obtain ⟨c, e, q⟩ := q
    refine ⟨c, e, ?_⟩
    cases c with
    | true => exact tD_blp q
    | false => exact q
theorem pu_not (ha : PE X a (tD (yx X T E) fa)) : PE X (.UnaryOp .Not a pos) (tD (yx X T E) (eNot fa)) :=
  PE_imp (pe_not ha) fun σ H Q h => td_mono (tb_bind h) fun x H' q => by
    obtain ⟨c, e, q⟩ := q
    exact ⟨c, e, tD_blp (b := !c) q⟩
end
end DL
set_option Elab.async false
set_option linter.all false
set_option maxRecDepth 100000
set_option maxHeartbeats 1000000
/-! DL4: operations by data. -/
namespace DL
open PySem PySem.Spec PyProof.Rows L2

mutual
/-- as plain data that may be compared -/
def py : D → Option PyData
  | .non => some .none
  | .bl b => some (.bool b)
  | .int i => some (.int i)
  | .str z => some (.str (ST z))
  | .tup xs => (pyAll xs).map .tuple
  | .wt xs => (pyAll xs).map .tuple
  | .lst xs => (pyAll xs).map .list
  | _ => none
def pyAll : List D → Option (List PyData)
  | [] => some []
  | x :: xs => (py x).bind fun p => (pyAll xs).map fun ps => p :: ps
end
def shp (d : D) : Option PyData := (py d).bind fun p => if SeqAt.shaped p = true then some p else none
def eqD (d e : D) : Option D := (shp d).bind fun p => (shp e).bind fun q => some (.bl (PyData.eqv p q))
def neD (d e : D) : Option D := (shp d).bind fun p => (shp e).bind fun q => some (.bl (!PyData.eqv p q))
def items : D → Option (List D)
  | .tup xs => some xs
  | .wt xs => some xs
  | .lst xs => some xs
  | _ => none
def inD (d e : D) : Option D := (items e).bind fun xs => (shp d).bind fun p => (pyAll xs).bind fun ps => if SeqAt.shaped (.list ps) = true then some (.bl (ps.any fun z => PyData.eqv z p)) else none
def notInD (d e : D) : Option D := (items e).bind fun xs => (shp d).bind fun p => (pyAll xs).bind fun ps => if SeqAt.shaped (.list ps) = true then some (.bl (!ps.any fun z => PyData.eqv z p)) else none
def isNonD : D → Bool
  | .non => true
  | _ => false
def isD : D → D → Option D
  | d, .non => some (.bl (isNonD d))
  | .bl a, .bl b => some (.bl (a == b))
  | _, _ => none
def isNotD (d e : D) : Option D := (isD d e).bind fun r => match r with | .bl b => some (.bl (!b)) | _ => none
def addD : D → D → Option D
  | .int i, .int j => some (.int (i + j))
  | .str a, .str b => if a.length + b.length ≤ sizeLine then some (.str (a ++ b)) else none
  | .tup a, .tup b => if a.length + b.length ≤ sizeLine then some (.tup (a ++ b)) else none
  | .lst a, .lst b => if a.length + b.length ≤ sizeLine then some (.lst (a ++ b)) else none
  | _, _ => none
def subD : D → D → Option D
  | .int i, .int j => some (.int (i - j))
  | _, _ => none
def mulD : D → D → Option D
  | .int i, .int j => if (-(2 ^ 64) < i ∧ i < 2 ^ 64) ∨ (-(2 ^ 64) < j ∧ j < 2 ^ 64) then some (.int (i * j)) else none
  | .str a, .int n => if 0 ≤ n ∧ n ≤ 1000 ∧ a.length ≤ 1000 then some (.str (List.replicate n.toNat a).flatten) else none
  | _, _ => none
def modD : D → D → Option D
  | .int i, .int j => if 0 < j then some (.int (i % j)) else none
  | _, _ => none
def fdivD : D → D → Option D
  | .int i, .int j => if 0 < j ∧ j < 1073741824 then some (.int (i / j)) else none
  | _, _ => none
def powD : D → D → Option D
  | .int i, .int j => if 0 ≤ j ∧ j ≤ 1000000 ∧ i.natAbs < 2 ^ 64 then some (.int (i ^ j.toNat)) else none
  | _, _ => none
def shlD : D → D → Option D
  | .int i, .int j => if 0 ≤ j ∧ j ≤ 1000000 ∧ i.natAbs < 2 ^ 64 then some (.int (i * 2 ^ j.toNat)) else none
  | _, _ => none
def ltD : D → D → Option D
  | .int i, .int j => some (.bl (decide (i < j)))
  | _, _ => none
def leD : D → D → Option D
  | .int i, .int j => some (.bl (decide (i ≤ j)))
  | _, _ => none
def gtD : D → D → Option D
  | .int i, .int j => some (.bl (decide (j < i)))
  | _, _ => none
def geD : D → D → Option D
  | .int i, .int j => some (.bl (decide (j ≤ i)))
  | _, _ => none
def negD : D → Option D
  | .int i => some (.int (-i))
  | _ => none
abbrev op2 (F : D → D → Option D) : D → D → M D := fun d e => mopt (F d e)
abbrev op1 (F : D → Option D) : D → M D := fun d => mopt (F d)

section
variable {X : Cx} {T : Tb} {E : XK} {K : PySem.W.Frag} {H : Hp} {R : Addr} {B : Addr → Prop}
theorem Rs.dp {vs : List V} {ds : List D} (h : Rs K H R B vs ds) : ∀ ps, pyAll ds = some ps → DpAll K H vs ps := by
  induction h with
  | nil => intro ps e; simp [pyAll] at e; subst e; exact .nil
  | @atom v d vs ds a _ ih =>
    intro ps e
    unfold pyAll at e
    cases a <;> simp only [py, Option.bind_none, Option.bind_some, Option.map_eq_some_iff, reduceCtorEq] at e
    case non => obtain ⟨qs, e, rfl⟩ := e; exact .cons .non (ih _ e)
    case bl => obtain ⟨qs, e, rfl⟩ := e; exact .cons (.bl _) (ih _ e)
    case int => obtain ⟨qs, e, rfl⟩ := e; exact .cons (.int _) (ih _ e)
    case str => obtain ⟨qs, e, rfl⟩ := e; exact .cons (.str _) (ih _ e)
  | tup s n _ _ ih1 ih2 =>
    intro ps e
    unfold pyAll at e
    simp only [py, Option.bind_eq_some_iff, Option.map_eq_some_iff] at e
    obtain ⟨p, ⟨qs, e1, rfl⟩, rs, e2, rfl⟩ := e
    exact .cons (.tup s.sq (ih1 _ e1)) (ih2 _ e2)
  | wt s n _ _ ih1 ih2 =>
    intro ps e
    unfold pyAll at e
    simp only [py, Option.bind_eq_some_iff, Option.map_eq_some_iff] at e
    obtain ⟨p, ⟨qs, e1, rfl⟩, rs, e2, rfl⟩ := e
    exact .cons (.tup s (ih1 _ e1)) (ih2 _ e2)
  | lst s n _ _ ih1 ih2 =>
    intro ps e
    unfold pyAll at e
    simp only [py, Option.bind_eq_some_iff, Option.map_eq_some_iff] at e
    obtain ⟨p, ⟨qs, e1, rfl⟩, rs, e2, rfl⟩ := e
    exact .cons (.lst (.inl (.inl s)) (ih1 _ e1)) (ih2 _ e2)
  | dS s n e _ _ ih1 ih2 => intro ps e; simp [pyAll, py] at e
  | dT s n e _ _ _ ih1 ih2 ih3 => intro ps e; simp [pyAll, py] at e
  | st s n e _ _ ih1 ih2 => intro ps e; simp [pyAll, py] at e
theorem R1.dp {v : V} {d : D} {p : PyData} (h : R1 K H R B v d) (e : py d = some p) : Dp K H v p := by
  have := Rs.dp h [p] (by simp [pyAll, e])
  cases this with
  | cons a _ => exact a
theorem shp_some {d : D} {p : PyData} (h : shp d = some p) : py d = some p ∧ SeqAt.shaped p = true := by
  unfold shp at h
  rw [Option.bind_eq_some_iff] at h
  obtain ⟨q, e, h⟩ := h
  by_cases c : SeqAt.shaped q = true
  · rw [if_pos c] at h; cases h; exact ⟨e, c⟩
  · rw [if_neg c] at h; cases h
/-- an operation that makes no state -/
theorem opD_of {f : Value → Value → Sem Value} {F : D → D → Option D}
    (h : ∀ (g : G) (H : Hp) (σ : L2.St) (ρ : EnD) (z : S) (v w : V) (d e r : D) (Q : VK), StR (yx X T E) g H σ ρ z → R1 X.K H g.R (bad g σ ρ) v d → R1 X.K H g.R (bad g σ ρ) w e → F d e = some r →
      (∀ u H', StR (yx X T E) g H' σ ρ z → Ext g.R H H' → R1 X.K H' g.R (bad g σ ρ) u r → Q u H') → rOp X f v w H Q) : OpD X T E f (op2 F) := by
  intro g H σ ρ z v w d e Q st rv rw' a
  obtain ⟨r, e1, q⟩ := a.opt
  exact h g H σ ρ z v w d e r Q st rv rw' e1 q
/-- .. whose answer is flat -/
theorem opD_flat {f : Value → Value → Sem Value} {F : D → D → Option D}
    (h : ∀ (H : Hp) (R : Addr) (B : Addr → Prop) (v w : V) (d e r : D) (Q : VK), R1 X.K H R B v d → R1 X.K H R B w e → F d e = some r → (∀ u, Atom R u r → Q u H) → rOp X f v w H Q) : OpD X T E f (op2 F) :=
  opD_of fun g H σ ρ z v w d e r Q st rv rw' e1 q => h H g.R (bad g σ ρ) v w d e r Q rv rw' e1 fun u a => q u H st .refl (.atom a .nil)
theorem od_eq {k : Nat} (hr : Room k X.A) : OpD X T E (compareOp .Eq) (op2 eqD) := opD_flat fun H R B v w d e r Q rv rw' h q => by
  unfold eqD at h
  simp only [Option.bind_eq_some_iff] at h
  obtain ⟨p, h1, p2, h2, h3⟩ := h
  cases h3
  obtain ⟨a1, b1⟩ := shp_some h1
  obtain ⟨a2, b2⟩ := shp_some h2
  exact ⟨_, op_eqD hr.units, p, p2, rv.dp a1, rw'.dp a2, b1, b2, q _ .bl⟩
theorem od_ne {k : Nat} (hr : Room k X.A) : OpD X T E (compareOp .NotEq) (op2 neD) := opD_flat fun H R B v w d e r Q rv rw' h q => by
  unfold neD at h
  simp only [Option.bind_eq_some_iff] at h
  obtain ⟨p, h1, p2, h2, h3⟩ := h
  cases h3
  obtain ⟨a1, b1⟩ := shp_some h1
  obtain ⟨a2, b2⟩ := shp_some h2
  exact ⟨_, op_neD hr.units, p, p2, rv.dp a1, rw'.dp a2, b1, b2, q _ .bl⟩
theorem room65 {k : Nat} {A : Around} {xs : List PyData} {d : PyData} (hr : Room k A) (sd : SeqAt.shaped d = true) : A.units + 1 + min (PyData.depthAll xs) d.depth < cLine := by
  have h1 := SeqAt.depth_of_shaped sd
  have h2 : min (PyData.depthAll xs) d.depth ≤ d.depth := Nat.min_le_right _ _
  have h3 := hr.un
  omega
def rInA (K : PySem.W.Frag) (neg : Bool) : R2 := fun x y H Q => ∃ d ds a us, y = .ref a ∧ (SqL K H a us ∨ SqT K H a us) ∧ DpAll K H us ds ∧ Dp K H x d ∧ SeqAt.shaped d = true ∧ SeqAt.shaped (.list ds) = true ∧ Q (.bl (if neg then !ds.any fun z => PyData.eqv z d else ds.any fun z => PyData.eqv z d)) H
theorem shaped_lt {ds : List PyData} (h : SeqAt.shaped (.list ds) = true) : PyData.canLayAll0 ds = true := by
  have := SeqAt.canLay_of_shaped h
  simpa [PyData.canLay0] using this
theorem op_inA {k : Nat} (hr : Room k X.A) : OpR X (compareOp .In) (rInA X.K false) := by
  intro pins s σ H x y v u Q I rx ry h
  obtain ⟨d, ds, a, us, rfl, hq, hds, hd, sd, se, q⟩ := h
  obtain ⟨as, r1⟩ := Dp.reads I d x v hd rx
  rcases hq with hq | hq
  · obtain ⟨bs, r2⟩ := Dp.reads I (.list ds) (.ref a) u (.lst hq hds) ry
    exact SeqAt.in_list_reads r2 r1 (shaped_lt se) (SeqAt.canLay_of_shaped sd) (room65 hr sd) ⟨.bl _, H, I, rfl, q⟩
  · obtain ⟨bs, r2⟩ := Dp.reads I (.tuple ds) (.ref a) u (.tup hq hds) ry
    exact SeqAt.in_tuple_reads r2 r1 (shaped_lt se) (SeqAt.canLay_of_shaped sd) (room65 hr sd) ⟨.bl _, H, I, rfl, q⟩
theorem op_notInA {k : Nat} (hr : Room k X.A) : OpR X (compareOp .NotIn) (rInA X.K true) := by
  intro pins s σ H x y v u Q I rx ry h
  obtain ⟨d, ds, a, us, rfl, hq, hds, hd, sd, se, q⟩ := h
  obtain ⟨as, r1⟩ := Dp.reads I d x v hd rx
  rcases hq with hq | hq
  · obtain ⟨bs, r2⟩ := Dp.reads I (.list ds) (.ref a) u (.lst hq hds) ry
    exact SeqAt.notIn_list_reads r2 r1 (shaped_lt se) (SeqAt.canLay_of_shaped sd) (room65 hr sd) ⟨.bl _, H, I, rfl, q⟩
  · obtain ⟨bs, r2⟩ := Dp.reads I (.tuple ds) (.ref a) u (.tup hq hds) ry
    exact SeqAt.notIn_tuple_reads r2 r1 (shaped_lt se) (SeqAt.canLay_of_shaped sd) (room65 hr sd) ⟨.bl _, H, I, rfl, q⟩
/-- a list, a tuple by its items -/
theorem R1.items {v : V} {d : D} {xs : List D} (h : R1 K H R B v d) (e : items d = some xs) : ∃ a us, v = .ref a ∧ (SqL K H a us ∨ SqT K H a us) ∧ Rs K H R B us xs := by
  cases d <;> simp only [DL.items, reduceCtorEq, Option.some.injEq] at e
  all_goals subst e
  all_goals cases h
  case tup.atom a _ => cases a
  case tup.tup s n r _ => exact ⟨_, _, rfl, .inr s.sq, r⟩
  case wt.atom a _ => cases a
  case wt.wt s n r _ => exact ⟨_, _, rfl, .inr s, r⟩
  case lst.atom a _ => cases a
  case lst.lst s n r _ => exact ⟨_, _, rfl, .inl (.inl (.inl s)), r⟩
theorem od_in {k : Nat} (hr : Room k X.A) : OpD X T E (compareOp .In) (op2 inD) := opD_flat fun H R B v w d e r Q rv rw' h q => by
  unfold inD at h
  simp only [Option.bind_eq_some_iff] at h
  obtain ⟨xs, h0, p, h1, ps, h2, h3⟩ := h
  split at h3
  · rename_i c
    cases h3
    obtain ⟨a1, b1⟩ := shp_some h1
    obtain ⟨a, us, rfl, hq, rs⟩ := rw'.items h0
    exact ⟨_, op_inA hr, p, ps, a, us, rfl, hq, rs.dp _ h2, rv.dp a1, b1, c, q _ .bl⟩
  · cases h3
theorem od_notIn {k : Nat} (hr : Room k X.A) : OpD X T E (compareOp .NotIn) (op2 notInD) := opD_flat fun H R B v w d e r Q rv rw' h q => by
  unfold notInD at h
  simp only [Option.bind_eq_some_iff] at h
  obtain ⟨xs, h0, p, h1, ps, h2, h3⟩ := h
  split at h3
  · rename_i c
    cases h3
    obtain ⟨a1, b1⟩ := shp_some h1
    obtain ⟨a, us, rfl, hq, rs⟩ := rw'.items h0
    exact ⟨_, op_notInA hr, p, ps, a, us, rfl, hq, rs.dp _ h2, rv.dp a1, b1, c, q _ .bl⟩
  · cases h3
theorem R1.int {v : V} {i : Int} (h : R1 K H R B v (.int i)) : v = .int i := by
  cases h with | atom a _ => cases a; rfl
theorem R1.bl {v : V} {i : Bool} (h : R1 K H R B v (.bl i)) : v = .bl i := by
  cases h with | atom a _ => cases a; rfl
theorem R1.str {v : V} {i : List Nat} (h : R1 K H R B v (.str i)) : v = .str (ST i) := by
  cases h with | atom a _ => cases a; rfl
theorem R1.non {v : V} (h : R1 K H R B v .non) : v = .non := by
  cases h with | atom a _ => cases a; rfl
theorem R1.tupl {v : V} {xs : List D} (h : R1 K H R B v (.tup xs)) : ∃ a us, v = .ref a ∧ TupX K H a us ∧ ¬ B a ∧ Rs K H R B us xs := by
  cases h with
  | atom a _ => cases a
  | tup s n r _ => exact ⟨_, _, rfl, s, n, r⟩
theorem R1.list {v : V} {xs : List D} (h : R1 K H R B v (.lst xs)) : ∃ a us, v = .ref a ∧ H a = some (.lst us) ∧ ¬ B a ∧ Rs K H R B us xs := by
  cases h with
  | atom a _ => cases a
  | lst s n r _ => exact ⟨_, _, rfl, s, n, r⟩
theorem R1.isNon {v : V} {d : D} (h : R1 K H R B v d) : decide (v = .non) = isNonD d := by
  cases h with
  | atom a _ => cases a <;> rfl
  | _ => rfl
theorem od_is : OpD X T E (compareOp .Is) (op2 isD) := opD_flat fun H R B v w d e r Q rv rw' h q => by
  unfold isD at h
  split at h
  · cases h
    cases rw'.non
    refine ⟨_, op_isN, rfl, ?_⟩
    rw [rv.isNon]
    exact q _ .bl
  · cases h
    cases rv.bl
    cases rw'.bl
    refine ⟨_, op_isBl, _, _, rfl, rfl, ?_⟩
    rw [show decide (_ = _) = (_ == _) from (Bool.beq_eq_decide_eq _ _).symm]
    exact q _ .bl
  · cases h
theorem od_isNot : OpD X T E (compareOp .IsNot) (op2 isNotD) := opD_flat fun H R B v w d e r Q rv rw' h q => by
  unfold isNotD isD at h
  split at h
  · cases h
    cases rw'.non
    refine ⟨_, op_notN, rfl, ?_⟩
    rw [rv.isNon]
    exact q _ .bl
  · cases h
    cases rv.bl
    cases rw'.bl
    refine ⟨_, op_notBl, _, _, rfl, rfl, ?_⟩
    rw [show decide (_ = _) = (_ == _) from (Bool.beq_eq_decide_eq _ _).symm]
    exact q _ .bl
  · cases h
theorem ST_app (a b : List Nat) : ST a ++ ST b = ST (a ++ b) := by
  show Str.mk _ = Str.mk _
  simp [ST]
theorem od_sub : OpD X T E (binaryOp .Sub) (op2 subD) := opD_flat fun H R B v w d e r Q rv rw' h q => by
  unfold subD at h
  split at h
  · cases h; cases rv.int; cases rw'.int; exact ⟨_, op_sub, _, _, rfl, rfl, q _ .int⟩
  · cases h
theorem od_mod : OpD X T E (binaryOp .Mod) (op2 modD) := opD_flat fun H R B v w d e r Q rv rw' h q => by
  unfold modD at h
  split at h
  · split at h
    · rename_i c; cases h; cases rv.int; cases rw'.int; exact ⟨_, op_mod, _, _, rfl, rfl, c, q _ .int⟩
    · cases h
  · cases h
theorem od_fdiv : OpD X T E (binaryOp .FloorDiv) (op2 fdivD) := opD_flat fun H R B v w d e r Q rv rw' h q => by
  unfold fdivD at h
  split at h
  · split at h
    · rename_i c; cases h; cases rv.int; cases rw'.int; exact ⟨_, op_fdiv, _, _, rfl, rfl, c, q _ .int⟩
    · cases h
  · cases h
theorem od_pow : OpD X T E (binaryOp .Pow) (op2 powD) := opD_flat fun H R B v w d e r Q rv rw' h q => by
  unfold powD at h
  split at h
  · split at h
    · rename_i c; cases h; cases rv.int; cases rw'.int; exact ⟨_, op_pow, _, _, rfl, rfl, c, q _ .int⟩
    · cases h
  · cases h
theorem od_shl : OpD X T E (binaryOp .LShift) (op2 shlD) := opD_flat fun H R B v w d e r Q rv rw' h q => by
  unfold shlD at h
  split at h
  · split at h
    · rename_i c; cases h; cases rv.int; cases rw'.int; exact ⟨_, op_shl, _, _, rfl, rfl, c, q _ .int⟩
    · cases h
  · cases h
theorem od_lt : OpD X T E (compareOp .Lt) (op2 ltD) := opD_flat fun H R B v w d e r Q rv rw' h q => by
  unfold ltD at h
  split at h
  · cases h; cases rv.int; cases rw'.int; exact ⟨_, op_lt, _, _, rfl, rfl, q _ .bl⟩
  · cases h
theorem od_le : OpD X T E (compareOp .LtE) (op2 leD) := opD_flat fun H R B v w d e r Q rv rw' h q => by
  unfold leD at h
  split at h
  · cases h; cases rv.int; cases rw'.int; exact ⟨_, op_le, _, _, rfl, rfl, q _ .bl⟩
  · cases h
theorem od_gt : OpD X T E (compareOp .Gt) (op2 gtD) := opD_flat fun H R B v w d e r Q rv rw' h q => by
  unfold gtD at h
  split at h
  · cases h; cases rv.int; cases rw'.int; exact ⟨_, op_gt, _, _, rfl, rfl, q _ .bl⟩
  · cases h
theorem od_ge : OpD X T E (compareOp .GtE) (op2 geD) := opD_flat fun H R B v w d e r Q rv rw' h q => by
  unfold geD at h
  split at h
  · cases h; cases rv.int; cases rw'.int; exact ⟨_, op_ge, _, _, rfl, rfl, q _ .bl⟩
  · cases h
theorem od_add : OpD X T E (binaryOp .Add) (op2 addD) := opD_of fun g H σ ρ z v w d e r Q st rv rw' h q => by
  unfold addD at h
  split at h
  · cases h; cases rv.int; cases rw'.int; exact ⟨_, op_add, _, _, rfl, rfl, q _ H st .refl (.atom .int .nil)⟩
  · split at h
    · rename_i c; cases h; cases rv.str; cases rw'.str
      refine ⟨_, op_add_str, _, _, rfl, rfl, by rw [ST_len, ST_len]; exact c, ?_⟩
      rw [ST_app]
      exact q _ H st .refl (.atom .str .nil)
    · cases h
  · split at h
    · rename_i c; cases h
      obtain ⟨a, us, rfl, ta, na, ra⟩ := rv.tupl
      obtain ⟨b, ws, rfl, tb, nb, rb⟩ := rw'.tupl
      have la := ra.length
      have lb := rb.length
      refine ⟨_, op_catF, a, b, us, ws, rfl, rfl, ta.sq, tb.sq, by rw [la, lb]; exact c, fun e => ?_, fun _ e => ?_, fun _ _ p ob hp hd => ?_⟩
      · subst e
        cases ra
        exact q _ H st .refl rw'
      · subst e
        cases rb
        rw [List.append_nil] at q
        exact q _ H st .refl rv
      · exact q _ _ (st.new hp) (.new hp) (st.tup hp hd (ra.append rb))
    · cases h
  · split at h
    · rename_i c; cases h
      obtain ⟨a, us, rfl, ta, na, ra⟩ := rv.list
      obtain ⟨b, ws, rfl, tb, nb, rb⟩ := rw'.list
      have la := ra.length
      have lb := rb.length
      exact ⟨_, op_cat, a, b, us, ws, rfl, rfl, ta, tb, by rw [la, lb]; exact c, fun p hp => q _ _ (st.new hp) (.new hp) (st.lst hp (ra.append rb))⟩
    · cases h
  · cases h
end
end DL
set_option Elab.async false
set_option linter.all false
set_option maxRecDepth 100000
set_option maxHeartbeats 1000000
/-! DL5: arguments, displays, calls, subscripts, methods. -/
namespace DL
open PySem PySem.Spec PyProof.Rows L2

def evs : List (EnD → M D) → EnD → M (List D)
  | [] => fun _ => mpure []
  | f :: fs => fun ρ => mbind (f ρ) fun d => mbind (evs fs ρ) fun ds => mpure (d :: ds)
def eTup (fs : List (EnD → M D)) : EnD → M D := fun ρ => mbind (evs fs ρ) fun ds => mpure (.tup ds)
def eLst (fs : List (EnD → M D)) : EnD → M D := fun ρ => mbind (evs fs ρ) fun ds => mpure (.lst ds)
def eCall (F : List D → M D) (fs : List (EnD → M D)) : EnD → M D := fun ρ => mbind (evs fs ρ) F
theorem evs_length {fs : List (EnD → M D)} : ∀ {ρ : EnD} {z z' : S} {ds : List D}, evs fs ρ z = .ok ds z' → ds.length = fs.length := by
  induction fs with
  | nil => intro ρ z z' ds h; simp [evs, mpure] at h; simp [h.1]
  | cons f fs ih =>
    intro ρ z z' ds h
    unfold evs mbind at h
    cases e : f ρ z with
    | ok d z1 =>
      rw [e] at h
      simp only at h
      cases e2 : evs fs ρ z1 with
      | ok es z2 =>
        simp only [mbind, e2, mpure, Res.ok.injEq] at h
        rw [← h.1, List.length_cons, List.length_cons, ih e2]
      | exc x z2 => simp [mbind, e2] at h
      | bad => simp [mbind, e2] at h
    | exc x z1 => rw [e] at h; simp at h
    | bad => rw [e] at h; simp at h

section
variable {X : Cx} {T : Tb} {E : XK} {e a b : Expr} {es : List Expr} {f fa fb : EnD → M D} {fs : List (EnD → M D)} {pos : Pos} {σ : L2.St} {H : Hp} {Q : VK}
theorem pu_nil : PA X [] (taD (yx X T E) (evs [])) := PA_imp pa_nil fun σ H Q h => by
  obtain ⟨g, ρ, z, st, a⟩ := h
  exact a.pure [] H st .refl .nil
theorem pu_cons (he : PE X e (tD (yx X T E) f)) (hs : PA X es (taD (yx X T E) (evs fs))) (hst : starEach (e :: es) X.env = (false, eval e X.env) :: starEach es X.env := by rfl) : PA X (e :: es) (taD (yx X T E) (evs (f :: fs))) :=
  PA_imp (pa_cons he hs hst) fun σ H Q h => by
    obtain ⟨g, ρ, z, st, a⟩ := h
    refine ⟨g, ρ, z, st, a.bind.imp fun d z1 _ h1 v H1 st1 e1 r1 => ⟨g, ρ, z1, st1, h1.bind.imp fun ds z2 _ h2 vs H2 st2 e2 r2 => ?_⟩⟩
    exact h2.pure (v :: vs) H2 st2 (e1.trans e2) (Rs.cons (r1.mono (e2.rd st1.badR)) r2)
/-- the arguments, then what follows -/
theorem ta_bind {k : List D → M D} (h : tD (yx X T E) (fun ρ => mbind (evs fs ρ) k) σ H Q) :
    taD (yx X T E) (evs fs) σ H fun vs H1 => vs.length = fs.length ∧ ∃ g ρ z ds, StR (yx X T E) g H1 σ ρ z ∧ Rs X.K H1 g.R (bad g σ ρ) vs ds ∧ After (yx X T E) g (k ds z) fun d z' => ∀ v H', StR (yx X T E) g H' σ ρ z' → Ext g.R H1 H' → R1 X.K H' g.R (bad g σ ρ) v d → Q v H' := by
  obtain ⟨g, ρ, z, st, a⟩ := h
  refine ⟨g, ρ, z, st, a.bind.imp fun ds z1 he h1 vs H1 st1 e1 r1 => ⟨by rw [r1.length]; exact evs_length he, g, ρ, z1, ds, st1, r1, h1.imp fun d z2 _ h2 v H2 st2 e2 r2 => h2 v H2 st2 (e1.trans e2) r2⟩⟩
theorem ta_mono {fs : EnD → M (List D)} {Q Q' : List V → Hp → Prop} (h : taD (yx X T E) fs σ H Q) (i : ∀ b H', Q b H' → Q' b H') : taD (yx X T E) fs σ H Q' := by
  obtain ⟨g, ρ, z, st, a⟩ := h
  exact ⟨g, ρ, z, st, a.imp fun b z1 _ h1 v H1 st1 e1 r1 => i _ _ (h1 v H1 st1 e1 r1)⟩
theorem small_len {n : Nat} (h : n ≤ 10000) : n ≤ sizeLine := by rw [sizeLine_eq]; omega
theorem pu_tup {x1} (h : PA X es (taD (yx X T E) (evs fs))) (hl : fs.length ≤ 10000 := by decide) : PE X (.Tuple es x1 pos) (tD (yx X T E) (eTup fs)) :=
  PE_imp (pe_tupF h) fun σ H Q h => ta_mono (ta_bind h) fun vs H1 ⟨hn, g, ρ, z, ds, st, r, a⟩ => ⟨by rw [hn]; exact small_len hl, fun p ob hp hd => a.pure _ _ (st.new hp) (.new hp) (st.tup hp hd r)⟩
theorem pu_lst (h : PA X es (taD (yx X T E) (evs fs))) (hl : fs.length ≤ 10000 := by decide) : PE X (.List es pos) (tD (yx X T E) (eLst fs)) :=
  PE_imp (pe_lst h) fun σ H Q h => ta_mono (ta_bind h) fun vs H1 ⟨hn, g, ρ, z, ds, st, r, a⟩ => ⟨by rw [hn]; exact small_len hl, fun p hp => a.pure _ _ (st.new hp) (.new hp) (st.lst hp r)⟩

/-! ### calls of defs -/
/-- what a def promises, by its data -/
def spD (K : PySem.W.Frag) (T : Tb) (mg : Str → Option Value) (n : Nat) (F : List D → M D) : Sp := fun vs H Q E => vs.length = n ∧ ∃ g ds z, g.H0 = H ∧ Wo K T g H z ∧ Rs K H g.R g.B vs ds ∧
  After ⟨K, T, mg, E⟩ g (F ds z) fun d z' => ∀ v H', Wo K T g H' z' → Ext g.R H H' → R1 K H' g.R g.B v d → Q v H'
variable {CX : CXT} {k n : Nat} {fa' : Addr} {fd : FuncData} {ps : List Str} {F : List D → M D} {x : Str} {p : Pos}
/-- a call from amid a def -/
theorem spD_of {g : G} {ρ : EnD} {z : S} {vs : List V} {ds : List D} (hn : vs.length = n) (st : StR (yx X T E) g H σ ρ z) (r : Rs X.K H g.R (bad g σ ρ) vs ds)
    (a : After (yx X T E) g (F ds z) fun d z' => ∀ v H', StR (yx X T E) g H' σ ρ z' → Ext g.R H H' → R1 X.K H' g.R (bad g σ ρ) v d → Q v H') : spD X.K T X.mg n F vs H Q E := by
  refine ⟨hn, ⟨g.R, bad g σ ρ, H⟩, ds, z, rfl, st.wo.less (fun _ h => h) st.badR, r, ?_⟩
  cases e : F ds z with
  | ok d z' =>
    rw [e] at a
    exact fun v H' w ex r1 => a v H' (st.step ex (w.less (fun _ h => h) st.badR)) ex r1
  | exc x z' =>
    rw [e] at a
    intro H' C d w ex xr
    obtain ⟨c, h1, h2, h3⟩ := xr
    refine a H' C d (w.less (fun _ h => .inl h) st.gR) (st.ext.trans ex) ⟨c, h1, h2, ?_⟩
    cases hx : x.idx with
    | none => rw [hx] at h3; exact h3
    | some i =>
      rw [hx] at h3
      obtain ⟨dx, v, h4, h5, h6⟩ := h3
      exact ⟨dx, v, h4, h5, h6.less fun a h => .inl h⟩
  | bad => rw [e] at a; exact a
theorem pu_call (FN : FnOk X.prog X.w X.K X.mg X.base CX k fa' fd ps (spD X.K T X.mg n F)) (hr : Room k X.A) (hg : Gl X x) (hm : X.mg x = some (.ref fa')) (hk : PySem.W.keepIn X.K (.ref fa') = true) (hb : Binds X.K fd ps []) (hx : Passes CX X E)
    (ha : PA X (e :: es) (taD (yx X T E) (evs fs))) (hn : fs.length = n := by rfl) (hdb : (x == ("__debug__" : Str)) = false := by decide) (he : starEach (e :: es) X.env = (false, eval e X.env) :: starEach es X.env := by rfl) (hpl : (backTo pos (starEach es X.env)).any (·.1) = false := by rfl) :
    PE X (.Call (.Name x p) (e :: es) [] pos) (tD (yx X T E) (eCall F fs)) :=
  PE_imp (pe_call FN hr hg hm hk hb .nil hx ha hdb he hpl) fun σ H Q h => ta_mono (ta_bind h) fun vs H1 ⟨hl, g, ρ, z, ds, st, r, a⟩ => by
    rw [List.append_nil]
    exact spD_of (hl.trans hn) st r a
theorem pu_call0 (FN : FnOk X.prog X.w X.K X.mg X.base CX k fa' fd ps (spD X.K T X.mg 0 F)) (hr : Room k X.A) (hg : Gl X x) (hm : X.mg x = some (.ref fa')) (hk : PySem.W.keepIn X.K (.ref fa') = true) (hb : Binds X.K fd ps []) (hx : Passes CX X E)
    (hdb : (x == ("__debug__" : Str)) = false := by decide) : PE X (.Call (.Name x p) [] [] pos) (tD (yx X T E) (eCall F [])) :=
  PE_imp (pe_call0 FN hr hg hm hk hb .nil hx hdb) fun σ H Q h => by
    obtain ⟨g, ρ, z, st, a⟩ := h
    show spD X.K T X.mg 0 F ([] ++ []) H Q E
    exact spD_of (ds := []) rfl st .nil a.bind.pure

/-! ### calls of builtins, by values -/
def rCall (X : Cx) (f : Value) : List V → Hp → VK → Prop := fun xs H Q => ∃ r, CallR X f r ∧ r xs H Q
theorem callCall {f : Value} : CallR X f (rCall X f) := fun pins s σ H xs us Q I r ⟨r', hc, q⟩ => hc pins s σ H xs us Q I r q
/-- a builtin's call, one argument -/
def CallD1 (X : Cx) (T : Tb) (E : XK) (f : Value) (F : D → M D) : Prop :=
  ∀ (g : G) (H : Hp) (σ : L2.St) (ρ : EnD) (z : S) (v : V) (d : D) (Q : VK), StR (yx X T E) g H σ ρ z → R1 X.K H g.R (bad g σ ρ) v d →
    After (yx X T E) g (F d z) (fun d' z' => ∀ v H', StR (yx X T E) g H' σ ρ z' → Ext g.R H H' → R1 X.K H' g.R (bad g σ ρ) v d' → Q v H') → rCall X f [v] H Q
theorem callD1_of {f : Value} {F : D → Option D}
    (h : ∀ (g : G) (H : Hp) (σ : L2.St) (ρ : EnD) (z : S) (v : V) (d r : D) (Q : VK), StR (yx X T E) g H σ ρ z → R1 X.K H g.R (bad g σ ρ) v d → F d = some r →
      (∀ u H', StR (yx X T E) g H' σ ρ z → Ext g.R H H' → R1 X.K H' g.R (bad g σ ρ) u r → Q u H') → rCall X f [v] H Q) : CallD1 X T E f (op1 F) := by
  intro g H σ ρ z v d Q st rv a
  obtain ⟨r, e1, q⟩ := a.opt
  exact h g H σ ρ z v d r Q st rv e1 q
end
end DL
set_option Elab.async false
set_option linter.all false
set_option maxRecDepth 100000
set_option maxHeartbeats 1000000
/-! DL6: builtins, subscripts, slices, methods by data. -/
namespace DL
open PySem PySem.Spec PyProof.Rows L2

def lenD : D → Option D
  | .str z => if z.length ≤ sizeLine then some (.int z.length) else none
  | .tup xs => some (.int xs.length)
  | .wt xs => some (.int xs.length)
  | .lst xs => some (.int xs.length)
  | _ => none
def intD : D → Option D
  | .int i => some (.int i)
  | .bl b => some (.int (if b then 1 else 0))
  | _ => none
def tupD : D → Option D
  | .lst xs => some (.tup xs)
  | .tup xs => some (.tup xs)
  | _ => none
def listD : D → Option D
  | .lst xs => some (.lst xs)
  | .tup xs => some (.lst xs)
  | _ => none
def countS (z : List Nat) : D → Option D
  | .str [c] => some (.int (z.count c))
  | _ => none
/-- flat data, as they are compared -/
def flatD : D → Option V
  | .non => some .non
  | .bl b => some (.bl b)
  | .int i => some (.int i)
  | .str z => some (.str (ST z))
  | _ => none
def countT : D → D → Option D
  | .tup xs, d => (flatD d).bind fun v => (xs.mapM flatD).bind fun vs => some (.int (vs.countP fun w => eqV w v))
  | _, _ => none
def strsD : List D → Option (List (List Nat))
  | [] => some []
  | .str z :: r => (strsD r).map fun zs => z :: zs
  | _ => none
def joinL (sep : List Nat) : List (List Nat) → List Nat
  | [] => []
  | [z] => z
  | z :: r => z ++ sep ++ joinL sep r
def joinD (sep : List Nat) (d : D) : Option D := (items d).bind fun xs => (strsD xs).bind fun zs => if (zs.map List.length).sum + zs.length * sep.length ≤ 100000 then some (.str (joinL sep zs)) else none
def asS : D → Option (List Nat)
  | .str z => some z
  | _ => none
def eM1 (F : List Nat → D → Option D) (fo f : EnD → M D) : EnD → M D := fun ρ => mbind (fo ρ) fun d => mbind (mopt (asS d)) fun z => mbind (f ρ) fun e => mopt (F z e)
def ixD : D → D → Option D
  | .str z, .int i => if z.length ≤ sizeLine then (atI z i).map fun c => .str [c] else none
  | d, .int i => (items d).bind fun xs => atI xs i
  | _, _ => none
def cutL {α : Type} (xs : List α) (lo hi : Option Int) : List α := (xs.drop (HT.sIx xs.length 0 lo)).take (HT.sIx xs.length xs.length hi - HT.sIx xs.length 0 lo)
def slD : D → Option Int → Option Int → Option D
  | .str z, lo, hi => if z.length ≤ sizeLine then some (.str (cutL z lo hi)) else none
  | .tup xs, lo, hi => some (.tup (cutL xs lo hi))
  | .lst xs, lo, hi => some (.lst (cutL xs lo hi))
  | _, _, _ => none
/-- an end of a slice -/
def pNo : EnD → M (Option Int) := fun _ => mpure none
def asI : D → Option Int
  | .int i => some i
  | _ => none
def pSo (f : EnD → M D) : EnD → M (Option Int) := fun ρ => mbind (f ρ) fun d => mopt ((asI d).map some)
def eSl (f : EnD → M D) (lo hi : EnD → M (Option Int)) : EnD → M D := fun ρ => mbind (f ρ) fun d => mbind (lo ρ) fun l => mbind (hi ρ) fun h => mopt (slD d l h)

section
variable {X : Cx} {T : Tb} {E : XK} {e a b o : Expr} {es : List Expr} {f fa fb fo : EnD → M D} {pos p apos : Pos} {σ : L2.St} {H : Hp} {Q : VK} {x : Str}
theorem pu_callB {id : String} {F : D → M D} (hc : CallD1 X T E (.builtin id) F) (ha : PE X a (tD (yx X T E) fa)) (hg : Gl X x) (hm : X.mg x = none) (hv : bootBuiltins x = some (.builtin id)) (hn : x ≠ "__name__" := by decide) (hdb : (x == ("__debug__" : Str)) = false := by decide)
    (he : starEach [a] X.env = (false, eval a X.env) :: starEach [] X.env := by rfl) (hpl : (backTo pos (starEach [] X.env)).any (·.1) = false := by rfl) : PE X (.Call (.Name x p) [a] [] pos) (tD (yx X T E) (e1 F fa)) :=
  PE_imp (pe_callB callCall hg hm hv (pa_cons ha pa_nil he) hn hdb he hpl) fun σ H Q h => by
    obtain ⟨g, ρ, z, st, a⟩ := tD_bind (k := fun _ => F) h
    exact ⟨g, ρ, z, st, a.imp fun d z1 _ h1 v H1 st1 e1 r1 => by
      obtain ⟨g2, ρ2, z2, d2, st2, r2, a2⟩ := h1 v H1 st1 e1 r1
      exact hc g2 H1 σ ρ2 z2 v d2 Q st2 r2 a2⟩
theorem pu_callT {id : String} {F : D → M D} (hc : CallD1 X T E (.type id) F) (ha : PE X a (tD (yx X T E) fa)) (hg : Gl X x) (hm : X.mg x = none) (hv : bootBuiltins x = some (.type id)) (hn : x ≠ "__name__" := by decide) (hdb : (x == ("__debug__" : Str)) = false := by decide)
    (he : starEach [a] X.env = (false, eval a X.env) :: starEach [] X.env := by rfl) (hpl : (backTo pos (starEach [] X.env)).any (·.1) = false := by rfl) : PE X (.Call (.Name x p) [a] [] pos) (tD (yx X T E) (e1 F fa)) :=
  PE_imp (pe_callTy callCall hg hm hv (pa_cons ha pa_nil he) hn hdb he hpl) fun σ H Q h => by
    obtain ⟨g, ρ, z, st, a⟩ := tD_bind (k := fun _ => F) h
    exact ⟨g, ρ, z, st, a.imp fun d z1 _ h1 v H1 st1 e1 r1 => by
      obtain ⟨g2, ρ2, z2, d2, st2, r2, a2⟩ := h1 v H1 st1 e1 r1
      exact hc g2 H1 σ ρ2 z2 v d2 Q st2 r2 a2⟩
theorem cd_len : CallD1 X T E (.builtin "len") (op1 lenD) := callD1_of fun g H σ ρ z v d r Q st rv h q => by
  cases d <;> simp only [lenD, reduceCtorEq, Option.some.injEq, Option.ite_none_right_eq_some] at h
  case str zz =>
    obtain ⟨c, h⟩ := h
    subst h
    cases rv.str
    exact ⟨_, call_len, _, zz.length, rfl, ⟨by rw [ST_len]; exact c, by rw [ST_len]⟩, q _ H st .refl (.atom .int .nil)⟩
  case tup xs =>
    subst h
    obtain ⟨a, us, rfl, hq, rs⟩ := rv.items rfl
    refine ⟨_, call_len, _, us.length, rfl, ?_, ?_⟩
    · rcases hq with hq | hq
      · exact .inl ⟨us, hq, rfl⟩
      · exact .inr ⟨us, hq, rfl⟩
    · rw [rs.length]; exact q _ H st .refl (.atom .int .nil)
  case wt xs =>
    subst h
    obtain ⟨a, us, rfl, hq, rs⟩ := rv.items rfl
    refine ⟨_, call_len, _, us.length, rfl, ?_, ?_⟩
    · rcases hq with hq | hq
      · exact .inl ⟨us, hq, rfl⟩
      · exact .inr ⟨us, hq, rfl⟩
    · rw [rs.length]; exact q _ H st .refl (.atom .int .nil)
  case lst xs =>
    subst h
    obtain ⟨a, us, rfl, hq, rs⟩ := rv.items rfl
    refine ⟨_, call_len, _, us.length, rfl, ?_, ?_⟩
    · rcases hq with hq | hq
      · exact .inl ⟨us, hq, rfl⟩
      · exact .inr ⟨us, hq, rfl⟩
    · rw [rs.length]; exact q _ H st .refl (.atom .int .nil)
theorem cd_int : CallD1 X T E (.type "int") (op1 intD) := callD1_of fun g H σ ρ z v d r Q st rv h q => by
  cases d <;> simp only [intD, reduceCtorEq, Option.some.injEq] at h
  case bl i =>
    subst h
    cases rv.bl
    exact ⟨_, call_int1, .inr ⟨_, rfl, q _ H st .refl (.atom .int .nil)⟩⟩
  case int i =>
    subst h
    cases rv.int
    exact ⟨_, call_int1, .inl ⟨_, rfl, q _ H st .refl (.atom .int .nil)⟩⟩
theorem cd_tuple : CallD1 X T E (.type "tuple") (op1 tupD) := callD1_of fun g H σ ρ z v d r Q st rv h q => by
  cases d <;> simp only [tupD, reduceCtorEq, Option.some.injEq] at h
  case tup xs =>
    subst h
    obtain ⟨a, us, e, hq, n, rs⟩ := rv.tupl
    subst e
    exact ⟨_, call_tupleT, _, _, rfl, hq.sq, q _ H st .refl rv⟩
  case lst xs =>
    subst h
    obtain ⟨a, us, rfl, hq, n, rs⟩ := rv.list
    exact ⟨_, call_tupF, _, _, rfl, .inl (.inl hq), fun p ob hp hd => q _ _ (st.new hp) (.new hp) (st.tup hp hd rs)⟩
theorem cd_list : CallD1 X T E (.type "list") (op1 listD) := callD1_of fun g H σ ρ z v d r Q st rv h q => by
  cases d <;> simp only [listD, reduceCtorEq, Option.some.injEq] at h
  case tup xs =>
    subst h
    obtain ⟨a, us, rfl, hq, n, rs⟩ := rv.tupl
    exact ⟨_, call_list_of, _, _, rfl, .inr hq.sq, fun p hp => q _ _ (st.new hp) (.new hp) (st.lst hp rs)⟩
  case lst xs =>
    subst h
    obtain ⟨a, us, rfl, hq, n, rs⟩ := rv.list
    exact ⟨_, call_list_of, _, _, rfl, .inl (.inl (.inl hq)), fun p hp => q _ _ (st.new hp) (.new hp) (st.lst hp rs)⟩

/-! ### methods of a text, one argument -/
open PySem.StrLaws Builtin Builtin.Str in
theorem occ_one (x : Str) (c : Nat) : ∀ (l : List Nat) (st : Array Nat × Nat) (lim : Nat), st.fst.size + l.length ≤ lim → (∀ i ∈ l, st.snd ≤ i) → l.Pairwise (· < ·) →
    (forIn l st (occBody x ⟨#[c]⟩ x.length lim)).run.fst.size = st.fst.size + l.countP fun i => decide (x.cps.toList[i]? = some c)
  | [], st, lim, _, _, _ => by simp
  | a :: l, st, lim, hl, hf, hp => by
    have hl' : st.fst.size + (l.length + 1) ≤ lim := hl
    rw [List.pairwise_cons] at hp
    rw [List.forIn_cons, List.countP_cons]
    unfold occBody
    by_cases hc : a + (⟨#[c]⟩ : Str).length ≤ x.length ∧ subAt x ⟨#[c]⟩ a = true
    · have c1 : (st.fst.size < lim ∧ st.snd ≤ a) ∧ a + (⟨#[c]⟩ : Str).length ≤ x.length := ⟨⟨by omega, hf a (List.mem_cons_self ..)⟩, hc.1⟩
      rw [if_pos ⟨c1, hc.2⟩, decide_eq_true ((subAt_one x c a).mp hc)]
      have ih := occ_one x c l (st.fst.push a, a + (⟨#[c]⟩ : Str).length) lim (by simp; omega) (fun i hi => by
        have := hp.1 i hi
        show a + 1 ≤ i
        omega) hp.2
      unfold occBody at ih
      refine Eq.trans ih ?_
      simp
      omega
    · have c2 : ¬ (((st.fst.size < lim ∧ st.snd ≤ a) ∧ a + (⟨#[c]⟩ : Str).length ≤ x.length) ∧ subAt x ⟨#[c]⟩ a = true) := fun h => hc ⟨h.1.2, h.2⟩
      rw [if_neg c2, decide_eq_false fun h => hc ((subAt_one x c a).mpr h)]
      have ih := occ_one x c l st lim (by omega) (fun i hi => hf i (List.mem_cons_of_mem _ hi)) hp.2
      unfold occBody at ih
      refine Eq.trans ih ?_
      simp
theorem countP_get (c : Nat) : ∀ (z : List Nat), (List.range' 0 (z.length + 1)).countP (fun i => decide (z[i]? = some c)) = z.count c
  | [] => by simp
  | a :: z => by
    have ih := countP_get c z
    have e : List.range' 0 ((a :: z).length + 1) = 0 :: (List.range' 0 (z.length + 1)).map (· + 1) := by
      rw [List.length_cons, List.range'_succ]
      congr 1
      apply List.ext_getElem
      · simp
      · intro i h1 h2
        simp
        omega
    rw [e, List.countP_cons, List.countP_map]
    have e2 : ((fun i => decide ((a :: z)[i]? = some c)) ∘ fun x => x + 1) = fun i => decide (z[i]? = some c) := by
      funext i; simp
    rw [e2, ih, List.count_cons]
    simp
theorem count_one (z : List Nat) (c : Nat) : Txt.count (ST z) (ST [c]) = (z.count c : Nat) := by
  unfold Txt.count
  rw [PySem.StrLaws.occ_eq]
  have h := occ_one (ST z) c (List.range' 0 ((ST z).length + 1 - 0)) (#[], 0) ((ST z).length + 1) (by simp) (fun i _ => Nat.zero_le _) List.pairwise_lt_range'
  have e : (⟨#[c]⟩ : Str) = ST [c] := rfl
  rw [e] at h
  rw [Array.length_toList, h, ST_toList, ST_len]
  simp only [Nat.sub_zero, List.size_toArray, List.length_nil, Nat.zero_add]
  rw [countP_get]
/-- a method of a text, one argument -/
def MtD (X : Cx) (T : Tb) (E : XK) (id : String) (F : List Nat → D → Option D) : Prop :=
  ∀ (g : G) (H : Hp) (σ : L2.St) (ρ : EnD) (s : S) (z : List Nat) (w : V) (e r : D) (Q : VK), StR (yx X T E) g H σ ρ s → R1 X.K H g.R (bad g σ ρ) w e → F z e = some r →
    (∀ u H', StR (yx X T E) g H' σ ρ s → Ext g.R H H' → R1 X.K H' g.R (bad g σ ρ) u r → Q u H') → ∃ t, MtR X id t ∧ t (.str (ST z)) [w] H Q
theorem pu_m1 {id : String} {name : Str} {F : List Nat → D → Option D} (hF : MtD X T E id F) (slot : Slot "str" name id) (ty : typeOf (.builtin id) = pure (.type "method_descriptor")) (ho : PE X o (tD (yx X T E) fo)) (he : PE X e (tD (yx X T E) f))
    (hs : starEach [e] X.env = [(false, eval e X.env)] := by rfl) (hbase : attributeBase o name X.env (eval o X.env) = eval o X.env := by rfl) (hline : (apos.endLine == pos.line) = true := by rfl) :
    PE X (.Call (.Attribute o name apos) [e] [] pos) (tD (yx X T E) (eM1 F fo f)) :=
  PE_imp (pe_m1 (r := fun x xs H Q => ∃ t, MtR X id t ∧ t x xs H Q) slot ty (fun pins s σ H x xs v us Q I rx rs ⟨t, hm, q⟩ => hm pins s σ H x xs v us Q I rx rs q) ho he hs hbase hline) fun σ H Q h => by
    obtain ⟨g, ρ, s, st, a⟩ := h
    refine ⟨g, ρ, s, st, a.bind.imp fun d z1 _ h1 v H1 st1 e1 r1 => ?_⟩
    obtain ⟨z, hz, h2⟩ := h1.bind.opt
    cases d <;> simp only [asS, reduceCtorEq, Option.some.injEq] at hz
    subst hz
    cases r1.str
    refine ⟨⟨_, rfl⟩, g, ρ, z1, st1, h2.bind.imp fun e z2 _ h3 w H2 st2 e2 r2 => ?_⟩
    obtain ⟨r, hr, q⟩ := h3.opt
    exact hF g H2 σ ρ z2 _ w e r Q st2 r2 hr fun u H' s' ex ru => q u H' s' (e1.trans (e2.trans ex)) ru
theorem md_count : MtD X T E "str.count" countS := fun g H σ ρ s z w e r Q st rw' h q => by
  unfold countS at h
  split at h
  · rename_i c
    cases h
    cases rw'.str
    refine ⟨_, mt_count, _, _, rfl, rfl, ?_⟩
    rw [count_one]
    exact q _ H st .refl (.atom .int .nil)
  · cases h
theorem strs_rs {K : PySem.W.Frag} {H : Hp} {R : Addr} {B : Addr → Prop} : ∀ {xs : List D} {us : List V} {zs : List (List Nat)}, Rs K H R B us xs → strsD xs = some zs → us = (zs.map ST).map V.str
  | [], us, zs, h, e => by
    cases h
    simp [strsD] at e
    subst e
    rfl
  | d :: xs, us, zs, h, e => by
    cases us with
    | nil => cases h
    | cons u us =>
      obtain ⟨h1, h2⟩ := h.split
      cases d <;> simp only [strsD, reduceCtorEq, Option.map_eq_some_iff] at e
      obtain ⟨ws, e1, rfl⟩ := e
      cases h1.str
      rw [strs_rs h2 e1]
      rfl
theorem join_ST (sep : List Nat) : ∀ zs : List (List Nat), Txt.join (ST sep) (zs.map ST) = ST (joinL sep zs) := fun zs => by
  rw [show Txt.join (ST sep) (zs.map ST) = Str.join (ST sep) (zs.map ST) from TL.join_eq _ _]
  induction zs with
  | nil => rfl
  | cons z r ih =>
    cases r with
    | nil => rfl
    | cons y r =>
      show ST z ++ ST sep ++ Str.join (ST sep) ((y :: r).map ST) = ST (z ++ sep ++ joinL sep (y :: r))
      rw [ih, ST_app, ST_app]
theorem md_join : MtD X T E "str.join" joinD := fun g H σ ρ s z w e r Q st rw' h q => by
  unfold joinD at h
  simp only [Option.bind_eq_some_iff, Option.ite_none_right_eq_some] at h
  obtain ⟨xs, h1, zs, h2, c, h3⟩ := h
  cases h3
  obtain ⟨a, us, rfl, hq, rs⟩ := rw'.items h1
  have eu := strs_rs rs h2
  subst eu
  refine ⟨_, mt_join, _, a, zs.map ST, rfl, rfl, hq, ?_, ?_⟩
  · have e1 : ((zs.map ST).map fun x => x.length) = zs.map List.length := by
      rw [List.map_map]
      exact List.map_congr_left fun z _ => ST_len z
    rw [e1, List.length_map, ST_len]
    omega
  · rw [join_ST]
    exact q _ H st .refl (.atom .str .nil)
end
end DL
set_option Elab.async false
set_option linter.all false
set_option maxRecDepth 100000
set_option maxHeartbeats 1000000
/-! DL7: subscripts, slices, tuple.count, isinstance, dicts of texts. -/
namespace DL
open PySem PySem.Spec PyProof.Rows L2

/-! ### dicts with text keys -/
def getS (es : List (List Nat × D)) (k : List Nat) : Option D := (es.find? fun p => decide (p.1 = k)).map (·.2)
def putS (es : List (List Nat × D)) (k : List Nat) (d : D) : List (List Nat × D) :=
  if es.any (fun p => decide (p.1 = k)) = true then es.map (fun p => if p.1 = k then (p.1, d) else p) else es ++ [(k, d)]
inductive DSR (K : PySem.W.Frag) (H : Hp) (R : Addr) (B : Addr → Prop) : List (Key × V) → List (List Nat × D) → Prop
  | nil : DSR K H R B [] []
  | cons {k : List Nat} {v : V} {d : D} {kvs : List (Key × V)} {es : List (List Nat × D)} : R1 K H R B v d → DSR K H R B kvs es → DSR K H R B ((.inr (ST k), v) :: kvs) ((k, d) :: es)
section
variable {K : PySem.W.Frag} {H H' : Hp} {R : Addr} {B : Addr → Prop} {kvs : List (Key × V)} {es : List (List Nat × D)}
theorem DSR.out (h : DSR K H R B kvs es) : kvs.map (·.1) = es.map kS ∧ Rs K H R B (kvs.map (·.2)) (es.map (·.2)) := by
  induction h with
  | nil => exact ⟨rfl, .nil⟩
  | cons r _ ih => exact ⟨by rw [List.map_cons, List.map_cons, ih.1] <;> rfl, Rs.cons r ih.2⟩
theorem DSR.mk : ∀ {kvs : List (Key × V)} {es : List (List Nat × D)}, kvs.map (·.1) = es.map kS → Rs K H R B (kvs.map (·.2)) (es.map (·.2)) → DSR K H R B kvs es
  | [], [], _, _ => .nil
  | [], e :: es, h, _ => by cases h
  | p :: kvs, [], h, _ => by cases h
  | (k, v) :: kvs, (z, d) :: es, h, r => by
    simp only [List.map_cons, List.cons.injEq] at h
    obtain ⟨h1, h2⟩ := h
    simp only [kS] at h1
    subst h1
    exact .cons r.split.1 (DSR.mk h2 r.split.2)
theorem key_dec {a b : List Nat} : decide ((Sum.inr (ST a) : Key) = Sum.inr (ST b)) = decide (a = b) := by
  by_cases e : a = b
  · subst e; simp
  · have : ¬ (Sum.inr (ST a) : Key) = Sum.inr (ST b) := fun h => e (ST_inj (Sum.inr.inj h))
    rw [decide_eq_false this, decide_eq_false e]
theorem key_iff {a b : List Nat} : ((Sum.inr (ST a) : Key) = Sum.inr (ST b)) ↔ (a = b) := ⟨fun h => ST_inj (Sum.inr.inj h), fun h => by rw [h]⟩
theorem DSR.get (h : DSR K H R B kvs es) (k : List Nat) : (∀ d, getS es k = some d → ∃ v, valV kvs (Sum.inr (ST k) : Key) = some v ∧ R1 K H R B v d) ∧ (getS es k = none → valV kvs (Sum.inr (ST k) : Key) = none) := by
  induction h with
  | nil => exact ⟨fun d e => (by cases e), fun _ => rfl⟩
  | @cons k' v d kvs es r _ ih =>
    unfold getS valV at ih ⊢
    rw [List.find?_cons, List.find?_cons]
    simp only [key_dec]
    by_cases e : k' = k
    · simp only [decide_eq_true e]
      exact ⟨fun d e => by cases e; exact ⟨v, rfl, r⟩, fun e => by cases e⟩
    · simp only [decide_eq_false e]
      exact ih
theorem DSR.any (h : DSR K H R B kvs es) (k : List Nat) : (kvs.any fun kv => decide (kv.1 = (Sum.inr (ST k) : Key))) = es.any fun p => decide (p.1 = k) := by
  induction h with
  | nil => rfl
  | cons r _ ih => rw [List.any_cons, List.any_cons, ih, key_dec]
theorem DSR.append {kvs' : List (Key × V)} {es' : List (List Nat × D)} (h : DSR K H R B kvs es) (h' : DSR K H R B kvs' es') : DSR K H R B (kvs ++ kvs') (es ++ es') := by
  induction h with
  | nil => exact h'
  | cons r _ ih => exact .cons r ih
theorem DSR.over (h : DSR K H R B kvs es) {k : List Nat} {v : V} {d : D} (r : R1 K H R B v d) : DSR K H R B (kvs.map fun kv => if kv.1 = (Sum.inr (ST k) : Key) then (kv.1, v) else kv) (es.map fun p => if p.1 = k then (p.1, d) else p) := by
  induction h with
  | nil => exact .nil
  | @cons k' v' d' kvs es r' _ ih =>
    rw [List.map_cons, List.map_cons]
    by_cases e : k' = k
    · rw [if_pos (key_iff.mpr e), if_pos e]
      exact .cons r ih
    · rw [if_neg (fun z => e (key_iff.mp z)), if_neg e]
      exact .cons r' ih
theorem DSR.put (h : DSR K H R B kvs es) {k : List Nat} {v : V} {d : D} (r : R1 K H R B v d) : DSR K H R B (putK kvs (Sum.inr (ST k) : Key) v) (putS es k d) := by
  unfold putK putS
  rw [h.any k]
  split
  · exact h.over r
  · exact h.append (.cons r .nil)
theorem DSR.mono (h : DSR K H R B kvs es) (r : RdLe B H H') : DSR K H' R B kvs es := by
  obtain ⟨h1, h2⟩ := h.out
  exact .mk h1 (h2.mono r)
theorem DSR.length (h : DSR K H R B kvs es) : kvs.length = es.length := by
  induction h <;> simp_all
theorem R1.dictS {v : V} (h : R1 K H R B v (.dS es)) : ∃ a kvs, v = .ref a ∧ Rd H a (.dK kvs) ∧ ¬ B a ∧ DSR K H R B kvs es := by
  cases h with
  | atom a _ => cases a
  | dS s n e r _ => exact ⟨_, _, rfl, .inr ⟨_, s⟩, n, .mk e r⟩
theorem R1.dictF {v : V} (h : R1 K H R B v (.dS es)) : ∃ a o kvs, v = .ref a ∧ H a = some (.frz o (.dK kvs)) ∧ ¬ B a ∧ DSR K H R B kvs es := by
  cases h with
  | atom a _ => cases a
  | dS s n e r _ => exact ⟨_, _, _, rfl, s, n, .mk e r⟩
end

/-! ### subscripts -/
def ixA : D → D → Option D
  | .dS es, .str k => getS es k
  | d, i => ixD d i
section
variable {X : Cx} {T : Tb} {E : XK} {e a b o : Expr} {es : List Expr} {f fa fb fo : EnD → M D} {pos p apos : Pos} {σ : L2.St} {H : Hp} {Q : VK} {x : Str}
theorem ix_dict (hu : X.A.units + 1 < cLine) : IxR X (fun x y H Q => ∃ a v, x = .ref a ∧ DGet H a y (some v) ∧ Q v H) := by
  intro value slice pins s σ H x y v u Q I rx ry ⟨a, w, e, g, q⟩ hs
  subst e
  obtain rfl : v = Value.ref a := rx
  exact tail_any (dict_typeIs I g) PySem.F.slot_dict_getitem.lookup (d_getItem hu I g ry fun w' s3 I3 rw' => ⟨w, H, I3, rw', q⟩) hs
def rIxA (X : Cx) : R2 := fun x y H Q => ∃ r, IxR X r ∧ r x y H Q
theorem ixAll : IxR X (rIxA X) := fun value slice pins s σ H x y v u Q I rx ry ⟨r, h, q⟩ hs => h value slice pins s σ H x y v u Q I rx ry q hs
theorem atI_rs {K : PySem.W.Frag} {H : Hp} {R : Addr} {B : Addr → Prop} {us : List V} {xs : List D} {i : Int} {d : D} (r : Rs K H R B us xs) (h : atI xs i = some d) : ∃ v, atI us i = some v ∧ R1 K H R B v d := by
  unfold atI at h ⊢
  rw [r.length]
  cases e : ixN xs.length i with
  | none => rw [e] at h; cases h
  | some j =>
    rw [e] at h
    obtain ⟨v, h1, h2⟩ := r.get (show xs[j]? = some d from h)
    exact ⟨v, h1, h2⟩
theorem ixA_ok {k : Nat} (hr : Room k X.A) {g : G} {H : Hp} {σ : L2.St} {ρ : EnD} {z : S} {v w : V} {d e r : D} {Q : VK} (st : StR (yx X T E) g H σ ρ z) (rv : R1 X.K H g.R (bad g σ ρ) v d) (rw' : R1 X.K H g.R (bad g σ ρ) w e) (h : ixA d e = some r)
    (q : ∀ u, R1 X.K H g.R (bad g σ ρ) u r → Q u H) : rIxA X v w H Q := by
  have seq : ∀ {xs : List D} {i : Int}, items d = some xs → e = .int i → atI xs i = some r → rIxA X v w H Q := fun {xs i} h0 he h1 => by
    subst he
    cases rw'.int
    obtain ⟨a, us, rfl, hq, rs⟩ := rv.items h0
    obtain ⟨u, h2, h3⟩ := atI_rs rs h1
    rcases hq with hq | hq
    · exact ⟨_, ix_list, a, us, i, u, rfl, rfl, hq, h2, q u h3⟩
    · exact ⟨_, ix_tup, a, us, i, u, rfl, rfl, hq, h2, q u h3⟩
  unfold ixA at h
  split at h
  · rename_i es k
    cases rw'.str
    obtain ⟨a, kvs, rfl, hd, n, dr⟩ := rv.dictS
    obtain ⟨u, h1, h2⟩ := (dr.get k).1 r h
    exact ⟨_, ix_dict (by have := hr.un; omega), a, u, rfl, .inl ⟨kvs, Sum.inr (ST k), hd, rfl, h1.symm⟩, q u h2⟩
  · unfold ixD at h
    split at h
    · rename_i zz i _
      simp only [Option.ite_none_right_eq_some, Option.map_eq_some_iff] at h
      obtain ⟨c, cc, h1, rfl⟩ := h
      cases rv.str
      cases rw'.int
      exact ⟨_, ix_str, _, _, cc, rfl, rfl, by rw [ST_len]; exact c, by rw [ST_toList]; exact h1, q _ (.atom (.str (z := [cc])) .nil)⟩
    · rw [Option.bind_eq_some_iff] at h
      obtain ⟨xs, h0, h1⟩ := h
      exact seq h0 rfl h1
    · cases h
theorem pu_ix {k : Nat} (hr : Room k X.A) (ha : PE X a (tD (yx X T E) fa)) (hb : PE X b (tD (yx X T E) fb)) (hs : PlainIx b := by intro _ _; rfl) : PE X (.Subscript a b pos) (tD (yx X T E) (e2 (op2 ixA) fa fb)) :=
  PE_imp (pe_ix ixAll ha hb hs) fun σ H Q h => by
    obtain ⟨g, ρ, z, st, a⟩ := tD_bind2 h
    refine ⟨g, ρ, z, st, a.imp fun d z1 _ h1 v H1 st1 e1 r1 => ?_⟩
    obtain ⟨g2, ρ2, z2, st2, a2⟩ := h1 v H1 st1 e1 r1
    exact ⟨g2, ρ2, z2, st2, a2.imp fun e z3 _ h3 w H3 st3 e3 r3 => by
      obtain ⟨g4, ρ4, z4, d4, e4, st4, rv, rw', a4⟩ := h3 w H3 st3 e3 r3
      obtain ⟨r, hr', q⟩ := a4.opt
      exact ixA_ok hr st4 rv rw' hr' fun u ru => q u H3 st4 .refl ru⟩

/-! ### slices -/
def rSlA' (X : Cx) : V → Option Int → Option Int → Hp → VK → Prop := fun x lo hi H Q => ∃ r, SlR X r ∧ r x lo hi H Q
theorem slAll : SlR X (rSlA' X) := fun pins s σ H x v vl vu lo hi sl Q I rx hs pl pu ⟨r, h, q⟩ => h pins s σ H x v vl vu lo hi sl Q I rx hs pl pu q
def toD (Y : Yx) (f : EnD → M (Option Int)) : TO := fun σ H Q => ∃ g ρ z, StR Y g H σ ρ z ∧ After Y g (f ρ z) fun i z' => ∀ H', StR Y g H' σ ρ z' → Ext g.R H H' → Q i H'
theorem PO_imp {X : Cx} {e : Option Expr} {t t' : TO} (h : PO X e t) (i : ∀ σ H Q, t' σ H Q → t σ H Q) : PO X e t' := ⟨fun pins s σ H Q I q => h.run pins s σ H Q I (i σ H Q q)⟩
theorem puo_no : PO X none (toD (yx X T E) pNo) := PO_imp po_none fun σ H Q h => by
  obtain ⟨g, ρ, z, st, a⟩ := h
  exact a.pure H st .refl
theorem puo_so (ha : PE X a (tD (yx X T E) fa)) : PO X (some a) (toD (yx X T E) (pSo fa)) := PO_imp (po_some ha) fun σ H Q h => by
  obtain ⟨g, ρ, z, st, a⟩ := h
  refine ⟨g, ρ, z, st, a.bind.imp fun d z1 _ h1 v H1 st1 e1 r1 => ?_⟩
  obtain ⟨i, hi, q⟩ := h1.opt
  cases d <;> simp only [asI, Option.map_none, Option.map_some, reduceCtorEq, Option.some.injEq] at hi
  subst hi
  cases r1.int
  exact ⟨_, rfl, q H1 st1 e1⟩
theorem cut_rs {K : PySem.W.Frag} {H : Hp} {R : Addr} {B : Addr → Prop} {us : List V} {xs : List D} {lo hi : Option Int} (r : Rs K H R B us xs) : Rs K H R B (cutV us lo hi) (cutL xs lo hi) := by
  unfold cutV cutL
  rw [r.length]
  exact (r.drop _).take _
theorem cut_all {α : Type} {xs : List α} {lo hi : Option Int} (h : HT.sIx xs.length 0 lo = 0 ∧ HT.sIx xs.length xs.length hi = xs.length) : cutL xs lo hi = xs := by
  unfold cutL
  rw [h.1, h.2]
  simp
theorem pu_slice {lo hi : Option Expr} {pl ph : EnD → M (Option Int)} {p2 : Pos} (ha : PE X a (tD (yx X T E) fa)) (hl : PO X lo (toD (yx X T E) pl)) (hh : PO X hi (toD (yx X T E) ph)) : PE X (.Subscript a (.Slice lo hi none p2) pos) (tD (yx X T E) (eSl fa pl ph)) :=
  PE_imp (pe_slice slAll ha hl hh) fun σ H Q h => by
    obtain ⟨g, ρ, z, st, a⟩ := h
    refine ⟨g, ρ, z, st, a.bind.imp fun d z1 _ h1 v H1 st1 e1 rv => ⟨g, ρ, z1, st1, h1.bind.imp fun l z2 _ h2 H2 st2 e2 => ⟨g, ρ, z2, st2, h2.bind.imp fun u z3 _ h3 H3 st3 e3 => ?_⟩⟩⟩
    obtain ⟨r, hr, q⟩ := h3.opt
    have rv3 : R1 X.K H3 g.R (bad g σ ρ) v d := (rv.mono (e2.rd st1.badR)).mono (e3.rd st1.badR)
    have q' : ∀ w H', StR (yx X T E) g H' σ ρ z3 → Ext g.R H3 H' → R1 X.K H' g.R (bad g σ ρ) w r → Q w H' := fun w H' s' ex rw' => q w H' s' (e1.trans (e2.trans (e3.trans ex))) rw'
    clear q
    unfold slD at hr
    split at hr
    · rename_i zz _
      simp only [Option.ite_none_right_eq_some, Option.some.injEq] at hr
      obtain ⟨c, rfl⟩ := hr
      cases rv3.str
      refine ⟨_, sl_str, _, rfl, by rw [ST_len]; exact c, ?_⟩
      have e : cutS (ST zz) l u = ST (cutL zz l u) := by
        unfold cutS cutL
        rw [ST_len, ST_toList]
        rfl
      rw [e]
      exact q' _ H3 st3 .refl (.atom .str .nil)
    · rename_i xs _ _
      cases hr
      obtain ⟨a, us, e, hq, n, rs⟩ := rv3.tupl
      subst e
      refine ⟨_, sl_tupF, a, us, rfl, hq.sq, fun hw => ?_, fun _ p ob hp hd => ?_⟩
      · rw [rs.length] at hw
        rw [cut_all hw] at q'
        exact q' _ H3 st3 .refl rv3
      · exact q' _ _ (st3.new hp) (.new hp) (st3.tup hp hd (cut_rs rs))
    · rename_i xs _ _
      cases hr
      obtain ⟨a, us, e, hq, n, rs⟩ := rv3.list
      subst e
      exact ⟨_, sl_list, a, us, rfl, .inl (.inl hq), fun p hp => q' _ _ (st3.new hp) (.new hp) (st3.lst hp (cut_rs rs))⟩
    · cases hr

/-! ### tuple.count -/
def asT : D → Option (List D)
  | .tup xs => some xs
  | _ => none
def eTCount (fo f : EnD → M D) : EnD → M D := fun ρ => mbind (fo ρ) fun d => mbind (mopt (asT d)) fun xs => mbind (f ρ) fun e => mopt (countT (.tup xs) e)
theorem flat_rs {K : PySem.W.Frag} {H : Hp} {R : Addr} {B : Addr → Prop} : ∀ {xs : List D} {us ws : List V}, Rs K H R B us xs → xs.mapM flatD = some ws → us = ws ∧ us.all flatV = true
  | [], us, ws, h, e => by
    cases h
    simp at e
    subst e
    exact ⟨rfl, rfl⟩
  | d :: xs, us, ws, h, e => by
    cases us with
    | nil => cases h
    | cons u us =>
      obtain ⟨h1, h2⟩ := h.split
      rw [List.mapM_cons] at e
      simp only [Option.bind_eq_bind, Option.bind_eq_some_iff, Option.pure_def, Option.some.injEq] at e
      obtain ⟨w, e1, ws', e2, rfl⟩ := e
      obtain ⟨a1, a2⟩ := flat_rs h2 e2
      subst a1
      rw [List.all_cons, a2, Bool.and_true]
      cases d <;> simp only [flatD, reduceCtorEq, Option.some.injEq] at e1
      all_goals subst e1
      case non => cases h1.non; exact ⟨rfl, rfl⟩
      case bl => cases h1.bl; exact ⟨rfl, rfl⟩
      case int => cases h1.int; exact ⟨rfl, rfl⟩
      case str => cases h1.str; exact ⟨rfl, rfl⟩
theorem pu_tcount (ho : PE X o (tD (yx X T E) fo)) (ha : PE X a (tD (yx X T E) fa))
    (hbase : attributeBase o "count" X.env (eval o X.env) = eval o X.env := by rfl)
    (hfew : ((backTo pos (starEach [a] X.env)).all (fun x => !x.1) && (backToKw pos (keywordEach [] X.env)).all (fun x => x.1.isSome)
      && decide (([a] : List Expr).length + ([] : List Keyword).length + (if ([] : List Keyword).isEmpty then 0 else 1) < 30)) = true := by rfl)
    (hline : (apos.endLine == pos.line) = true := by rfl) (hs : starEach [a] X.env = (false, eval a X.env) :: starEach [] X.env := by rfl) (hplain : (backTo pos (starEach [] X.env)).any (·.1) = false := by rfl) :
    PE X (.Call (.Attribute o "count" apos) [a] [] pos) (tD (yx X T E) (eTCount fo fa)) :=
  PE_imp (pe_bmT PySem.F.plainAttrs_tuple PySem.F.slot_tuple_count PySem.F.type_tuple_count mt_countT ho (pa_cons ha pa_nil hs) hbase hfew hline hs hplain) fun σ H Q h => by
    obtain ⟨g, ρ, z, st, a⟩ := h
    refine ⟨g, ρ, z, st, a.bind.imp fun d z1 _ h1 v H1 st1 e1 rv => ?_⟩
    obtain ⟨xs, hx, h2⟩ := h1.bind.opt
    obtain rfl : d = .tup xs := by cases d <;> simp_all [asT]
    obtain ⟨a, us, e, hq, n, rs⟩ := rv.tupl
    subst e
    refine ⟨⟨a, us, rfl, hq⟩, g, ρ, z1, st1, h2.bind.imp fun e z2 _ h3 w H2 st2 e2 rw' => ?_⟩
    obtain ⟨r, hr, q⟩ := h3.opt
    unfold countT at hr
    simp only [Option.bind_eq_some_iff, Option.some.injEq] at hr
    obtain ⟨y, hy, ws, hws, rfl⟩ := hr
    have rs2 : Rs X.K H2 g.R (bad g σ ρ) us xs := rs.mono (e2.rd st1.badR)
    have hq2 := (e2.rd st1.badR).tupX n hq
    obtain ⟨e3, fl⟩ := flat_rs rs2 hws
    subst e3
    obtain ⟨e4, fl4⟩ := flat_rs (ws := [y]) rw' (by rw [List.mapM_cons, hy] <;> rfl)
    cases e4
    refine ⟨a, us, w, rfl, rfl, hq2.sq, by simpa using fl4, fl, ?_⟩
    exact q _ H2 st2 (e1.trans e2) (.atom .int .nil)
end
end DL
set_option Elab.async false
set_option linter.all false
set_option maxRecDepth 100000
set_option maxHeartbeats 1000000
/-! DL8: what is walked; list comprehensions. -/
namespace DL
open PySem PySem.Spec PyProof.Rows L2

def plus (K : PySem.W.Frag) (H1 : Hp) (B : Addr → Prop) : Addr → Prop := fun a => B a ∨ (H1 a = none ∧ K.lookup a = none)
section
variable {K : PySem.W.Frag} {H H' H1 : Hp} {R : Addr} {B B' : Addr → Prop} {v : V} {d : D} {vs : List V} {ds : List D}
theorem rd_some {a : Addr} {u : HO} (h : Rd H a u) : H a ≠ none := by
  rcases h with h | ⟨o, h⟩ <;> rw [h] <;> exact fun z => by cases z
theorem plus_not {a : Addr} (n : ¬ B a) (h : H a ≠ none ∨ K.lookup a ≠ none) : ¬ plus K H B a := fun p => by
  rcases p with p | ⟨p1, p2⟩
  · exact n p
  · rcases h with h | h
    · exact h p1
    · exact h p2
/-- what stands now keeps away from all that comes -/
theorem Rs.dom (h : Rs K H R B vs ds) : Rs K H R (plus K H B) vs ds := by
  induction h with
  | nil => exact .nil
  | atom a _ ih => exact .atom a ih
  | tup s n _ _ ih1 ih2 =>
    refine .tup s (plus_not n ?_) ih1 ih2
    rcases s with ⟨o, h, _⟩ | ⟨o, its, m, h, _⟩
    · exact .inl (by rw [h]; exact fun z => by cases z)
    · exact .inr (by rw [h]; exact fun z => by cases z)
  | wt s n _ _ ih1 ih2 =>
    refine .wt s (plus_not n ?_) ih1 ih2
    rcases s with h | ⟨o, its, m, h, _⟩
    · exact .inl (rd_some h)
    · exact .inr (by rw [h]; exact fun z => by cases z)
  | lst s n _ _ ih1 ih2 => exact .lst s (plus_not n (.inl (by rw [s]; exact fun z => by cases z))) ih1 ih2
  | dS s n e _ _ ih1 ih2 => exact .dS s (plus_not n (.inl (rd_some (.inr ⟨_, s⟩)))) e ih1 ih2
  | dT s n e _ _ _ ih1 ih2 ih3 => exact .dT s (plus_not n (.inl (rd_some (.inr ⟨_, s⟩)))) e ih1 ih2 ih3
  | st s n e _ _ ih1 ih2 => exact .st s (plus_not n (.inl (rd_some (.inr ⟨_, s⟩)))) e ih1 ih2
theorem RdLe.mono (hb : ∀ a, B a → B' a) (r : RdLe B H H') : RdLe B' H H' :=
  ⟨fun a u n => r.1 a u fun z => n (hb a z), fun a o us n => r.2.1 a o us fun z => n (hb a z), fun a us n => r.2.2 a us fun z => n (hb a z)⟩
theorem RdLe.trans {H2 : Hp} (a : RdLe B H H') (b : RdLe B H' H2) : RdLe B H H2 :=
  ⟨fun c u n d r => b.1 c u n d (a.1 c u n d r), fun c o us n r => b.2.1 c o us n (a.2.1 c o us n r), fun c us n r => b.2.2 c us n (a.2.2 c us n r)⟩
theorem RdLe.refl : RdLe B H H := ⟨fun _ _ _ _ r => r, fun _ _ _ _ r => r, fun _ _ _ r => r⟩
end

/-- an iterator hands out these data, whatever is made meanwhile -/
structure ItD (K : PySem.W.Frag) (R : Addr) (B : Addr → Prop) (H1 : Hp) (J : It) (xs : List D) : Prop where
  go : ∀ i H, RdLe B H1 H → i < xs.length → J.go i H
  yld : ∀ i H x H', RdLe B H1 H → i < xs.length → J.yld i H x H' → H' = H ∧ ∃ d, xs[i]? = some d ∧ R1 K H R (plus K H1 B) x d
  stop : ∀ i H, RdLe B H1 H → xs.length ≤ i → J.stop i H
def tiD (Y : Yx) (f : EnD → M (List D)) : TI := fun σ H R => ∃ g ρ z, StR Y g H σ ρ z ∧ After Y g (f ρ z) fun xs z' => ∀ J H1, StR Y g H1 σ ρ z' → Ext g.R H H1 → ItD Y.K g.R (bad g σ ρ) H1 J xs → R J H1
theorem PI_imp {X : Cx} {tg e : Expr} {t t' : TI} (h : PI X tg e t) (i : ∀ σ H Q, t' σ H Q → t σ H Q) : PI X tg e t' := ⟨fun pins s σ H Q I q => h.run pins s σ H Q I (i σ H Q q)⟩

def iterD : D → Option (List D)
  | .str z => some (z.map fun c => .str [c])
  | .dS es => some (es.map fun p => .str p.1)
  | d => items d
/-- over a list, a tuple, a text -/
def iS (f : EnD → M D) : EnD → M (List D) := fun ρ => mbind (f ρ) fun d => mopt (iterD d)
def rangeD (lo : Int) (n : Nat) : List D := (List.range n).map fun (i : Nat) => .int (lo + (i : Int))
def iR1 (f : EnD → M D) : EnD → M (List D) := fun ρ => mbind (f ρ) fun d => mbind (mopt (asI d)) fun j => if -(2 ^ 62) ≤ j ∧ j < 2 ^ 62 then mpure (rangeD 0 j.toNat) else mbad
def iR2 (f f' : EnD → M D) : EnD → M (List D) := fun ρ => mbind (f ρ) fun d => mbind (mopt (asI d)) fun i => mbind (f' ρ) fun d => mbind (mopt (asI d)) fun j =>
  if -(2 ^ 62) ≤ i ∧ i < 2 ^ 62 ∧ -(2 ^ 62) ≤ j ∧ j < 2 ^ 62 then mpure (rangeD i (j - i).toNat) else mbad

def wipeD (ρ : EnD) : List Nat → EnD
  | [] => ρ
  | v :: vs => (wipeD ρ vs).set v none
def ownAt (ρ : EnD) (i : Nat) : Bool := match ρ[i]? with
  | some (some (.own _)) => true
  | _ => false
/-- no exception may leave -/
def mne {α : Type} (m : M α) : M α := fun z => match m z with
  | .ok a z' => .ok a z'
  | _ => .bad
/-- [f for i in xs if t] -/
def compL (i : Nat) (t : EnD → M Bool) (f : EnD → M D) : List D → EnD → M (List D)
  | [], _ => mpure []
  | x :: xs, ρ => mbind (mne (t ((ρ.set i none).set i (some (.val x))))) fun b =>
    if b then mbind (mne (f ((ρ.set i none).set i (some (.val x))))) fun d => mbind (compL i t f xs ρ) fun ds => mpure (d :: ds)
    else compL i t f xs ρ
def tYesD : EnD → M Bool := fun _ => mpure true
def eLc (i : Nat) (xs : EnD → M (List D)) (t : EnD → M Bool) (f : EnD → M D) : EnD → M D := fun ρ => mbind (xs ρ) fun l =>
  if l.length ≤ sizeLine ∧ ownAt ρ i = false then mbind (compL i t f l ρ) fun ds => mpure (.lst ds) else mbad

section
variable {X : Cx} {T : Tb} {E : XK} {e a b o l : Expr} {es : List Expr} {f fa fb fo : EnD → M D} {pos p apos : Pos} {σ : L2.St} {H : Hp} {Q : VK} {x : Str} {tg : Expr}
theorem itd_list {K : PySem.W.Frag} {R a : Addr} {B : Addr → Prop} {H1 : Hp} {us : List V} {xs : List D} (h : H1 a = some (.lst us)) (n : ¬ B a) (r : Rs K H1 R B us xs) : ItD K R B H1 (Itl K a) xs where
  go := fun i H rd hi => by
    have h2 := rd.2.2 a us n h
    have hl := r.length
    obtain ⟨v, h3, _⟩ := r.get (List.getElem?_eq_getElem hi)
    exact ⟨us, v, .inl (.inl h2), h3⟩
  yld := fun i H x H' rd hi hy => by
    have h2 := rd.2.2 a us n h
    obtain ⟨rfl, hx⟩ := hy
    have h3 := hx us (.inl (.inl h2))
    obtain ⟨d, h4, h5⟩ := r.dom.getV h3
    exact ⟨rfl, d, h4, h5.mono (rd.mono fun a z => .inl z)⟩
  stop := fun i H rd hi => ⟨us, .inl (.inl (rd.2.2 a us n h)), by rw [r.length]; exact hi⟩
theorem itd_tup {K : PySem.W.Frag} {R a : Addr} {B : Addr → Prop} {H1 : Hp} {us : List V} {xs : List D} (h : SqT K H1 a us) (n : ¬ B a) (r : Rs K H1 R B us xs) : ItD K R B H1 (Itt K a) xs where
  go := fun i H rd hi => by
    have h2 := rd.sqT n h
    obtain ⟨v, h3, _⟩ := r.get (List.getElem?_eq_getElem hi)
    exact ⟨us, v, h2, h3⟩
  yld := fun i H x H' rd hi hy => by
    obtain ⟨rfl, hx⟩ := hy
    have h3 := hx us (rd.sqT n h)
    obtain ⟨d, h4, h5⟩ := r.dom.getV h3
    exact ⟨rfl, d, h4, h5.mono (rd.mono fun a z => .inl z)⟩
  stop := fun i H rd hi => ⟨us, rd.sqT n h, by rw [r.length]; exact hi⟩
theorem itd_str {K : PySem.W.Frag} {R : Addr} {B : Addr → Prop} {H1 : Hp} {z : List Nat} : ItD K R B H1 (Its (ST z)) (z.map fun c => .str [c]) where
  go := fun i H rd hi => by
    show i < (ST z).cps.size
    rw [List.length_map] at hi
    simpa [ST] using hi
  yld := fun i H x H' rd hi hy => by
    obtain ⟨rfl, c, hc, rfl⟩ := hy
    refine ⟨rfl, .str [c], ?_, .atom (.str (z := [c])) .nil⟩
    have : z[i]? = some c := by simpa [ST] using hc
    rw [List.getElem?_map, this] <;> rfl
  stop := fun i H rd hi => by
    show (ST z).cps.size ≤ i
    rw [List.length_map] at hi
    simpa [ST] using hi
theorem itd_range {K : PySem.W.Frag} {R : Addr} {B : Addr → Prop} {H1 : Hp} {lo : Int} {n : Nat} : ItD K R B H1 (Itr lo n) (rangeD lo n) where
  go := fun i H rd hi => by
    show i < n
    simpa [rangeD] using hi
  yld := fun i H x H' rd hi hy => by
    obtain ⟨rfl, rfl⟩ := hy
    refine ⟨rfl, .int (lo + (i : Int)), ?_, .atom .int .nil⟩
    have : i < n := by simpa [rangeD] using hi
    simp [rangeD, this]
  stop := fun i H rd hi => by
    show n ≤ i
    simpa [rangeD] using hi
theorem itd_keys {K : PySem.W.Frag} {R a : Addr} {B : Addr → Prop} {H1 : Hp} {o : Obj} {kvs : List (Key × V)} {es : List (List Nat × D)} (h : H1 a = some (.frz o (.dK kvs))) (n : ¬ B a) (r : DSR K H1 R B kvs es) : ItD K R B H1 (Itk a o kvs) (es.map fun p => .str p.1) where
  go := fun i H rd hi => ⟨rd.2.1 a o _ n h, by rw [List.length_map] at hi; rw [r.length]; exact hi⟩
  yld := fun i H x H' rd hi hy => by
    obtain ⟨rfl, k, v, hk, rfl⟩ := hy
    have h1 := congrArg (fun l => l[i]?) r.out.1
    simp only [List.getElem?_map, hk, Option.map_some] at h1
    rw [List.length_map] at hi
    rw [List.getElem?_eq_getElem hi, Option.map_some] at h1
    have h2 : k = kS es[i] := Option.some.inj h1
    subst h2
    refine ⟨rfl, .str es[i].1, ?_, .atom .str .nil⟩
    rw [List.getElem?_map, List.getElem?_eq_getElem hi]
    rfl
  stop := fun i H rd hi => ⟨rd.2.1 a o _ n h, by rw [List.length_map] at hi; rw [r.length]; exact hi⟩
def iAny (K : PySem.W.Frag) (tl : TE) : TI := fun σ H R => tl σ H fun x H1 => (∃ a o kvs, x = .ref a ∧ H1 a = some (.frz o (.dK kvs)) ∧ R (Itk a o kvs) H1) ∨ (∃ a, x = .ref a ∧ (∃ xs, SqL K H1 a xs) ∧ R (Itl K a) H1) ∨ (∃ a, x = .ref a ∧ (∃ xs, SqT K H1 a xs) ∧ R (Itt K a) H1) ∨ ∃ z, x = .str z ∧ R (Its z) H1
theorem pi_any {l : Expr} {tl : TE} (hl : PE X l tl) : PI X tg l (iAny X.K tl) := by
  refine ⟨fun pins s σ H R I h => ?_⟩
  refine thn (hl.run pins s σ H _ I h) fun v s1 ⟨x, H1, I1, r1, q1⟩ => ?_
  have fr : H1 s1.heap.objs.size = none := I1.hok.fresh (Nat.le_refl _)
  rcases q1 with ⟨a, o, kvs, e, hd, q⟩ | ⟨a, e, ⟨xs, hq⟩, q⟩ | ⟨a, e, ⟨xs, hq⟩, q⟩ | ⟨z, e, q⟩
  · subst e
    obtain rfl : v = Value.ref a := r1
    obtain ⟨hs, hgd, hx, es, ep, vs, hdt, hsz, kv, hm⟩ := I1.frzK hd
    refine iter_keys hs hgd hx hdt (pi_one (tk := s1.toks) I1 _ (turn_keys _ hdt) ⟨_, Heap.get?_push_size _ rfl, rfl, ?_⟩ q)
    rw [hsz] <;> rfl
  · subst e
    obtain rfl : v = Value.ref a := r1
    obtain ⟨its, rv, p, hz⟩ := I1.list hq
    refine wpAny_pyIter_list p.isList ⟨s1.heap.objs.size, [s1.heap.objs.size], _, _, H1, rfl, I1.kept (t' := s1.toks) fun b o e => Heap.get?_push_of_some _ e, turn_list a _, ⟨_, Heap.get?_push_size _ rfl, rfl, rfl⟩, fun b hb => ?_, q⟩
    obtain rfl : b = s1.heap.objs.size := by simpa using hb
    exact I1.fpOk (Nat.le_refl _) fr
  · subst e
    obtain rfl : v = Value.ref a := r1
    obtain ⟨its, rv, p, hz⟩ := I1.tuple hq
    refine wpAny_pyIter_tuple (show s1.heap.IsTuple a its.toArray from p) ⟨s1.heap.objs.size, [s1.heap.objs.size], _, _, H1, rfl, I1.kept (t' := s1.toks) fun b o e => Heap.get?_push_of_some _ e, turn_tuple a _, ⟨_, Heap.get?_push_size _ rfl, rfl, rfl⟩, fun b hb => ?_, q⟩
    obtain rfl : b = s1.heap.objs.size := by simpa using hb
    exact I1.fpOk (Nat.le_refl _) fr
  · subst e
    obtain ⟨t, rfl⟩ := (show ∃ t, v = Value.str z t from r1)
    cases ha : z.cps.all (· < 128)
    · exact wpAny_pyIter_wide ha (pi_one (tk := s1.toks) I1 _ (turn_str _ z t "str_iterator" (.inr rfl)) ⟨_, Heap.get?_push_size _ rfl, rfl, rfl⟩ q)
    · exact wpAny_pyIter_ascii ha (pi_one (tk := s1.toks) I1 _ (turn_str _ z t "str_ascii_iterator" (.inl rfl)) ⟨_, Heap.get?_push_size _ rfl, rfl, rfl⟩ q)
theorem pu_iS (ha : PE X a (tD (yx X T E) fa)) : PI X tg a (tiD (yx X T E) (iS fa)) := PI_imp (pi_any ha) fun σ H R h => by
  obtain ⟨g, ρ, z, st, h⟩ := h
  refine ⟨g, ρ, z, st, h.bind.imp fun d z1 _ h1 v H1 st1 e1 r1 => ?_⟩
  obtain ⟨xs, hx, q⟩ := h1.opt
  unfold iterD at hx
  split at hx
  · cases hx
    cases r1.str
    exact .inr (.inr (.inr ⟨_, rfl, q _ H1 st1 e1 itd_str⟩))
  · cases hx
    obtain ⟨a, o, kvs, rfl, hd, nb, dsr⟩ := r1.dictF
    exact .inl ⟨a, o, kvs, rfl, hd, q _ H1 st1 e1 (itd_keys hd nb dsr)⟩
  · refine .inr ?_
    cases d <;> simp only [items, reduceCtorEq, Option.some.injEq] at hx
    case tup =>
      subst hx
      obtain ⟨a, us, rfl, hq, n, rs⟩ := r1.tupl
      exact .inr (.inl ⟨a, rfl, ⟨us, hq.sq⟩, q _ H1 st1 e1 (itd_tup hq.sq n rs)⟩)
    case wt =>
      subst hx
      cases r1 with
      | atom a _ => cases a
      | wt s n r _ => exact .inr (.inl ⟨_, rfl, ⟨_, s⟩, q _ H1 st1 e1 (itd_tup s n r)⟩)
    case lst =>
      subst hx
      obtain ⟨a, us, rfl, hq, n, rs⟩ := r1.list
      exact .inl ⟨a, rfl, ⟨us, .inl (.inl hq)⟩, q _ H1 st1 e1 (itd_list hq n rs)⟩
theorem pu_iR1 (hg : Gl X "range") (hm : X.mg "range" = none) (ha : PE X a (tD (yx X T E) fa)) (hs : starEach [a] X.env = [(false, eval a X.env)] := by rfl) : PI X tg (.Call (.Name "range" p) [a] [] pos) (tiD (yx X T E) (iR1 fa)) :=
  PI_imp (pi_range1 hg hm (pa_cons ha pa_nil hs) hs) fun σ H R h => by
    obtain ⟨g, ρ, z, st, h⟩ := h
    refine ⟨g, ρ, z, st, h.bind.imp fun d z1 _ h1 v H1 st1 e1 r1 => ?_⟩
    obtain ⟨i, hi, q⟩ := h1.bind.opt
    obtain rfl : d = .int i := by cases d <;> simp_all [asI]
    cases r1.int
    by_cases c : -(2 ^ 62) ≤ i ∧ i < 2 ^ 62
    · rw [if_pos c] at q
      exact ⟨i, rfl, c.1, c.2, q.pure _ H1 st1 e1 itd_range⟩
    · rw [if_neg c] at q
      exact q.elim
theorem pu_iR2 (hg : Gl X "range") (hm : X.mg "range" = none) (ha : PE X a (tD (yx X T E) fa)) (hb : PE X b (tD (yx X T E) fb)) (hs : starEach [a, b] X.env = [(false, eval a X.env), (false, eval b X.env)] := by rfl) (hs2 : starEach [b] X.env = [(false, eval b X.env)] := by rfl) :
    PI X tg (.Call (.Name "range" p) [a, b] [] pos) (tiD (yx X T E) (iR2 fa fb)) :=
  PI_imp (pi_range2 hg hm (pa_cons ha (pa_cons hb pa_nil hs2) (by rw [hs, hs2])) hs hs2) fun σ H R h => by
    obtain ⟨g, ρ, z, st, h⟩ := h
    refine ⟨g, ρ, z, st, h.bind.imp fun d z1 _ h1 v H1 st1 e1 r1 => ?_⟩
    obtain ⟨i, hi, q⟩ := h1.bind.opt
    obtain rfl : d = .int i := by cases d <;> simp_all [asI]
    cases r1.int
    refine ⟨g, ρ, z1, st1, q.bind.imp fun d2 z2 _ h2 w H2 st2 e2 r2 => ?_⟩
    obtain ⟨j, hj, q⟩ := h2.bind.opt
    obtain rfl : d2 = .int j := by cases d2 <;> simp_all [asI]
    cases r2.int
    by_cases c : -(2 ^ 62) ≤ i ∧ i < 2 ^ 62 ∧ -(2 ^ 62) ≤ j ∧ j < 2 ^ 62
    · rw [if_pos c] at q
      exact ⟨i, j, rfl, c, q.pure _ H2 st2 (e1.trans e2) itd_range⟩
    · rw [if_neg c] at q
      exact q.elim

/-! ### list comprehensions -/
def KN (K : PySem.W.Frag) (H : Hp) : Prop := ∀ a, H a ≠ none → K.lookup a = none
theorem kn_of {X : Cx} {pins : List (Addr × Obj)} {σ : L2.St} {H : Hp} {s : Shared} (I : Inv X pins σ H s) : KN X.K H := fun a h => by
  cases e : X.K.lookup a with
  | none => rfl
  | some o => exact absurd (I.bs a o (I.ok.mod.kin a o e)).2 h
theorem PE_kn {X : Cx} {e : Expr} {t : TE} (h : PE X e t) : PE X e fun σ H Q => KN X.K H → t σ H Q := ⟨fun pins s σ H Q I q => h.run pins s σ H Q I (q (kn_of I))⟩
theorem PTs_kn {X : Cx} {e : List Expr} {t : TT} (h : PTs X e t) : PTs X e fun σ H Q => KN X.K H → t σ H Q := ⟨fun pins s σ H Q I q => h.run pins s σ H Q I (q (kn_of I))⟩
theorem pts_no : PTs X [] (ttD (yx X T E) tYesD) := ⟨fun pins s σ H Q I h => pts_nil.run pins s σ H Q I (by
  obtain ⟨g, ρ, z, st, a⟩ := h
  exact a.pure H st .refl)⟩
theorem pts_yes {c : Expr} {t : EnD → M Bool} (h : PT X c (ttD (yx X T E) t)) : PTs X [c] (ttD (yx X T E) t) := pts_one h
theorem After.ne {α : Type} {Y Y' : Yx} {g g' : G} {m : M α} {z : S} {P : α → S → Prop} (h : After Y g (mne m z) P) : After Y' g' (m z) P := by
  unfold mne at h
  cases e : m z with
  | ok a z' => rw [e] at h; exact h
  | exc x z' => rw [e] at h; exact h.elim
  | bad => rw [e] at h; exact h.elim
end
end DL
set_option Elab.async false
set_option linter.all false
set_option maxRecDepth 100000
set_option maxHeartbeats 1000000
/-! DL9: slots set; list comprehensions. -/
namespace DL
open PySem PySem.Spec PyProof.Rows L2

def notOwn : Option Sl → Prop
  | some (.own _) => False
  | _ => True
section
variable {Y : Yx} {g : G} {H H' H1 : Hp} {σ : L2.St} {ρ : EnD} {z z' : S} {i : Nat} {v : V} {d : D}
theorem ownAt_not (h : ownAt ρ i = false) (d : D) : ρ[i]? ≠ some (some (.own d)) := fun e => by
  unfold ownAt at h
  rw [e] at h
  cases h
theorem own_set (h : ownAt ρ i = false) (x : Option V) (y : Option Sl) (hy : notOwn y) : Own (σ.set i x) (ρ.set i y) = Own σ ρ := by
  funext a
  apply propext
  constructor
  · rintro ⟨j, d, h1, h2⟩
    by_cases e : i = j
    · subst e
      exfalso
      rw [List.getElem?_set] at h1
      simp only [if_true] at h1
      split at h1
      · cases h1; exact hy
      · cases h1
    · rw [List.getElem?_set_ne e] at h1 h2
      exact ⟨j, d, h1, h2⟩
  · rintro ⟨j, d, h1, h2⟩
    by_cases e : i = j
    · subst e
      exact absurd h1 (ownAt_not h d)
    · exact ⟨j, d, by rw [List.getElem?_set_ne e]; exact h1, by rw [List.getElem?_set_ne e]; exact h2⟩
theorem bad_set (h : ownAt ρ i = false) (x : Option V) (y : Option Sl) (hy : notOwn y) : bad g (σ.set i x) (ρ.set i y) = bad g σ ρ := by
  funext a
  unfold bad
  rw [own_set h x y hy]
theorem bad_setv (h : ownAt ρ i = false) : bad g (σ.set i (some v)) (ρ.set i (some (.val d))) = bad g σ ρ := bad_set h _ _ trivial
theorem bad_setn (h : ownAt ρ i = false) : bad g (σ.set i none) (ρ.set i none) = bad g σ ρ := bad_set h _ _ trivial
theorem set_some {α : Type} {l : List (Option α)} {i j : Nat} {x : Option α} {y : α} (h : (l.set i x)[j]? = some (some y)) : (i = j ∧ x = some y ∧ i < l.length) ∨ (i ≠ j ∧ l[j]? = some (some y)) := by
  by_cases e : i = j
  · subst e
    rw [List.getElem?_set] at h
    simp only [if_true] at h
    split at h
    · rename_i hl
      exact .inl ⟨rfl, Option.some.inj h, hl⟩
    · cases h
  · rw [List.getElem?_set_ne e] at h
    exact .inr ⟨e, h⟩
theorem StR.setv (st : StR Y g H σ ρ z) (h : ownAt ρ i = false) (r : R1 Y.K H g.R (bad g σ ρ) v d) : StR Y g H (σ.set i (some v)) (ρ.set i (some (.val d))) z where
  wo := by unfold gb; rw [bad_setv h]; exact st.wo
  gR := st.gR
  len := by rw [List.length_set, List.length_set]; exact st.len
  val := fun j e hj => by
    rw [bad_setv h]
    rcases set_some hj with ⟨rfl, e1, hl⟩ | ⟨ne, hj⟩
    · cases e1
      exact ⟨v, by rw [List.getElem?_set_self (by rw [st.len]; exact hl)], r⟩
    · obtain ⟨w, h1, h2⟩ := st.val j e hj
      exact ⟨w, by rw [List.getElem?_set_ne ne]; exact h1, h2⟩
  own := fun j e hj => by
    rw [bad_setv h]
    rcases set_some hj with ⟨rfl, e1, hl⟩ | ⟨ne, hj⟩
    · cases e1
    · obtain ⟨a, h1, h2⟩ := st.own j e hj
      exact ⟨a, by rw [List.getElem?_set_ne ne]; exact h1, h2⟩
  inj := fun j k e e' a hj hk h1 h2 => by
    rcases set_some hj with ⟨rfl, e1, hl⟩ | ⟨ne, hj⟩
    · cases e1
    · rcases set_some hk with ⟨rfl, e1, hl⟩ | ⟨ne', hk⟩
      · cases e1
      · rw [List.getElem?_set_ne ne] at h1
        rw [List.getElem?_set_ne ne'] at h2
        exact st.inj j k e e' a hj hk h1 h2
  ext := st.ext
theorem StR.setn (st : StR Y g H σ ρ z) (h : ownAt ρ i = false) : StR Y g H (σ.set i none) (ρ.set i none) z where
  wo := by unfold gb; rw [bad_setn h]; exact st.wo
  gR := st.gR
  len := by rw [List.length_set, List.length_set]; exact st.len
  val := fun j e hj => by
    rw [bad_setn h]
    rcases set_some hj with ⟨rfl, e1, hl⟩ | ⟨ne, hj⟩
    · cases e1
    · obtain ⟨w, h1, h2⟩ := st.val j e hj
      exact ⟨w, by rw [List.getElem?_set_ne ne]; exact h1, h2⟩
  own := fun j e hj => by
    rw [bad_setn h]
    rcases set_some hj with ⟨rfl, e1, hl⟩ | ⟨ne, hj⟩
    · cases e1
    · obtain ⟨a, h1, h2⟩ := st.own j e hj
      exact ⟨a, by rw [List.getElem?_set_ne ne]; exact h1, h2⟩
  inj := fun j k e e' a hj hk h1 h2 => by
    rcases set_some hj with ⟨rfl, e1, hl⟩ | ⟨ne, hj⟩
    · cases e1
    · rcases set_some hk with ⟨rfl, e1, hl⟩ | ⟨ne', hk⟩
      · cases e1
      · rw [List.getElem?_set_ne ne] at h1
        rw [List.getElem?_set_ne ne'] at h2
        exact st.inj j k e e' a hj hk h1 h2
  ext := st.ext
theorem ownAt_set (h : ownAt ρ i = false) {y : Option Sl} (hy : notOwn y) (j : Nat) : ownAt (ρ.set i y) j = ownAt ρ j := by
  by_cases e : i = j
  · subst e
    by_cases hl : i < ρ.length
    · rw [h]
      unfold ownAt
      rw [List.getElem?_set_self hl]
      cases y with
      | none => rfl
      | some s => cases s with
        | val d => rfl
        | own d => exact hy.elim
    · rw [List.set_eq_of_length_le (by omega)]
  · unfold ownAt
    rw [List.getElem?_set_ne e]

/-- a new thing at Dd, kept away from -/
abbrev gd (g : G) (Dd : Addr) : G := ⟨g.R, fun a => g.B a ∨ a = Dd, g.H0⟩
theorem bad_gd (Dd : Addr) : bad (gd g Dd) σ ρ = fun a => bad g σ ρ a ∨ a = Dd := by
  funext a
  apply propext
  constructor
  · rintro ((h | h) | h)
    · exact .inl (.inl h)
    · exact .inr h
    · exact .inl (.inr h)
  · rintro ((h | h) | h)
    · exact .inl (.inl h)
    · exact .inr h
    · exact .inl (.inr h)
theorem bad_le {Dd a : Addr} (h : bad g σ ρ a) : bad (gd g Dd) σ ρ a := by rw [bad_gd]; exact .inl h
theorem OwnAt.less {K : PySem.W.Frag} {R a : Addr} {B B' : Addr → Prop} {d : D} (hb : ∀ a, B' a → B a) (h : OwnAt K H R B a d) : OwnAt K H R B' a d := by
  cases d <;> first
    | exact h.elim
    | (obtain ⟨x, e, q⟩ := h; exact ⟨x, e, q.less hb⟩)
    | (obtain ⟨x, e, e2, q⟩ := h; exact ⟨x, e, e2, q.less hb⟩)
theorem OwnAt.dom {K : PySem.W.Frag} {R a : Addr} {B : Addr → Prop} {d : D} (h : OwnAt K H R B a d) : OwnAt K H R (plus K H B) a d := by
  cases d <;> first
    | exact h.elim
    | (obtain ⟨x, e, q⟩ := h; exact ⟨x, e, q.dom⟩)
    | (obtain ⟨x, e, e2, q⟩ := h; exact ⟨x, e, e2, q.dom⟩)
theorem DskAt.dom {K : PySem.W.Frag} {C R a : Addr} {B : Addr → Prop} {fs : List (Str × D)} (h : DskAt K C R B H a fs) : DskAt K C R (plus K H B) H a fs := by
  obtain ⟨dx, fv, h1, h2, h3, h4⟩ := h
  exact ⟨dx, fv, h1, h2, h3.dom, h4⟩
theorem DskAt.guard {K : PySem.W.Frag} {C R a Dd : Addr} {B B' : Addr → Prop} {H : Hp} {o : HO} {fs : List (Str × D)} (h : DskAt K C R B H a fs) (hD : H Dd = none) (hK : K.lookup Dd = none) (hR : B R) (sub : ∀ b, B' b → B b ∨ b = Dd) : DskAt K C R B' (upd H Dd o) a fs :=
  DskAt.less (fun b q => (sub b q).elim .inl fun e => by rw [e]; exact .inr ⟨hD, hK⟩) (DskAt.mono (Ext.rd (R := R) (.new hD) (.inl hR)) (fun C dx fv q => by rw [upd_ne (ne_of_none q hD)]; exact q) h.dom)
theorem StR.guard {Dd : Addr} (st : StR Y g H1 σ ρ z) (hD : H1 Dd = none) (hK : Y.K.lookup Dd = none) (ex : Ext g.R H1 H) (w : Wo Y.K Y.T (gb (gd g Dd) σ ρ) H z') : StR Y (gd g Dd) H σ ρ z' := by
  have sub : ∀ a, bad (gd g Dd) σ ρ a → plus Y.K H1 (bad g σ ρ) a := fun a h => by
    rw [bad_gd] at h
    rcases h with h | rfl
    · exact .inl h
    · exact .inr ⟨hD, hK⟩
  have rd : RdLe (plus Y.K H1 (bad g σ ρ)) H1 H := (ex.rd st.badR).mono fun a h => .inl h
  refine ⟨w, .inl st.gR, st.len, fun i d h => ?_, fun i d h => ?_, st.inj, st.ext.trans ex⟩
  · obtain ⟨v, h1, h2⟩ := st.val i d h
    exact ⟨v, h1, (Rs.mono rd h2.dom).less sub⟩
  · obtain ⟨a, h1, h2, h3, h4, h5⟩ := st.own i d h
    have nD : a ≠ Dd := fun e => by
      obtain ⟨o, ho, _⟩ := h5.there
      rw [e, hD] at ho
      cases ho
    exact ⟨a, h1, fun z => z.elim h2 nD, h3, h4, (OwnAt.mono rd (fun o q nt => ex.keep a o q (st.ownNe ⟨i, d, h, h1⟩) nt) h5.dom).less sub⟩
theorem Ext.upNew {R Dd : Addr} {o : HO} (e : Ext R H1 H) (hD : H1 Dd = none) : Ext R H1 (upd H Dd o) :=
  ⟨fun a u q h1 h2 => by rw [upd_ne (ne_of_none q hD)]; exact e.keep a u q h1 h2, fun a h => by
    by_cases e2 : a = Dd
    · rw [e2, upd_same]; exact fun z => by cases z
    · rw [upd_ne e2]; exact e.dom a h, fun x xs q => (e.row x xs q).elim fun ys e2 => ⟨ys, by rw [upd_ne (ne_of_none q hD)]; exact e2⟩⟩
theorem RdLe.up {B : Addr → Prop} {Dd : Addr} {o : HO} (hB : B Dd) : RdLe B H (upd H Dd o) := by
  have ne : ∀ a, ¬ B a → a ≠ Dd := fun a n e => n (by rw [e]; exact hB)
  refine ⟨fun a u n du r => ?_, fun a ob us n e => by rw [upd_ne (ne a n)]; exact e, fun a us n e => by rw [upd_ne (ne a n)]; exact e⟩
  rcases r with r | ⟨ob, r⟩
  · exact .inl (by rw [upd_ne (ne a n)]; exact r)
  · exact .inr ⟨ob, by rw [upd_ne (ne a n)]; exact r⟩
/-- the guarded thing changes -/
theorem Wo.up {K : PySem.W.Frag} {T : Tb} {g : G} {Dd : Addr} {o o' : HO} (w : Wo K T g H z) (hB : g.B Dd) (hR : Dd ≠ g.R) (ho : H Dd = some o) (hn : Stay o) (hc : ∀ φ, o ≠ .ext φ := by intro φ z; cases z) : Wo K T g (upd H Dd o') z := by
  obtain ⟨⟨SA, h1, h2, h3⟩, ht, hb, hd, hk, hl, hi, hz⟩ := w
  have nS : SA ≠ Dd := fun e => h1 (by rw [e]; exact hB)
  refine ⟨⟨SA, h1, ?_, by rw [upd_ne (Ne.symm hR)]; exact h3⟩, fun P hP => ?_, hb, fun a ha => ?_, hk, tabs_keep hl (fun q _ ps e => by rw [upd_ne (fun z => hn.ne ps (Option.some.inj (ho.symm.trans (by rw [← z]; exact e))))]; exact e) (fun c φ e => by rw [upd_ne (fun z => hc φ (Option.some.inj (ho.symm.trans (by rw [← z]; exact e))))]; exact e), hi, fun a fs e => (hz a fs e).mono (RdLe.up hB) fun C dx fv q => by rw [upd_ne (fun e => by rw [e, ho] at q; exact hn.ni _ _ _ (Option.some.inj q))]; exact q⟩
  · rcases h2 with (q | ⟨ob, q⟩) | q
    · exact .inl (.inl (by rw [upd_ne nS]; exact q))
    · exact .inl (.inr ⟨ob, by rw [upd_ne nS]; exact q⟩)
    · exact .inr q
  · obtain ⟨ps, q, r⟩ := ht P hP
    have ne : P ≠ Dd := fun e => by
      rw [e, ho] at q
      exact hn.ne ps (Option.some.inj q)
    exact ⟨ps, by rw [upd_ne ne]; exact q, r⟩
  · by_cases e : a = Dd
    · rw [e, upd_same]; exact fun z => by cases z
    · rw [upd_ne e]; exact hd a ha
end
theorem StR.chE {K : PySem.W.Frag} {T : Tb} {mg : Str → Option Value} {E E' : XK} {g : G} {H : Hp} {σ : L2.St} {ρ : EnD} {z : S} (st : StR ⟨K, T, mg, E⟩ g H σ ρ z) : StR ⟨K, T, mg, E'⟩ g H σ ρ z :=
  ⟨st.wo, st.gR, st.len, st.val, st.own, st.inj, st.ext⟩
section
variable {X : L2.Cx} {T : Tb} {E : XK} {fi : EnD → M (List D)} {t : EnD → M Bool} {f : EnD → M D} {elt iter tg : Expr} {ifs : List Expr} {scope : Scope} {pos : Pos} {x : Str} {i : Nat}
theorem lc_read {σ : L2.St} {H : Hp} {Q : VK} (h : tD (yx X T E) (eLc i fi t f) σ H Q) :
    tLc (tiD (yx X T E) fi) (gName i) (fun σ H Q => KN X.K H → ttD (yx X T E0) t σ H Q) (fun σ H Q => KN X.K H → tD (yx X T E0) f σ H Q) [i] σ H Q := by
  obtain ⟨g, ρ, z, st, a⟩ := h
  refine ⟨g, ρ, z, st, a.bind.imp fun l z1 _ h1 J H1 st1 e1 it Dd hD => ?_⟩
  have c : l.length ≤ sizeLine ∧ ownAt ρ i = false := by
    refine Decidable.byContradiction fun c => ?_
    rw [if_neg c] at h1
    exact h1
  rw [if_pos c] at h1
  obtain ⟨cl, co⟩ := c
  have hDR : Dd ≠ g.R := fun e => st1.badDom st1.badR (by rw [← e]; exact hD)
  refine ⟨fun n m H' => ∃ acc ds zi, n + m = l.length ∧ H' Dd = some (.lst acc) ∧ Ext g.R H1 H' ∧ Wo X.K T (gb g σ ρ) H' zi ∧ (X.K.lookup Dd = none → Wo X.K T (gb (gd g Dd) σ ρ) H' zi) ∧
    Rs X.K H' g.R (fun a => bad g σ ρ a ∨ a = Dd) acc ds ∧ ds.length ≤ n ∧ After (yx X T E) g (compL i t f (l.drop n) ρ zi) (fun ds' z'' => ∀ v H'', StR (yx X T E) g H'' σ ρ z'' → Ext g.R H1 H'' → R1 X.K H'' g.R (bad g σ ρ) v (.lst (ds ++ ds')) → Q v H''),
    ⟨l.length, [], [], z1, Nat.zero_add _, upd_same, .new hD, st1.wo.new hD, fun hK => ?_, .nil, Nat.zero_le _, ?_⟩, ?_⟩
  · obtain ⟨⟨SA, s1, s2, s3⟩, ht, hb, hd, hk⟩ := st1.wo
    have hS : SA ≠ Dd := fun e => by
      rcases s2 with s2 | ⟨o, its, nn, s2, _⟩
      · exact rd_some s2 (by rw [e]; exact hD)
      · rw [e, hK] at s2; cases s2
    have w := st1.wo.new (o := .lst []) hD
    obtain ⟨_, ht', hb', hd', hk', hl', hi', hz'⟩ := w
    refine ⟨⟨SA, fun q => ?_, ?_, by rw [upd_ne (ne_of_none s3 hD)]; exact s3⟩, ht', .inl (.inl st1.gR), fun a ha => ?_, fun a ha => ?_, hl', hi', fun a fs e => (st1.wo.dsk a fs e).guard hD hK st1.badR fun b q => by have q : bad (gd g Dd) σ ρ b := q; rw [bad_gd] at q; exact q⟩
    · have q : bad (gd g Dd) σ ρ SA := q
      rw [bad_gd] at q
      exact q.elim s1 hS
    · rcases s2 with (q | ⟨ob, q⟩) | q
      · exact .inl (.inl (by rw [upd_ne hS]; exact q))
      · exact .inl (.inr ⟨ob, by rw [upd_ne hS]; exact q⟩)
      · exact .inr q
    · have ha : bad (gd g Dd) σ ρ a := ha
      rw [bad_gd] at ha
      rcases ha with ha | rfl
      · exact hd' a ha
      · rw [upd_same]; exact fun z => by cases z
    · have ha : bad (gd g Dd) σ ρ a := ha
      rw [bad_gd] at ha
      rcases ha with ha | rfl
      · exact hk' a ha
      · exact hK
  · rw [List.drop_zero]
    refine h1.bind.imp fun ds' z'' _ q v H'' s' ex r => ?_
    exact q.pure v H'' s' (e1.trans ex) (by simpa using r)
  · rintro n m H' ⟨acc, ds, zi, hm, hHD, ex, wo, wog, racc, hds, hcomp⟩
    have rdl : RdLe (bad g σ ρ) H1 H' := ex.rd st1.badR
    by_cases hn : n < l.length
    · obtain ⟨xd, hxd⟩ : ∃ xd, l[n]? = some xd := ⟨_, List.getElem?_eq_getElem hn⟩
      have edrop : l.drop n = xd :: l.drop (n + 1) := by
        rw [List.drop_eq_getElem_cons hn]
        rw [List.getElem?_eq_getElem hn] at hxd
        cases hxd
        rfl
      rw [edrop] at hcomp
      unfold compL at hcomp
      refine .inr ⟨it.go n H' rdl hn, _, fun H'' hW => ⟨m - 1, by omega, hW⟩, fun xv H'' hy => ?_⟩
      obtain ⟨rfl, d, hd, rx⟩ := it.yld n H' xv H'' rdl hn hy
      rw [hxd] at hd
      cases hd
      show wipe (((wipe σ [i]).set i (some xv))) [i] = wipe σ [i] ∧ _
      refine ⟨by simp [wipe], fun kn => ?_⟩
      have hK : X.K.lookup Dd = none := kn Dd (by rw [hHD]; exact fun z => by cases z)
      have sg := st1.guard (H := H'') (z' := zi) hD hK ex (wog hK)
      have sub : ∀ a, bad (gd g Dd) σ ρ a → plus X.K H1 (bad g σ ρ) a := fun a h => by
        rw [bad_gd] at h
        rcases h with h | rfl
        · exact .inl h
        · exact .inr ⟨hD, hK⟩
      have s2 := sg.setn (i := i) co
      have co2 : ownAt (ρ.set i none) i = false := by rw [ownAt_set co (y := none) trivial]; exact co
      have s3 : StR (yx X T E0) (gd g Dd) H'' ((wipe σ [i]).set i (some xv)) ((ρ.set i none).set i (some (.val xd))) zi :=
        (s2.setv co2 (by rw [bad_set co none none trivial]; exact rx.less sub)).chE
      have bE : bad (gd g Dd) ((wipe σ [i]).set i (some xv)) ((ρ.set i none).set i (some (.val xd))) = bad (gd g Dd) σ ρ := by
        show bad (gd g Dd) ((σ.set i none).set i (some xv)) ((ρ.set i none).set i (some (.val xd))) = bad (gd g Dd) σ ρ
        rw [bad_set co2 (some xv) (some (.val xd)) trivial, bad_set co none none trivial]
      refine ⟨gd g Dd, _, zi, s3, (After.ne hcomp.bind).imp fun b z2 _ h3 H3 st3 e3 => ?_⟩
      have wo3 : Wo X.K T (gb (gd g Dd) σ ρ) H3 z2 := by
        have := st3.wo
        unfold gb at this
        rw [bE] at this
        exact this
      have hD3 : H3 Dd = some (.lst acc) := e3.keep Dd _ hHD hDR trivial
      have badRd : (fun a => bad g σ ρ a ∨ a = Dd) g.R := .inl st1.badR
      cases b with
      | false =>
        simp only [Bool.false_eq_true, if_false] at h3 ⊢
        refine ⟨acc, ds, z2, by omega, hD3, ex.trans e3, wo3.less (fun a h => bad_le h) st1.badR, fun _ => wo3, racc.mono (e3.rd badRd), by omega, h3⟩
      | true =>
        simp only [if_true] at h3 ⊢
        intro kn3
        refine ⟨gd g Dd, _, z2, st3, (After.ne h3.bind).imp fun d z3 _ h4 y H4 st4 e4 ry => ?_⟩
        have wo4 : Wo X.K T (gb (gd g Dd) σ ρ) H4 z3 := by
          have := st4.wo
          unfold gb at this
          rw [bE] at this
          exact this
        have hD4 : H4 Dd = some (.lst acc) := e4.keep Dd _ hD3 hDR trivial
        have ry : R1 X.K H4 g.R (fun a => bad g σ ρ a ∨ a = Dd) y d := by
          have := ry
          rw [bE, bad_gd] at this
          exact this
        have rac4 : Rs X.K H4 g.R (fun a => bad g σ ρ a ∨ a = Dd) acc ds := Rs.mono (e4.rd badRd) (Rs.mono (e3.rd badRd) racc)
        have hal : acc.length < sizeLine := by
          rw [racc.length]
          exact Nat.lt_of_le_of_lt hds (Nat.lt_of_lt_of_le hn cl)
        have bD : bad (gd g Dd) σ ρ Dd := by rw [bad_gd]; exact .inr rfl
        have wo5 : Wo X.K T (gb (gd g Dd) σ ρ) (upd H4 Dd (.lst (acc ++ [y]))) z3 := wo4.up bD hDR hD4 trivial
        refine ⟨acc, hD4, hal, acc ++ [y], ds ++ [d], z3, by omega, upd_same, ((ex.trans e3).trans e4).upNew hD, wo5.less (fun a h => bad_le h) st1.badR, fun _ => wo5,
          Rs.mono (RdLe.up (.inr rfl)) (rac4.append ry), by rw [List.length_append]; simp only [List.length_cons, List.length_nil]; omega, ?_⟩
        refine h4.bind.imp fun ds' z4 _ q v H5 s5 e5 r5 => ?_
        exact q.pure v H5 s5 e5 (by simpa using r5)
    · have en : n = l.length := by omega
      refine .inl ⟨it.stop n H' rdl (by omega), ?_⟩
      rw [List.drop_of_length_le (by omega)] at hcomp
      have sF : StR (yx X T E) g H' σ ρ zi := st1.step ex wo
      refine hcomp.pure _ H' sF ex ?_
      rw [List.append_nil]
      exact .lst hHD (st1.fresh hD) (racc.less fun a h => .inl h) .nil
end
end DL
set_option Elab.async false
set_option linter.all false
set_option maxRecDepth 100000
set_option maxHeartbeats 1000000
/-! DL10: comprehensions and generator expressions by data. -/
namespace DL
open PySem PySem.Spec PyProof.Rows L2 GX GenW GxR

def eTupG (i : Nat) (xs : EnD → M (List D)) (t : EnD → M Bool) (f : EnD → M D) : EnD → M D := fun ρ => mbind (xs ρ) fun l =>
  if l.length ≤ sizeLine ∧ ownAt ρ i = false then mbind (compL i t f l ρ) fun ds => mpure (.tup ds) else mbad
def stopL (stp : Bool) (i : Nat) (t : EnD → M Bool) (f : EnD → M D) : List D → EnD → M Bool
  | [], _ => mpure (!stp)
  | x :: xs, ρ => mbind (mne (t ((ρ.set i none).set i (some (.val x))))) fun b =>
    if b then mbind (mne (f ((ρ.set i none).set i (some (.val x))))) fun d => mbind (mopt (asB d)) fun c => if c = stp then mpure stp else stopL stp i t f xs ρ
    else stopL stp i t f xs ρ
def eStopG (stp : Bool) (i : Nat) (xs : EnD → M (List D)) (t : EnD → M Bool) (f : EnD → M D) : EnD → M D := fun ρ => mbind (xs ρ) fun l =>
  if ownAt ρ i = false then mbind (stopL stp i t f l ρ) fun b => mpure (.bl b) else mbad
def eJoinG (sep : List Nat) (i : Nat) (xs : EnD → M (List D)) (t : EnD → M Bool) (f : EnD → M D) : EnD → M D := fun ρ => mbind (xs ρ) fun l =>
  if l.length ≤ sizeLine ∧ ownAt ρ i = false then mbind (compL i t f l ρ) fun ds => mopt ((strsD ds).bind fun zs => if JoinOk (ST sep) (zs.map ST) = true then some (.str (joinL sep zs)) else none) else mbad

section
variable {X : L2.Cx} {T : Tb} {E : XK} {fi : EnD → M (List D)} {t : EnD → M Bool} {f : EnD → M D} {elt iter tg : Expr} {ifs : List Expr} {scope : Scope} {pos gpos p apos : Pos} {x : Str} {i : Nat} {px : Pos} {k : Nat} {c P : Addr}
theorem ext_tab {K : PySem.W.Frag} {R : Addr} {H1 H2 : Hp} (h1 : TabG H1 P) (h : Tabbed P H1 H2) : Ext R H1 H2 := by
  obtain ⟨ps, h0, _⟩ := h1
  obtain ⟨⟨ps2, h2, h3⟩, h4⟩ := h
  refine ⟨fun a o q1 _ nt => ?_, fun a q => ?_, fun x xs q => ⟨xs, by rw [h4 _ (fun e => by rw [e, h0] at q; cases q)]; exact q⟩⟩
  · have : a ≠ P := fun e => by
      rw [e, h0] at q1
      exact nt.ne ps (Option.some.inj q1).symm
    rw [h4 a this]
    exact q1
  · by_cases e : a = P
    · rw [e, h2]; exact fun z => by cases z
    · rw [h4 a e]; exact q
theorem wo_tab {K : PySem.W.Frag} {g : G} {z : S} {H1 H2 : Hp} (w : Wo K T g H1 z) (hP : P ∈ T) (h1 : TabG H1 P) (h : Tabbed P H1 H2) : Wo K T g H2 z := by
  have ex : Ext g.R H1 H2 := ext_tab (K := K) h1 h
  obtain ⟨⟨SA, s1, s2, s3⟩, ht, hb, hd, hk, hl, hi, hz⟩ := w
  have nR : g.R ≠ P := fun e => by
    obtain ⟨ps, h0, _⟩ := h1
    rw [e, h0] at s3
    cases s3
  refine ⟨⟨SA, s1, ?_, by rw [h.2 _ nR]; exact s3⟩, fun P' hP => ?_, hb, fun a ha => ex.dom a (hd a ha), hk, tabs_keep hl (fun q hq ps e => by rw [h.2 _ (fun z => hi q hq (by rw [z]; exact hP))]; exact e) (fun c φ e => by
      obtain ⟨ps, h0, _⟩ := h1
      rw [h.2 _ (fun z => by rw [z, h0] at e; cases e)]; exact e), hi, fun a fs e => (hz a fs e).mono (ex.rd hb) fun C dx fv q => by
      obtain ⟨ps, h0, _⟩ := h1
      rw [h.2 _ (fun z => by rw [z, h0] at q; cases q)]; exact q⟩
  · exact (ex.rd hb).sqL s1 s2
  · by_cases e : P' = P
    · rw [e]; exact h.1
    · obtain ⟨ps, q, r⟩ := ht P' hP
      exact ⟨ps, by rw [h.2 _ e]; exact q, r⟩
theorem StR.tab {Y : Yx} {g : G} {H1 H2 : Hp} {σ : L2.St} {ρ : EnD} {z : S} (st : StR Y g H1 σ ρ z) (hP : P ∈ Y.T) (h1 : TabG H1 P) (h : Tabbed P H1 H2) : StR Y g H2 σ ρ z := st.step (ext_tab (K := Y.K) h1 h) (wo_tab st.wo hP h1 h)
theorem ItD.le {K : PySem.W.Frag} {R : Addr} {B : Addr → Prop} {H1 H2 : Hp} {J : It} {xs : List D} (h : ItD K R B H1 J xs) (r : RdLe B H1 H2) (hd : ∀ a, H2 a = none → H1 a = none) : ItD K R B H2 J xs where
  go := fun i H r2 hi => h.go i H (r.trans r2) hi
  yld := fun i H x H' r2 hi hy => by
    obtain ⟨e, d, h1, h2⟩ := h.yld i H x H' (r.trans r2) hi hy
    exact ⟨e, d, h1, h2.less fun a q => q.elim .inl fun q => .inr ⟨hd a q.1, q.2⟩⟩
  stop := fun i H r2 hi => h.stop i H (r.trans r2) hi

/-- one item -/
theorem item_st {g : G} {H1 H' : Hp} {σ : L2.St} {ρ : EnD} {z1 zi : S} {xv : V} {xd : D} (st1 : StR (yx X T E) g H1 σ ρ z1) (co : ownAt ρ i = false) (ex : Ext g.R H1 H') (wo : Wo X.K T (gb g σ ρ) H' zi) (rx : R1 X.K H' g.R (bad g σ ρ) xv xd) :
    StR (yx X T E0) g H' ((wipe σ [i]).set i (some xv)) ((ρ.set i none).set i (some (.val xd))) zi ∧ bad g ((wipe σ [i]).set i (some xv)) ((ρ.set i none).set i (some (.val xd))) = bad g σ ρ := by
  have s1 : StR (yx X T E) g H' σ ρ zi := st1.step ex wo
  have s2 := s1.setn (i := i) co
  have co2 : ownAt (ρ.set i none) i = false := by rw [ownAt_set co (y := none) trivial]; exact co
  refine ⟨(s2.setv co2 (by rw [bad_setn co]; exact rx)).chE, ?_⟩
  show bad g ((σ.set i none).set i (some xv)) ((ρ.set i none).set i (some (.val xd))) = bad g σ ρ
  rw [bad_setv co2, bad_setn co]

theorem lst_read {σ : L2.St} {H2 : Hp} {Q : VK} {J : It} {l : List D} {g : G} {ρ : EnD} {z1 : S} {Qe : List V → Hp → VK → Prop} (st2 : StR (yx X T E) g H2 σ ρ z1) (it : ItD X.K g.R (bad g σ ρ) H2 J l) (cl : l.length ≤ sizeLine) (co : ownAt ρ i = false)
    (a : After (yx X T E) g (compL i t f l ρ z1) fun ds z' => ∀ ys H', StR (yx X T E) g H' σ ρ z' → Ext g.R H2 H' → Rs X.K H' g.R (bad g σ ρ) ys ds → Qe ys H' Q) :
    bLst (gName i) (ttD (yx X T E0) t) (tD (yx X T E0) f) [i] Qe J σ H2 Q := by
  refine ⟨fun n m ys H' => ∃ ds zi, n + m = l.length ∧ Ext g.R H2 H' ∧ Wo X.K T (gb g σ ρ) H' zi ∧ Rs X.K H' g.R (bad g σ ρ) ys ds ∧ ds.length ≤ n ∧
      After (yx X T E) g (compL i t f (l.drop n) ρ zi) (fun ds' z'' => ∀ ys' H'', StR (yx X T E) g H'' σ ρ z'' → Ext g.R H2 H'' → Rs X.K H'' g.R (bad g σ ρ) ys' (ds ++ ds') → Qe ys' H'' Q),
    ⟨l.length, [], z1, Nat.zero_add _, .refl, st2.wo, .nil, Nat.zero_le _, by simpa using a⟩, ?_⟩
  rintro n m ys H' ⟨ds, zi, hm, ex, wo, rys, hds, hcomp⟩
  have rdl : RdLe (bad g σ ρ) H2 H' := ex.rd st2.badR
  by_cases hn : n < l.length
  · obtain ⟨xd, hxd⟩ : ∃ xd, l[n]? = some xd := ⟨_, List.getElem?_eq_getElem hn⟩
    have edrop : l.drop n = xd :: l.drop (n + 1) := by
      rw [List.drop_eq_getElem_cons hn]
      rw [List.getElem?_eq_getElem hn] at hxd
      cases hxd
      rfl
    rw [edrop] at hcomp
    unfold compL at hcomp
    refine .inr ⟨it.go n H' rdl hn, fun xv H'' hy => ?_⟩
    obtain ⟨rfl, d, hd, rx⟩ := it.yld n H' xv H'' rdl hn hy
    rw [hxd] at hd
    cases hd
    show wipe (((wipe σ [i]).set i (some xv))) [i] = wipe σ [i] ∧ _
    refine ⟨by simp [wipe], ?_⟩
    obtain ⟨s3, bE⟩ := item_st (i := i) st2 co ex wo (rx.less fun a h => .inl h)
    refine ⟨g, _, zi, s3, (After.ne hcomp.bind).imp fun b z2 _ h3 H3 st3 e3 => ?_⟩
    have wo3 : Wo X.K T (gb g σ ρ) H3 z2 := by
      have := st3.wo
      unfold gb at this
      rw [bE] at this
      exact this
    cases b with
    | false =>
      simp only [Bool.false_eq_true, if_false] at h3 ⊢
      exact ⟨m - 1, by omega, ds, z2, by omega, ex.trans e3, wo3, rys.mono (e3.rd st2.badR), by omega, h3⟩
    | true =>
      simp only [if_true] at h3 ⊢
      refine ⟨g, _, z2, st3, (After.ne h3.bind).imp fun d z3 _ h4 y H4 st4 e4 ry => ?_⟩
      have wo4 : Wo X.K T (gb g σ ρ) H4 z3 := by
        have := st4.wo
        unfold gb at this
        rw [bE] at this
        exact this
      have ry : R1 X.K H4 g.R (bad g σ ρ) y d := by
        have := ry
        rw [bE] at this
        exact this
      have rys4 : Rs X.K H4 g.R (bad g σ ρ) ys ds := Rs.mono (e4.rd st2.badR) (Rs.mono (e3.rd st2.badR) rys)
      refine ⟨by rw [rys.length]; exact Nat.lt_of_le_of_lt hds (Nat.lt_of_lt_of_le hn cl), m - 1, by omega, ds ++ [d], z3, by omega, (ex.trans e3).trans e4, wo4, rys4.append ry,
        by rw [List.length_append]; simp only [List.length_cons, List.length_nil]; omega, h4.bind.imp fun ds' z4 _ q ys' H5 s5 e5 r5 => q.pure ys' H5 s5 e5 (by simpa using r5)⟩
  · refine .inl ⟨it.stop n H' rdl (by omega), ?_⟩
    rw [List.drop_of_length_le (by omega)] at hcomp
    exact hcomp.pure _ H' (st2.step ex wo) ex (by simpa using rys)

theorem stop_read {stp : Bool} {σ : L2.St} {H2 : Hp} {J : It} {l : List D} {g : G} {ρ : EnD} {z1 : S} {Qs : Bool → Hp → Prop} (st2 : StR (yx X T E) g H2 σ ρ z1) (it : ItD X.K g.R (bad g σ ρ) H2 J l) (co : ownAt ρ i = false)
    (a : After (yx X T E) g (stopL stp i t f l ρ z1) fun b z' => ∀ H', StR (yx X T E) g H' σ ρ z' → Ext g.R H2 H' → Qs b H') :
    ∃ W, (∃ m, W 0 m H2) ∧ GT2 J (gName i) (ttD (yx X T E0) t) (tD (yx X T E0) f) [i] (wipe σ [i]) stp (Qs stp) (Qs (!stp)) W := by
  refine ⟨fun n m H' => ∃ zi, n + m = l.length ∧ Ext g.R H2 H' ∧ Wo X.K T (gb g σ ρ) H' zi ∧
      After (yx X T E) g (stopL stp i t f (l.drop n) ρ zi) (fun b z'' => ∀ H'', StR (yx X T E) g H'' σ ρ z'' → Ext g.R H2 H'' → Qs b H''),
    ⟨l.length, z1, Nat.zero_add _, .refl, st2.wo, by simpa using a⟩, ?_⟩
  rintro n m H' ⟨zi, hm, ex, wo, hcomp⟩
  have rdl : RdLe (bad g σ ρ) H2 H' := ex.rd st2.badR
  by_cases hn : n < l.length
  · obtain ⟨xd, hxd⟩ : ∃ xd, l[n]? = some xd := ⟨_, List.getElem?_eq_getElem hn⟩
    have edrop : l.drop n = xd :: l.drop (n + 1) := by
      rw [List.drop_eq_getElem_cons hn]
      rw [List.getElem?_eq_getElem hn] at hxd
      cases hxd
      rfl
    rw [edrop] at hcomp
    unfold stopL at hcomp
    refine .inr ⟨it.go n H' rdl hn, fun xv H'' hy => ?_⟩
    obtain ⟨rfl, d, hd, rx⟩ := it.yld n H' xv H'' rdl hn hy
    rw [hxd] at hd
    cases hd
    show wipe (((wipe σ [i]).set i (some xv))) [i] = wipe σ [i] ∧ _
    refine ⟨by simp [wipe], ?_⟩
    obtain ⟨s3, bE⟩ := item_st (i := i) st2 co ex wo (rx.less fun a h => .inl h)
    refine ⟨g, _, zi, s3, (After.ne hcomp.bind).imp fun b z2 _ h3 H3 st3 e3 => ?_⟩
    have wo3 : Wo X.K T (gb g σ ρ) H3 z2 := by
      have := st3.wo
      unfold gb at this
      rw [bE] at this
      exact this
    cases b with
    | false =>
      simp only [Bool.false_eq_true, if_false] at h3 ⊢
      exact ⟨m - 1, by omega, z2, by omega, ex.trans e3, wo3, h3⟩
    | true =>
      simp only [if_true] at h3 ⊢
      refine ⟨g, _, z2, st3, (After.ne h3.bind).imp fun d z3 _ h4 y H4 st4 e4 ry => ⟨by omega, ?_⟩⟩
      have wo4 : Wo X.K T (gb g σ ρ) H4 z3 := by
        have := st4.wo
        unfold gb at this
        rw [bE] at this
        exact this
      obtain ⟨cb, hc, h5⟩ := h4.bind.opt
      obtain rfl : d = .bl cb := by cases d <;> simp_all [asB]
      cases ry.bl
      have sF : StR (yx X T E) g H4 σ ρ z3 := st2.step ((ex.trans e3).trans e4) wo4
      refine ⟨cb, rfl, fun e => ?_, fun ne => ?_⟩
      · rw [if_pos e] at h5
        exact h5.pure H4 sF ((ex.trans e3).trans e4)
      · rw [if_neg ne] at h5
        exact ⟨m - 1, by omega, z3, by omega, (ex.trans e3).trans e4, wo4, h5⟩
  · refine .inl ⟨it.stop n H' rdl (by omega), ?_⟩
    rw [List.drop_of_length_le (by omega)] at hcomp
    exact hcomp.pure H' (st2.step ex wo) ex

/-! ### the rules -/
theorem pu_lc (hc : X.calm = true) (hN : X.N.Nodup) (hi : PI X tg iter (tiD (yx X T E) fi)) (ok : BlkOk X.N X.env.scope scope [(x, i)])
    (hg : ∀ (s : Shared) (H : Hp) (C : Addr) (cl : List (Str × Addr)) (fp : List Addr), PG (X.blk s H scope (compEnvC scope cl C X.env) fp) tg (gName i)) (ht : ∀ (s : Shared) (H : Hp) (C : Addr) (cl : List (Str × Addr)) (fp : List Addr), PTs (X.blk s H scope (compEnvC scope cl C X.env) fp) ifs (ttD (yx X T E0) t))
    (he : ∀ (s : Shared) (H : Hp) (C : Addr) (cl : List (Str × Addr)) (fp : List Addr), PE (X.blk s H scope (compEnvC scope cl C X.env) fp) elt (tD (yx X T E0) f)) (hs : ∀ x, foldedSetIterable iter X.env x = pure x := by intro _; rfl) :
    PE X (.ListComp elt [⟨tg, iter, ifs, 0⟩] scope pos) (tD (yx X T E) (eLc i fi t f)) :=
  PE_imp (pe_lc (own := [(x, i)]) hc hN hi ok hg (fun s H C cl fp => PTs_kn (ht s H C cl fp)) (fun s H C cl fp => PE_kn (he s H C cl fp)) hs) fun σ H Q h => lc_read h
theorem pu_tupG (hr : Room (k + 1) X.A) (hc : X.calm = true) (hgl : Gl X "tuple") (hm : X.mg "tuple" = none) (hb : bootBuiltins "tuple" = some (.type "tuple")) (TB : TabB X.base X.mg c P) (hP : P ∈ T) (hcode : X.env.code = .ref c)
    (ok : GOk X.N X.env.scope scope [(x, i)]) (hN : X.N.Nodup) (hi : PI X tg iter (tiD (yx X T E) fi))
    (hg : ∀ s H C code A' fp, PG (gcx X s H (GCtx X scope C code) A' fp) tg (gName i))
    (ht : ∀ s H C code A' fp, Room k A' → PTs (gcx X s H (GCtx X scope C code) A' fp) ifs (ttD (yx X T E0) t))
    (he : ∀ s H C code A' fp, Room k A' → PE (gcx X s H (GCtx X scope C code) A' fp) elt (tD (yx X T E0) f))
    (hs : ∀ v, genFold iter X.env v = pure v := by intro _; rfl)
    (hst : starEach [.GeneratorExp elt [⟨tg, iter, ifs, 0⟩] scope gpos] X.env = (false, eval (.GeneratorExp elt [⟨tg, iter, ifs, 0⟩] scope gpos) X.env) :: starEach [] X.env := by rfl) :
    PE X (.Call (.Name "tuple" p) [.GeneratorExp elt [⟨tg, iter, ifs, 0⟩] scope gpos] [] pos) (tD (yx X T E) (eTupG i fi t f)) :=
  PE_imp (pe_tupGF (own := [(x, i)]) hr hc hgl hm hb TB hcode ok hN hi hg ht he hs hst) fun σ H Q h => by
    obtain ⟨g, ρ, z, st, a⟩ := h
    refine ⟨g, ρ, z, st, a.bind.imp fun l z1 _ h1 J H1 st1 e1 it => ?_⟩
    have cc : l.length ≤ sizeLine ∧ ownAt ρ i = false := by
      refine Decidable.byContradiction fun cc => ?_
      rw [if_neg cc] at h1
      exact h1
    rw [if_pos cc] at h1
    have hT := st1.wo.tabs P hP
    refine ⟨hT, fun H2 h2 => ?_⟩
    have ex2 : Ext g.R H1 H2 := ext_tab (K := X.K) hT h2
    refine lst_read (st1.tab hP hT h2) (it.le (ex2.rd st1.badR) fun a q => ?_) cc.1 cc.2 (h1.bind.imp fun ds z2 _ q ys H3 s3 e3 r3 p ob hp hd => q.pure _ _ (s3.new hp) (e1.trans (ex2.trans (e3.trans (.new hp)))) (s3.tup hp hd r3))
    cases e : H1 a with
    | none => rfl
    | some o => exact absurd q (ex2.dom a (by rw [e]; exact fun z => by cases z))
theorem pu_stopG_aux {stp : Bool} {σ : L2.St} {H : Hp} {Q : VK} {tg' : G} (hP : P ∈ T) (h : tD (yx X T E) (eStopG stp i fi t f) σ H Q) :
    tGx P (tiD (yx X T E) fi) (fun J σ H Q => ∃ W, (∃ m, W 0 m H) ∧ GT2 J (gName i) (ttD (yx X T E0) t) (tD (yx X T E0) f) [i] (wipe σ [i]) stp (Q (.bl stp)) (Q (.bl (!stp))) W) σ H Q := by
  obtain ⟨g, ρ, z, st, a⟩ := h
  refine ⟨g, ρ, z, st, a.bind.imp fun l z1 _ h1 J H1 st1 e1 it => ?_⟩
  have cc : ownAt ρ i = false := by
    refine Decidable.byContradiction fun cc => ?_
    rw [if_neg cc] at h1
    exact h1
  rw [if_pos cc] at h1
  have hT := st1.wo.tabs P hP
  refine ⟨hT, fun H2 h2 => ?_⟩
  have ex2 : Ext g.R H1 H2 := ext_tab (K := X.K) hT h2
  refine stop_read (Qs := fun b => Q (.bl b)) (st1.tab hP hT h2) (it.le (ex2.rd st1.badR) fun a q => ?_) cc (h1.bind.imp fun b z2 _ q H3 s3 e3 => q.pure _ _ s3 (e1.trans (ex2.trans e3)) (.atom .bl .nil))
  cases e : H1 a with
  | none => rfl
  | some o => exact absurd q (ex2.dom a (by rw [e]; exact fun z => by cases z))
theorem pu_all (hr : Room (k + 1) X.A) (hc : X.calm = true) (hgl : Gl X "all") (hm : X.mg "all" = none) (hb : bootBuiltins "all" = some (.builtin "all")) (TB : TabB X.base X.mg c P) (hP : P ∈ T) (hcode : X.env.code = .ref c)
    (ok : GOk X.N X.env.scope scope [(x, i)]) (hN : X.N.Nodup) (hi : PI X tg iter (tiD (yx X T E) fi))
    (hg : ∀ s H C code A' fp, PG (gcx X s H (GCtx X scope C code) A' fp) tg (gName i))
    (ht : ∀ s H C code A' fp, Room k A' → PTs (gcx X s H (GCtx X scope C code) A' fp) ifs (ttD (yx X T E0) t))
    (he : ∀ s H C code A' fp, Room k A' → PE (gcx X s H (GCtx X scope C code) A' fp) elt (tD (yx X T E0) f))
    (hs : ∀ v, genFold iter X.env v = pure v := by intro _; rfl)
    (hst : starEach [.GeneratorExp elt [⟨tg, iter, ifs, 0⟩] scope gpos] X.env = (false, eval (.GeneratorExp elt [⟨tg, iter, ifs, 0⟩] scope gpos) X.env) :: starEach [] X.env := by rfl) :
    PE X (.Call (.Name "all" p) [.GeneratorExp elt [⟨tg, iter, ifs, 0⟩] scope gpos] [] pos) (tD (yx X T E) (eStopG false i fi t f)) :=
  PE_imp (pe_all (own := [(x, i)]) hr hc hgl hm hb TB hcode ok hN hi hg ht he hs hst) fun σ H Q h => pu_stopG_aux (tg' := ⟨0, fun _ => False, fun _ => none⟩) hP h
theorem pu_any (hr : Room (k + 1) X.A) (hc : X.calm = true) (hgl : Gl X "any") (hm : X.mg "any" = none) (TB : TabB X.base X.mg c P) (hP : P ∈ T) (hcode : X.env.code = .ref c)
    (ok : GOk X.N X.env.scope scope [(x, i)]) (hN : X.N.Nodup) (hi : PI X tg iter (tiD (yx X T E) fi))
    (hg : ∀ s H C code A' fp, PG (gcx X s H (GCtx X scope C code) A' fp) tg (gName i))
    (ht : ∀ s H C code A' fp, Room k A' → PTs (gcx X s H (GCtx X scope C code) A' fp) ifs (ttD (yx X T E0) t))
    (he : ∀ s H C code A' fp, Room k A' → PE (gcx X s H (GCtx X scope C code) A' fp) elt (tD (yx X T E0) f))
    (hs : ∀ v, genFold iter X.env v = pure v := by intro _; rfl)
    (hst : starEach [.GeneratorExp elt [⟨tg, iter, ifs, 0⟩] scope gpos] X.env = (false, eval (.GeneratorExp elt [⟨tg, iter, ifs, 0⟩] scope gpos) X.env) :: starEach [] X.env := by rfl) :
    PE X (.Call (.Name "any" p) [.GeneratorExp elt [⟨tg, iter, ifs, 0⟩] scope gpos] [] pos) (tD (yx X T E) (eStopG true i fi t f)) :=
  PE_imp (pe_any (own := [(x, i)]) hr hc hgl hm TB hcode ok hN hi hg ht he hs hst) fun σ H Q h => pu_stopG_aux (tg' := ⟨0, fun _ => False, fun _ => none⟩) hP h
end
end DL
set_option Elab.async false
set_option linter.all false
set_option maxRecDepth 100000
set_option maxHeartbeats 1000000
/-! DL11: statements, defs. -/
namespace DL
open PySem PySem.Spec PyProof.Rows L2

inductive Out where
  | nx (ρ : EnD) (z : S) | rt (d : D) (z : S) | bk (ρ : EnD) (z : S) | ct (ρ : EnD) (z : S) | exc (x : Exn) (z : S) | bad
abbrev SM := EnD → S → Out
def obind {α : Type} (r : Res α) (k : α → S → Out) : Out := match r with
  | .ok a z => k a z
  | .exc x z => .exc x z
  | .bad => .bad
def sNil : SM := fun ρ z => .nx ρ z
def sSeq (a b : SM) : SM := fun ρ z => match a ρ z with
  | .nx ρ' z' => b ρ' z'
  | o => o
def sSet (i : Nat) (f : EnD → M D) : SM := fun ρ z => obind (f ρ z) fun d z' => if ownAt ρ i then .bad else .nx (ρ.set i (some (.val d))) z'
def sIf (t : EnD → M Bool) (a b : SM) : SM := fun ρ z => obind (t ρ z) fun c z' => if c then a ρ z' else b ρ z'
def sRet (f : EnD → M D) : SM := fun ρ z => obind (f ρ z) fun d z' => .rt d z'
def sRetN : SM := fun ρ z => .rt .non z
def sEx (f : EnD → M D) : SM := fun ρ z => obind (f ρ z) fun _ z' => .nx ρ z'
def sBad : SM := fun _ _ => .bad
def forD (i : Nat) (body : SM) : List D → SM
  | [], ρ, z => .nx ρ z
  | x :: xs, ρ, z => if ownAt ρ i then .bad else match body (ρ.set i (some (.val x))) z with
    | .nx ρ' z' => forD i body xs ρ' z'
    | .ct ρ' z' => forD i body xs ρ' z'
    | .bk ρ' z' => .nx ρ' z'
    | o => o
def sFor (i : Nat) (xs : EnD → M (List D)) (body : SM) : SM := fun ρ z => obind (xs ρ z) fun l z' => forD i body l ρ z'
/-- the def's slots at its entry -/
def rho0 (n : Nat) (ds : List D) : EnD := ds.map (fun d => some (.val d)) ++ List.replicate (n - ds.length) none
/-- a def's run -/
def runD (n : Nat) (b : SM) : List D → M D := fun ds z => match b (rho0 n ds) z with
  | .nx _ z' => .ok .non z'
  | .rt d z' => .ok d z'
  | .exc x z' => .exc x z'
  | _ => .bad

/-- what a statement may change -/
structure Stp (R : Addr) (σ : L2.St) (ρ : EnD) (H : Hp) (σ' : L2.St) (ρ' : EnD) (H' : Hp) : Prop where
  keep : ∀ a o, H a = some o → a ≠ R → ¬ Own σ ρ a → Stay o → H' a = some o
  dom : ∀ a, H a ≠ none → H' a ≠ none
  own : ∀ a, Own σ' ρ' a → Own σ ρ a ∨ H a = none
section
variable {R : Addr} {σ σ1 σ2 : L2.St} {ρ ρ1 ρ2 : EnD} {H H1 H2 : Hp}
theorem Stp.trans (a : Stp R σ ρ H σ1 ρ1 H1) (b : Stp R σ1 ρ1 H1 σ2 ρ2 H2) : Stp R σ ρ H σ2 ρ2 H2 where
  keep := fun c o h1 h2 h3 h4 => b.keep c o (a.keep c o h1 h2 h3 h4) h2 (fun q => (a.own c q).elim h3 fun z => by rw [h1] at z; cases z) h4
  dom := fun c h => b.dom c (a.dom c h)
  own := fun c q => (b.own c q).elim (a.own c) fun z => by
    cases e : H c with
    | none => exact .inr rfl
    | some o => exact absurd z (a.dom c (by rw [e]; exact fun z => by cases z))
theorem Stp.ext (e : Ext R H H1) : Stp R σ ρ H σ ρ H1 := ⟨fun a o h1 h2 _ h4 => e.keep a o h1 h2 h4, e.dom, fun _ q => .inl q⟩
theorem Stp.refl : Stp R σ ρ H σ ρ H := .ext .refl
theorem Stp.setv {i : Nat} {v : Option V} {y : Option Sl} (h : ownAt ρ i = false) (hy : notOwn y) : Stp R σ ρ H (σ.set i v) (ρ.set i y) H :=
  ⟨fun _ _ h _ _ _ => h, fun _ h => h, fun a q => .inl (by rw [own_set h v y hy] at q; exact q)⟩
end
/-- the ends of a statement -/
def OutOk (Y : Yx) (g : G) (σ : L2.St) (ρ : EnD) (H : Hp) (o : Out) (Dn : Ends) : Prop := match o with
  | .nx ρ' z' => ∀ σ' H', StR Y g H' σ' ρ' z' → Stp g.R σ ρ H σ' ρ' H' → Dn.nx σ' H'
  | .rt d z' => ∀ v H', Wo Y.K Y.T g H' z' → Ext g.R g.H0 H' → R1 Y.K H' g.R g.B v d → Dn.rt v H'
  | .bk ρ' z' => ∀ σ' H', StR Y g H' σ' ρ' z' → Stp g.R σ ρ H σ' ρ' H' → Dn.bk σ' H'
  | .ct ρ' z' => ∀ σ' H', StR Y g H' σ' ρ' z' → Stp g.R σ ρ H σ' ρ' H' → Dn.ct σ' H'
  | .exc x z' => XOk Y g x z'
  | .bad => False
def sD (Y : Yx) (F : SM) : TS := fun Dn σ H => ∃ g ρ z, StR Y g H σ ρ z ∧ OutOk Y g σ ρ H (F ρ z) Dn
section
variable {Y : Yx} {g : G} {σ σ1 : L2.St} {ρ ρ1 : EnD} {H H1 : Hp} {o : Out} {Dn : Ends} {z : S}
theorem OutOk.rebase (h : OutOk Y g σ ρ H o Dn) (s : Stp g.R σ ρ H σ1 ρ1 H1) : OutOk Y g σ1 ρ1 H1 o Dn := by
  cases o with
  | nx ρ' z' => exact fun σ' H' st s2 => h σ' H' st (s.trans s2)
  | bk ρ' z' => exact fun σ' H' st s2 => h σ' H' st (s.trans s2)
  | ct ρ' z' => exact fun σ' H' st s2 => h σ' H' st (s.trans s2)
  | rt d z' => exact h
  | exc x z' => exact h
  | bad => exact h
theorem OutOk.bind {α : Type} {r : Res α} {k : α → S → Out} (h : OutOk Y g σ ρ H (obind r k) Dn) : After Y g r fun a z' => OutOk Y g σ ρ H (k a z') Dn := by
  cases r with
  | ok a z' => exact h
  | exc x z' => exact h
  | bad => exact h
end
section
variable {X : L2.Cx} {T : Tb} {E : XK} {st : Stmt} {rest : List Stmt} {A B : SM} {f : EnD → M D} {t : EnD → M Bool} {fi : EnD → M (List D)} {e tg iter c : Expr} {pos pos' : Pos} {i : Nat} {x : Str}
theorem pu_snil : PSs X [] (sD (yx X T E) sNil) := PSs_imp pss_nil fun D σ H h => by
  obtain ⟨g, ρ, z, st, o⟩ := h
  exact o σ H st .refl
theorem pu_seq (h1 : PS X st (sD (yx X T E) A)) (h2 : PSs X rest (sD (yx X T E) B)) : PSs X (st :: rest) (sD (yx X T E) (sSeq A B)) := PSs_imp (pss_cons h1 h2) fun D σ H h => by
  obtain ⟨g, ρ, z, st, o⟩ := h
  refine ⟨g, ρ, z, st, ?_⟩
  unfold sSeq at o
  cases e : A ρ z with
  | nx ρ' z' =>
    rw [e] at o
    exact fun σ' H' st' s => ⟨g, ρ', z', st', o.rebase s⟩
  | rt d z' => rw [e] at o; exact o
  | bk ρ' z' => rw [e] at o; exact o
  | ct ρ' z' => rw [e] at o; exact o
  | exc x z' => rw [e] at o; exact o
  | bad => rw [e] at o; exact o
theorem pu_last (h1 : PS X st (sD (yx X T E) A)) : PSs X [st] (sD (yx X T E) A) := pss_one h1
theorem pu_set (hN : X.N.Nodup) (hi : X.N[i]? = some x) (hx : Loc X.env.scope x) (he : PE X e (tD (yx X T E) f)) (hs : swapsWith e (some (.Name x pos')) pos.line X.env = pure false := by rfl) (hf : X.fn x = true ∨ X.env.scope.names.lookup x = some .local := by first | exact .inl rfl | exact .inr rfl) :
    PS X (.Assign [.Name x pos'] e pos) (sD (yx X T E) (sSet i f)) := PS_imp (ps_set hN hi hx he hs hf) fun D σ H h => by
  obtain ⟨g, ρ, z, st, o⟩ := h
  refine ⟨g, ρ, z, st, o.bind.imp fun d z1 _ h1 v H1 st1 e1 r1 => ?_⟩
  cases co : ownAt ρ i with
  | true => rw [co] at h1; exact h1.elim
  | false =>
    rw [co] at h1
    exact h1 _ H1 (st1.setv co r1) ((Stp.ext e1).trans (.setv co trivial))
theorem pu_ifS {a b : List Stmt} (ht : PT X c (ttD (yx X T E) t)) (ha : PSs X a (sD (yx X T E) A)) (hb : PSs X b (sD (yx X T E) B)) : PS X (.If c a b pos) (sD (yx X T E) (sIf t A B)) := PS_imp (ps_if ht ha hb) fun D σ H h => by
  obtain ⟨g, ρ, z, st, o⟩ := h
  refine ⟨g, ρ, z, st, o.bind.imp fun k z1 _ h1 H1 st1 e1 => ?_⟩
  cases k with
  | true => exact ⟨g, ρ, z1, st1, OutOk.rebase h1 (.ext e1)⟩
  | false => exact ⟨g, ρ, z1, st1, OutOk.rebase h1 (.ext e1)⟩
theorem pu_ret (he : PE X e (tD (yx X T E) f)) : PS X (.Return (some e) pos) (sD (yx X T E) (sRet f)) := PS_imp (ps_ret he) fun D σ H h => by
  obtain ⟨g, ρ, z, st, o⟩ := h
  exact ⟨g, ρ, z, st, o.bind.imp fun d z1 _ h1 v H1 st1 e1 r1 => h1 v H1 st1.wog st1.ext (r1.less fun a q => .inl q)⟩
theorem pu_retN : PS X (.Return none pos) (sD (yx X T E) sRetN) := PS_imp ps_retN fun D σ H h => by
  obtain ⟨g, ρ, z, st, o⟩ := h
  exact o .non H st.wog st.ext (.atom .non .nil)
theorem pu_expr (he : PE X e (tD (yx X T E) f)) (hs : swapsWith e none pos.line X.env = pure false := by rfl) : PS X (.Expr e pos) (sD (yx X T E) (sEx f)) := PS_imp (ps_expr he hs) fun D σ H h => by
  obtain ⟨g, ρ, z, st, o⟩ := h
  exact ⟨g, ρ, z, st, o.bind.imp fun d z1 _ h1 v H1 st1 e1 r1 => h1 σ H1 st1 (.ext e1)⟩
theorem pu_pass : PS X (.Pass pos) (sD (yx X T E) sNil) := PS_imp ps_pass fun D σ H h => by
  obtain ⟨g, ρ, z, st, o⟩ := h
  exact o σ H st .refl
theorem pu_bad : PS X st (sD (yx X T E) sBad) := PS_imp ps_never fun D σ H h => by
  obtain ⟨g, ρ, z, st, o⟩ := h
  exact o
theorem pu_for {body : List Stmt} (hp : PassesOwn (model X.prog X.w) X.A X.env X.xe) (hc : X.calm = true) (hi : PI X tg iter (tiD (yx X T E) fi)) (hg : PG X tg (gName i)) (hb : PSs X body (sD (yx X T E) B)) (hs : ∀ x, foldedSetIterable iter X.env x = pure x := by intro _; rfl) :
    PS X (.For tg iter body [] pos) (sD (yx X T E) (sFor i fi B)) := PS_imp (ps_for hp hc hi hg hb hs) fun D σ H h => by
  obtain ⟨g, ρ, z, st, o⟩ := h
  refine ⟨g, ρ, z, st, o.bind.imp fun l z1 _ h1 J H1 st1 e1 it => ?_⟩
  refine ⟨fun n m σ' H' => ∃ ρ' z', n + m = l.length ∧ StR (yx X T E) g H' σ' ρ' z' ∧ Stp g.R σ ρ H1 σ' ρ' H' ∧ OutOk (yx X T E) g σ' ρ' H' (forD i B (l.drop n) ρ' z') D,
    ⟨l.length, ρ, z1, Nat.zero_add _, st1, .refl, by rw [List.drop_zero]; exact OutOk.rebase h1 (.ext e1)⟩, ?_⟩
  rintro n m σ' H' ⟨ρ', z', hm, st', sp, o'⟩
  have rdl : RdLe (bad g σ ρ) H1 H' := by
    have ne : ∀ a, ¬ bad g σ ρ a → a ≠ g.R ∧ ¬ Own σ ρ a := fun a n => ⟨fun e => n (by rw [e]; exact st1.badR), fun q => n (.inr q)⟩
    refine ⟨fun a u n du r => ?_, fun a ob us n q => sp.keep a _ q (ne a n).1 (ne a n).2 trivial, fun a us n q => sp.keep a _ q (ne a n).1 (ne a n).2 trivial⟩
    rcases r with r | ⟨ob, r⟩
    · exact .inl (sp.keep a _ r (ne a n).1 (ne a n).2 (data_stay du))
    · exact .inr ⟨ob, sp.keep a _ r (ne a n).1 (ne a n).2 trivial⟩
  by_cases hn : n < l.length
  · obtain ⟨xd, hxd⟩ : ∃ xd, l[n]? = some xd := ⟨_, List.getElem?_eq_getElem hn⟩
    have edrop : l.drop n = xd :: l.drop (n + 1) := by
      rw [List.drop_eq_getElem_cons hn]
      rw [List.getElem?_eq_getElem hn] at hxd
      cases hxd
      rfl
    rw [edrop] at o'
    unfold forD at o'
    cases co : ownAt ρ' i with
    | true => rw [co] at o'; exact o'.elim
    | false =>
      rw [co] at o'
      simp only [Bool.false_eq_true, if_false] at o'
      refine .inr ⟨it.go n H' rdl hn, _, fun σ'' H'' hW => ⟨m - 1, by omega, hW⟩, fun xv H'' hy => ?_⟩
      obtain ⟨rfl, d, hd, rx⟩ := it.yld n H' xv H'' rdl hn hy
      rw [hxd] at hd
      cases hd
      have sub : ∀ a, bad g σ' ρ' a → plus X.K H1 (bad g σ ρ) a := fun a q => by
        have hk := st'.badK q
        rcases q with q | q
        · exact .inl (.inl q)
        · rcases sp.own a q with q | q
          · exact .inl (.inr q)
          · exact .inr ⟨q, hk⟩
      have s2 := st'.setv co (rx.less sub)
      have sp2 : Stp g.R σ' ρ' H'' (σ'.set i (some xv)) (ρ'.set i (some (.val xd))) H'' := .setv co trivial
      refine ⟨g, ρ'.set i (some (.val xd)), z', s2, ?_⟩
      cases e : B (ρ'.set i (some (.val xd))) z' with
      | nx ρ3 z3 =>
        rw [e] at o'
        exact fun σ3 H3 st3 s3 => ⟨ρ3, z3, by omega, st3, sp.trans (sp2.trans s3), OutOk.rebase o' (sp2.trans s3)⟩
      | ct ρ3 z3 =>
        rw [e] at o'
        exact fun σ3 H3 st3 s3 => ⟨ρ3, z3, by omega, st3, sp.trans (sp2.trans s3), OutOk.rebase o' (sp2.trans s3)⟩
      | bk ρ3 z3 =>
        rw [e] at o'
        exact fun σ3 H3 st3 s3 => o' σ3 H3 st3 (sp2.trans s3)
      | rt d z3 => rw [e] at o'; exact o'
      | exc x z3 => rw [e] at o'; exact o'
      | bad => rw [e] at o'; exact o'
  · refine .inl ⟨it.stop n H' rdl (by omega), ?_⟩
    rw [List.drop_of_length_le (by omega)] at o'
    exact o' σ' H' st' .refl
end

/-! ### a def -/
theorem st_start {K : PySem.W.Frag} {T : Tb} {mg : Str → Option Value} {E : XK} {N : List Str} {g : G} {H : Hp} {vs : List V} {ds : List D} {z : S} (h0 : g.H0 = H) (w : Wo K T g H z) (r : Rs K H g.R g.B vs ds) : StR ⟨K, T, mg, E⟩ g H (start N vs) (rho0 N.length ds) z := by
  have noOwn : ∀ (i : Nat) (d : D), (rho0 N.length ds)[i]? ≠ some (some (.own d)) := fun i d e => by
    unfold rho0 at e
    by_cases hi : i < ds.length
    · rw [List.getElem?_append_left (by simpa using hi), List.getElem?_map] at e
      rw [List.getElem?_eq_getElem hi] at e
      cases e
    · rw [List.getElem?_append_right (by simpa using hi), List.getElem?_replicate] at e
      split at e <;> cases e
  have be : bad g (start N vs) (rho0 N.length ds) = g.B := by
    funext a
    apply propext
    exact ⟨fun q => q.elim (fun q => q) fun ⟨i, d, h1, _⟩ => absurd h1 (noOwn i d), fun q => .inl q⟩
  refine ⟨by unfold gb; rw [be]; exact w.less (fun _ q => q) w.bad, w.bad, ?_, fun i d h => ?_, fun i d h => absurd h (noOwn i d), fun i j d e a h => absurd h (noOwn i d), by rw [h0]; exact .refl⟩
  · unfold L2.start rho0
    simp only [List.length_append, List.length_map, List.length_replicate, r.length]
  · rw [be]
    unfold rho0 at h
    by_cases hi : i < ds.length
    · rw [List.getElem?_append_left (by simpa using hi), List.getElem?_map] at h
      rw [List.getElem?_eq_getElem hi] at h
      cases h
      obtain ⟨v, h1, h2⟩ := r.get (List.getElem?_eq_getElem hi)
      refine ⟨v, ?_, h2⟩
      unfold L2.start
      rw [List.getElem?_append_left (by rw [List.length_map, r.length]; exact hi), List.getElem?_map, h1] <;> rfl
    · rw [List.getElem?_append_right (by simpa using hi), List.getElem?_replicate] at h
      split at h <;> cases h
/-- the reading of a def's body -/
theorem run_read {K : PySem.W.Frag} {T : Tb} {mg : Str → Option Value} {E : XK} {N : List Str} {n : Nat} {H : Hp} {vs : List V} {Q : VK} {B : SM} (h : spD K T mg n (runD N.length B) vs H Q E) :
    sD ⟨K, T, mg, E⟩ B { nx := fun _ H' => Q .non H', rt := Q } (start N vs) H := by
  obtain ⟨hn, g, ds, z, h0, w, r, a⟩ := h
  refine ⟨g, rho0 N.length ds, z, st_start h0 w r, ?_⟩
  unfold runD at a
  cases e : B (rho0 N.length ds) z with
  | nx ρ' z' =>
    rw [e] at a
    exact fun σ' H' st s => a .non H' st.wog (by rw [← h0]; exact st.ext) (.atom .non .nil)
  | rt d z' =>
    rw [e] at a
    exact fun v H' w' ex r' => a v H' w' (by rw [← h0]; exact ex) r'
  | bk ρ' z' => rw [e] at a; exact a.elim
  | ct ρ' z' => rw [e] at a; exact a.elim
  | exc x z' => rw [e] at a; exact a
  | bad => rw [e] at a; exact a.elim
end DL
set_option Elab.async false
set_option linter.all false
set_option maxRecDepth 100000
set_option maxHeartbeats 1000000
/-! DL12: the rule for a def; the end of a law. -/
namespace DL
open PySem PySem.Spec PyProof.Rows L2 GxR

theorem pvD {X : Cx} {T : Tb} {E : XK} (i : Nat) {x : Str} {pos : Pos} (hN : X.N[i]? = some x := by rfl) (hv : Vis X.env.scope x := by first | exact Or.inl rfl | exact Or.inr (Or.inl rfl) | exact Or.inr (Or.inr rfl)) (hd : (x == ("__debug__" : Str)) = false := by decide)
    (hcd : (x == ("__classdict__" : Str)) = false := by decide) : PE X (.Name x pos) (tD (yx X T E) (eV i)) := pu_v hN hv hd hcd

section
variable {P : Program} {w : World} {K : PySem.W.Frag} {mg : Str → Option Value} {base : Heap} {T : Tb}
/-- a def by its body -/
theorem okD {x qual : Str} {st : Stmt} {f : Addr} {fd : FuncData} {N ps : List Str} {k : Nat} {B : SM} (F : Fun K x qual st f fd) (S : FnScope N ps (defScope st))
    (der : ∀ (cdv : Value) (A : Around) (outer : List Env) (s : Shared) (H : Hp) (E : XK), Room k (A.deeper (envOfC qual (defScope st) s.heap.objs.size f cdv)) → fd.code = cdv →
      PSs (cxOf CX0 P w K mg base N qual (defScope st) f cdv A outer s H E).nox (defBody st) (sD ⟨K, T, mg, E⟩ B)) :
    FnOk P w K mg base CX0 (k + 1) f fd ps (spD K T mg ps.length (runD N.length B)) := by
  obtain ⟨oc, od, kV, doc, pm, an, cdv, ct, osl, rfl, lk, hcd⟩ := F.ex
  refine fn_of lk hcd S (fun vs H Q E h => h.1) fun A outer s H vs Q E hr hsp => ?_
  exact ⟨_, (der cdv A outer s H E hr rfl).nox, run_read hsp⟩

theorem tabIn_of {y : Str} {f c P : Addr} {o1 : Value} {o2 : Option Addr} {fd : FuncData} {o4 : Array (Option Value)} {q1 : Value} {q2 : Option Addr} {vs : Array Value} {q4 : Array (Option Value)} (a : PySem.W.nsIn K mainGlobals y = some (some (.ref f))) (l : K.lookup f = some ⟨o1, o2, .func fd, o4⟩)
    (hc : fd.code = .ref c) (lc : K.lookup c = some ⟨q1, q2, .fields vs, q4⟩) (hv : vs[11]? = some (.ref P)) : PySem.W.tabIn K y = some (c, P) := by
  unfold PySem.W.tabIn
  rw [a]
  simp only [l, hc, lc, hv]
end

/-- a module's tuple, as it is written -/
theorem wr_atom {K : PySem.W.Frag} {v : V} {d : D} (h : ∀ R, Atom R v d) : WR K v d := fun H R B _ => .atom (h R) .nil
inductive WRs (K : PySem.W.Frag) : List V → List D → Prop
  | nil : WRs K [] []
  | cons {v : V} {d : D} {vs : List V} {ds : List D} : WR K v d → WRs K vs ds → WRs K (v :: vs) (d :: ds)
theorem WRs.rs {K : PySem.W.Frag} {H : Hp} {R : Addr} {B : Addr → Prop} (hB : ∀ a, B a → K.lookup a = none) {vs : List V} {ds : List D} (h : WRs K vs ds) : Rs K H R B vs ds := by
  induction h with
  | nil => exact .nil
  | cons a _ ih => exact Rs.cons (a H R B hB) ih
theorem wr_tup {K : PySem.W.Frag} {a : Addr} {its : Array Value} {n : Nat} {sl : Array (Option Value)} {us : List V} {ds : List D} (l : K.lookup a = some ⟨.type "tuple", none, .seq its n, sl⟩) (hz : its.size ≤ sizeLine) (hv : Vals us its.toList) (h : WRs K us ds) : WR K (.ref a) (.tup ds) :=
  fun H R B hB => .tup (.inr ⟨_, its, n, l, rfl, rfl, rfl, hz, hv⟩) (fun q => by rw [hB a q] at l; cases l) (h.rs hB) .nil

/-! ### the end -/
/-- walk_ofTs, where the tables of the top's defs are told -/
theorem walk_D {l : PySem.W.OpenLaw} {n k : Nat} {q : Program} {loose : List Str} {XP : (Str → Option Value) → Heap → Prop} {YP : World → Heap → Prop} {d : DefRec} {K : Params → PySem.W.Frag} {CX : World → CXT} {x : Str}
    (hn : l.most = some n) (hn2 : n ≤ sizeLine) (hdf : d.params.defaults = []) (hr : Room k callerA) (hY : ∀ (w : World) (h : Heap), YP w h → (K w.params).In h)
    (F : ∀ (w : World) (mg : Str → Option Value) (fa : Addr) (h : Heap), YP w h → (K w.params).In h → h.Ns mainGlobals mg → mg d.name = some (.ref fa) →
      (∀ (y : Str) (e : DefRec) (c P : Addr), (recsOf q).find? (fun e => e.name == y) = some e → PySem.W.tabIn (K w.params) y = some (c, P) → PySem.W.CodeHd h c P ∧ h.get? P = some { cls := .none, data := .fields #[] }) → LamX.LawAtS l w (K w.params) (CX w) k n x mg fa h)
    (hCX : ∀ (w : World) (H : Hp) (s : Shared) (e : Value) (s' : Shared), CX w [] H s (fun _ _ _ => False) e s' → False) :
    PySem.W.WalkO q loose XP YP l.row.toRowW d [] (fun f vs => PySem.call f vs) := by
  refine Att.attach_callB hn hdf fun w s₀ s₁ mg mb fa o pm cd doc a vs ns G Y ho hd hcd hmg hobj hints hlen hbits hg => ?_
  have KX := hY w _ Y
  obtain ⟨fd, cs, sp, hT, nT, C, hb, hsp, hF⟩ := F w mg fa _ Y KX G.T.g hmg fun y e c P h1 h2 => PySem.W.tab_of G.T KX h1 h2
  exact LamX.law_callTs KX G.T.g G.T.b G.T.builtins G.T.nolimit hg hT nT C G.T.bmain hobj hints (Nat.le_trans hlen hn2) hr hF hb (fun H hH hS => hsp H a ns hlen hbits hH hS) fun H e s' => hCX w H s₁ e s'
end DL
set_option Elab.async false
set_option linter.all false
set_option maxRecDepth 100000
set_option maxHeartbeats 2000000
/-! EN: enumerate of a tuple. -/
namespace EN
open PySem PySem.Spec PyProof.Rows L2
theorem meets_new1 {v : Value} {o : Obj} {H : Heap → Prop} (B : Begins v o H) :
    Meets (Builtin.«enumerate.__new__» ⟨[.type "enumerate", v], []⟩) (fun _ R s => H s.heap ∧
      R (.ok (.ret (.ref (s.heap.push o).objs.size))) { s with heap := (s.heap.push o).push { cls := .type "enumerate", data := .fields #[.none, .bool false, .ref s.heap.objs.size, rawInt 0, .none, .none] } }) :=
  .of_wp fun prog w A R s h => by
    obtain ⟨hp, g, d, tk, os⟩ := s; obtain ⟨h1, h⟩ := h
    have hsub := sub_enumerate
    have q1 : ∀ {A' : Around} {E : Value → Shared → Prop} {Q : Value → Shared → Prop}, Q (.ref hp.objs.size) ⟨hp.push o, g, d, tk, os⟩ → wpAny (model prog w) A' (pyIter v) Q E ⟨hp, g, d, tk, os⟩ :=
      fun q => B.iter prog w _ _ ⟨hp, g, d, tk, os⟩ _ h1 q
    wp_walk using q1
    refine wpAny_stack_any fun st => wpAny_pure ?_
    split
    · rename_i c _ _ _ _ _
      cases (c == Value.type "enumerate")
      · wp_walk using q1
        exact ⟨_, rfl, h⟩
      · wp_walk using q1
        exact ⟨_, rfl, h⟩
    · wp_walk using q1
      exact ⟨_, rfl, h⟩
theorem begins1 {prog : Program} {w : World} {A : Around} {E : Value → Shared → Prop} {s : Shared} {v : Value} {o : Obj} {H : Heap → Prop} {Q : Value → Shared → Prop} (B : Begins v o H) (h1 : H s.heap)
    (h : ∀ h', IsEnum h' (s.heap.objs.size + 1) s.heap.objs.size 0 .none → h'.get? s.heap.objs.size = some o → h'.objs.size = s.heap.objs.size + 2 →
      (∀ b o, s.heap.get? b = some o → h'.get? b = some o) → Q (.ref (s.heap.objs.size + 1)) { s with heap := h' }) :
    wpAny (model prog w) A (call (.type "enumerate") [v]) Q E s := by
  refine callType_new F.called_enumerate (by decide) (F.typeCall_enumerate_1 _) (F.newCall_enumerate_1 _) (fun obj => F.args_object_init_2 obj _) F.entry_enumerate_new
    (meets_new1 B) ⟨h1, ?_⟩
  have hz : (s.heap.push o).objs.size = s.heap.objs.size + 1 := Heap.size_push ..
  show _ ∧ _
  rw [hz]
  have he : IsEnum ((s.heap.push o).push { cls := .type "enumerate", data := .fields #[.none, .bool false, .ref s.heap.objs.size, rawInt 0, .none, .none] }) (s.heap.objs.size + 1) s.heap.objs.size 0 .none := by
    have := Heap.get?_push_size (s.heap.push o) (o := { cls := .type "enumerate", data := .fields #[.none, .bool false, .ref s.heap.objs.size, rawInt 0, .none, .none] }) rfl
    rw [hz] at this; exact this
  refine ⟨⟨_, he, rfl⟩, h _ he (Heap.get?_push_of_some _ (Heap.get?_push_size _ B.free)) (by rw [Heap.size_push, hz]) fun b o x => Heap.get?_push_of_some _ (Heap.get?_push_of_some _ x)⟩
/-- the tuple at a, each item in a new pair -/
def IteT (K : PySem.W.Frag) (a : Addr) : It :=
  ⟨fun i H => ∃ (xs : List V) (x : V), SqT K H a xs ∧ xs[i]? = some x, fun i H v H' => ∃ T x, v = .ref T ∧ H T = none ∧ H' = upd H T (.tup [.int (i : Nat), x]) ∧ ∀ xs, SqT K H a xs → xs[i]? = some x, fun i H => ∃ xs : List V, SqT K H a xs ∧ xs.length ≤ i⟩
theorem turn_enumT {P : Program} {w : World} {K : PySem.W.Frag} {elts : List Expr} {kk : Nat} {tpos : Pos} (a e it : Addr) (ane : a ≠ e) (ani : a ≠ it) :
    Turn P w K (.Tuple elts kk tpos) (IteT K a) [e, it] e (fun i h => (∃ old, IsEnum h e it ((i : Nat) : Int) old) ∧ h.IsTupleIter it a i ∧ e ≠ it) where
  mem := by simp
  obj := fun i h st b hb => by
    obtain ⟨⟨old, he⟩, ⟨o, ho, hc, hd⟩, _⟩ := st
    have e' : b = e ∨ b = it := by simpa using hb
    rcases e' with z | z
    · rw [z]; exact ⟨_, he, fun v q => nomatch q⟩
    · rw [z]; exact ⟨o, ho, fun v q => by rw [hd] at q; cases q⟩
  keep := fun i h h' st k => let ⟨⟨old, he⟩, hi, hne⟩ := st; ⟨⟨old, k e (by simp) _ he⟩, hi.at fun o q => k it (by simp) o q, hne⟩
  item := by
    intro X hP hw hK hc i pins s σ H E I hf st hg
    subst hP hw hK
    obtain ⟨⟨old, he⟩, hit, hne⟩ := st
    obtain ⟨xs, x, hq, hx⟩ := hg
    obtain ⟨its, rv, p, hz⟩ := I.tuple hq
    obtain ⟨u, hu, ru⟩ := rv.get hx
    have hel : e < s.heap.objs.size := Heap.lt_size he
    have hil : it < s.heap.objs.size := by obtain ⟨_, q, _⟩ := hit; exact Heap.lt_size q
    have hlt : i < its.toArray.size := by
      have := (List.getElem?_eq_some_iff.mp hu).1
      simpa using this
    refine wpAny_pyNext_enum_itemD (Draws.tuple (A := X.A.in1) (prog := X.prog) (w := X.w) (show X.A.in1.handled = none from I.ok.hd hc) it a ani its.toArray) he ⟨hit, p⟩ hlt hne (by simp; exact ⟨hne, fun q => ane q.symm⟩) fun y h' tk hy ho hst' hT hsz hk => ?_
    obtain rfl : y = u := by
      rw [show its.toArray[i]? = some u by simpa using hu] at hy
      exact (Option.some.inj hy).symm
    refine ⟨_, rfl, wpAny_letOwnedTupleGo_enum (s := { s with heap := h', toks := tk + 1 }) ho fun h'' he' sb => ?_⟩
    have hT2 : h''.get? s.heap.objs.size = some { cls := .type "tuple", data := .seq #[.int i tk, y] } := (sb.2 _ (Nat.ne_of_gt hel)).trans hT
    have new : ObjOk X.prog X.w (upd H s.heap.objs.size (.tup [.int (i : Nat), x])) h'' s.heap.objs.size (.tup [.int (i : Nat), x]) :=
      ⟨by show 2 ≤ sizeLine; decide, [.int i tk, y], .cons ⟨_, rfl⟩ (.cons ru .nil), ⟨_, hT2, rfl, _, rfl⟩⟩
    have I1 : Inv X pins σ (upd H s.heap.objs.size (.tup [.int (i : Nat), x])) { s with heap := h'', toks := tk + 1 } :=
      I.turnedNew (ch := [e, it]) (fun b o hb q => (sb.2 b (fun z => hb (by simp [z]))).trans (hk b o (fun z => hb (by simp [z])) (fun z => hb (by simp [z])) q)) hf (Nat.le_refl _) new
    refine ⟨.ref s.heap.objs.size, _, I1, rfl, ⟨_, x, rfl, I.hok.fresh (Nat.le_refl _), rfl, fun ys hy => by rw [I.tuple_inj hy hq]; exact hx⟩, ⟨⟨y, ?_⟩, hst'.1.at fun o q => (sb.2 it (Ne.symm hne)).trans q, hne⟩, fun b hb => ?_⟩
    · have e1 : ((i + 1 : Nat) : Int) = (i : Int) + 1 := by omega
      rw [e1]; exact he'
    · have hb' : b < s.heap.objs.size := by
        have e' : b = e ∨ b = it := by simpa using hb
        rcases e' with z | z
        · rw [z]; exact hel
        · rw [z]; exact hil
      rw [upd_ne (Nat.ne_of_lt hb')]
      exact (hf b hb).1
  done := by
    intro X hP hw hK hc i pins s σ H E I hf st hg
    subst hP hw hK
    obtain ⟨⟨old, he⟩, hit, hne⟩ := st
    obtain ⟨xs, hq, hx⟩ := hg
    obtain ⟨its, rv, p, hz⟩ := I.tuple hq
    obtain ⟨f0, f1, f2, f3, f4, f5⟩ := hf it (by simp)
    have hl := rv.length
    have hT : s.TypeIs (.ref e) "enumerate" := ⟨_, he, rfl⟩
    unfold pyNext
    refine wpAny_bind (wpAny_attempt (wpAny_callSpecial?_slot (name := Str.ofString "__next__") hT F.slot_enumerate_next
      (wpAny_call_entry F.slot_enumerate_next hT F.entry_enumerate_next ?_ (F.args_enumerate_next_1 _))))
    show wpAny _ _ (field (.ref e) 2 >>= _) _ _ _
    refine wpAny_bind (wpAny_field he rfl (x := .ref it) rfl ?_)
    refine wpAny_bind (wpAny_nextOf_tuple_end (i := i) (t := a) (items := its.toArray) (I.ok.hd hc) hit p (by simp; omega) fun h' x he' hx' => ?_)
    obtain ⟨o, ho, hc⟩ := hx'
    refine wpAny_bind (wpAny_isInstance (T := "StopIteration") (b := true) ⟨o, ho, hc⟩ isSubtype_stop ?_)
    exact wpAny_pure ⟨rfl, I.turned (t' := s.toks) (fun b o hb q => he' b o hb q) f0 f1 f3 f4 f5⟩
  self := fun A i s Q E st h => let ⟨⟨_, he⟩, _⟩ := st; wpAny_pyIter_enum he h
def iEnumT (K : PySem.W.Frag) (ta : TA) : TI := fun σ H R => ta σ H fun vs H1 => ∃ a xs, vs = [.ref a] ∧ SqT K H1 a xs ∧ R (IteT K a) H1
theorem pi_enumT {X : Cx} {e : Expr} {te : TA} {p pos tpos : Pos} {elts : List Expr} {kk : Nat} (hg : Gl X "enumerate") (hm : X.mg "enumerate" = none) (ha : PA X [e] te) (hs : starEach [e] X.env = [(false, eval e X.env)] := by rfl) :
    PI X (.Tuple elts kk tpos) (.Call (.Name "enumerate" p) [e] [] pos) (iEnumT X.K te) := by
  refine ⟨fun pins s σ H R I h => ?_⟩
  refine Call_ (ld_blt I hg hm boot_enumerate (PyProof.Rows.callWith_type1 (thn (ha.run pos pins s σ H _ I h) fun us s1 ⟨vs, H1, I1, r1, q1⟩ => ?_) hs rfl))
  obtain ⟨a, xs, ex, hq, q⟩ := q1
  subst ex
  cases r1 with
  | cons r rr =>
    cases rr
    cases r
    obtain ⟨its, rv, p', hz⟩ := I1.tuple hq
    have p'' := p'
    obtain ⟨o, ho, _⟩ := p''
    have hlt : a < s1.heap.objs.size := Heap.lt_size ho
    refine begins1 (begins_tuple a its.toArray) p' fun h' he hit hsz hk => wpAny_pyIter_enum he ?_
    have I2 : Inv X pins σ H1 { s1 with heap := h' } := I1.kept (t' := s1.toks) hk
    refine ⟨s1.heap.objs.size + 1, [s1.heap.objs.size + 1, s1.heap.objs.size], _, _, H1, rfl, I2, turn_enumT a (s1.heap.objs.size + 1) s1.heap.objs.size (Nat.ne_of_lt (Nat.lt_succ_of_lt hlt)) (Nat.ne_of_lt hlt), ⟨⟨.none, he⟩, ⟨_, hit, rfl, rfl⟩, Nat.succ_ne_self _⟩, fun b hb => ?_, q⟩
    have e' : b = s1.heap.objs.size + 1 ∨ b = s1.heap.objs.size := by simpa using hb
    have hle : s1.heap.objs.size ≤ b := by
      rcases e' with z | z
      · rw [z]; exact Nat.le_add_right _ _
      · rw [z]; exact Nat.le_refl _
    exact I1.fpOk hle (I1.hok.fresh hle)
end EN
set_option Elab.async false
set_option linter.all false
set_option maxRecDepth 100000
set_option maxHeartbeats 1000000
/-! DL13: more rules: minus, products, chains, pairs, isinstance. -/
namespace DL
open PySem PySem.Spec PyProof.Rows L2

def eChain (F F' : D → D → M D) (fa fb fc : EnD → M D) : EnD → M D := fun ρ => mbind (fa ρ) fun x => mbind (fb ρ) fun y => mbind (F x y) fun r => mbind (mopt (asB r)) fun k =>
  if k then mbind (fc ρ) fun w => F' y w else mpure (.bl false)
def tyD : D → Option String
  | .non => some "NoneType"
  | .bl _ => some "bool"
  | .int _ => some "int"
  | .str _ => some "str"
  | .tup _ => some "tuple"
  | .wt _ => some "tuple"
  | .lst _ => some "list"
  | .dS _ => some "dict"
  | _ => none
def isK (t c : String) : Bool := t == c || (t == "bool" && c == "int")
def isiD (cs : List String) (d : D) : Option D := (tyD d).map fun t => .bl (cs.any (isK t))
def sPar (i j : Nat) (fa fb : EnD → M D) : SM := fun ρ z => obind (evs [fa, fb] ρ z) fun ds z' => match ds with
  | [a, b] => if ownAt ρ i || ownAt ρ j then .bad else .nx ((ρ.set i (some (.val a))).set j (some (.val b))) z'
  | _ => .bad

section
variable {X : L2.Cx} {T : Tb} {E : XK} {e a b c : Expr} {f fa fb fc : EnD → M D} {pos pos' p : Pos} {σ : L2.St} {H : Hp} {Q : VK} {x y : Str} {i j : Nat}
theorem pu_neg (ha : PE X a (tD (yx X T E) fa)) : PE X (.UnaryOp .USub a pos) (tD (yx X T E) (e1 (op1 negD) fa)) :=
  PE_imp (pe_un un_neg ha) fun σ H Q h => by
    obtain ⟨g, ρ, z, st, a⟩ := tD_bind (k := fun _ => op1 negD) h
    exact ⟨g, ρ, z, st, a.imp fun d z1 _ h1 v H1 st1 e1 r1 => by
      obtain ⟨g2, ρ2, z2, d2, st2, r2, a2⟩ := h1 v H1 st1 e1 r1
      obtain ⟨r, hr, q⟩ := a2.opt
      cases d2 <;> simp only [negD, reduceCtorEq, Option.some.injEq] at hr
      subst hr
      cases r2.int
      exact ⟨_, rfl, q _ H1 st2 .refl (.atom .int .nil)⟩⟩
def mulI : D → D → Option D
  | .int i, .int j => if (-(2 ^ 64) < i ∧ i < 2 ^ 64) ∨ (-(2 ^ 64) < j ∧ j < 2 ^ 64) then some (.int (i * j)) else none
  | _, _ => none
theorem od_mulI : OpD X T E (binaryOp .Mult) (op2 mulI) := opD_flat fun H R B v w d e r Q rv rw' h q => by
  unfold mulI at h
  split at h
  · split at h
    · rename_i c; cases h; cases rv.int; cases rw'.int; exact ⟨_, op_mul, _, _, rfl, rfl, c, q _ .int⟩
    · cases h
  · cases h
theorem chain_imp {op op' : CmpOp} {F F' : D → D → M D} (hop : OpD X T E (compareOp op) F) (hop' : OpD X T E (compareOp op') F') (h : tD (yx X T E) (eChain F F' fa fb fc) σ H Q) :
    tChain (rOp X (compareOp op)) (rOp X (compareOp op')) (tD (yx X T E) fa) (tD (yx X T E) fb) (tD (yx X T E) fc) σ H Q := by
  obtain ⟨g, ρ, z, st, h⟩ := h
  refine ⟨g, ρ, z, st, h.bind.imp fun d1 z1 _ h1 v1 H1 st1 e1 r1 => ⟨g, ρ, z1, st1, h1.bind.imp fun d2 z2 _ h2 v2 H2 st2 e2 r2 => ?_⟩⟩
  refine hop g H2 σ ρ z2 v1 v2 d1 d2 _ st2 (r1.mono (e2.rd st1.badR)) r2 (h2.bind.imp fun d3 z3 _ h3 v3 H3 st3 e3 r3 => ?_)
  obtain ⟨k, hk, h4⟩ := h3.bind.opt
  obtain rfl : d3 = .bl k := by cases d3 <;> simp_all [asB]
  cases r3.bl
  refine ⟨k, rfl, ?_⟩
  cases k with
  | false =>
    rw [if_neg Bool.false_ne_true] at h4 ⊢
    exact h4.pure _ H3 st3 (e1.trans (e2.trans e3)) (.atom .bl .nil)
  | true =>
    rw [if_pos rfl] at h4 ⊢
    refine ⟨g, ρ, z3, st3, h4.bind.imp fun d4 z4 _ h5 v4 H4 st4 e4 r4 => ?_⟩
    exact hop' g H4 σ ρ z4 v2 v4 d2 d4 Q st4 ((r2.mono (e3.rd st2.badR)).mono (e4.rd st3.badR)) r4 (h5.imp fun d5 z5 _ h6 v5 H5 st5 e5 r5 => h6 v5 H5 st5 (e1.trans (e2.trans (e3.trans (e4.trans e5)))) r5)
theorem pu_chain {op op' : CmpOp} {F F' : D → D → M D} (hop : OpD X T E (compareOp op) F) (hop' : OpD X T E (compareOp op') F') (ha : PE X a (tD (yx X T E) fa)) (hb : PE X b (tD (yx X T E) fb)) (hc : PE X c (tD (yx X T E) fc))
    (hm : lastMarks [op, op'] [b, c] = false := by with_unfolding_all rfl) : PE X (.Compare a [op, op'] [b, c] pos) (tD (yx X T E) (eChain F F' fa fb fc)) :=
  PE_imp (pe_chain opOp opOp ha hb hc hm) fun σ H Q h => chain_imp hop hop' h
theorem pt_chain {op op' : CmpOp} {F F' : D → D → M D} (hop : OpD X T E (compareOp op) F) (hop' : OpD X T E (compareOp op') F') (ha : PE X a (tD (yx X T E) fa)) (hb : PE X b (tD (yx X T E) fb)) (hc : PE X c (tD (yx X T E) fc))
    (hm : lastMarks [op, op'] [b, c] = false := by with_unfolding_all rfl) : PT X (.Compare a [op, op'] [b, c] pos) (ttD (yx X T E) (tV (eChain F F' fa fb fc))) :=
  PT_imp (L2.pt_chain opOp opOp ha hb hc hm) fun σ H Q h => chain_imp hop hop' (tV_imp h)

theorem par_read {D' : Ends} (h : sD (yx X T E) (sPar i j fa fb) D' σ H) : taD (yx X T E) (evs [fa, fb]) σ H fun vs H1 => ∃ v w g ρ d e z', vs = [v, w] ∧ StR (yx X T E) g H1 σ ρ z' ∧ R1 X.K H1 g.R (bad g σ ρ) v d ∧ R1 X.K H1 g.R (bad g σ ρ) w e ∧ ownAt ρ i = false ∧ ownAt ρ j = false ∧
    ∀ σ' H', StR (yx X T E) g H' σ' ((ρ.set i (some (.val d))).set j (some (.val e))) z' → Stp g.R σ ρ H1 σ' ((ρ.set i (some (.val d))).set j (some (.val e))) H' → D'.nx σ' H' := by
  obtain ⟨g, ρ, z, st, o⟩ := h
  refine ⟨g, ρ, z, st, o.bind.imp fun ds z1 he h1 vs H1 st1 e1 r1 => ?_⟩
  have hl := evs_length he
  obtain ⟨d, e, rfl⟩ : ∃ d e, ds = [d, e] := by
    match ds, hl with
    | [d, e], _ => exact ⟨d, e, rfl⟩
  simp only at h1
  obtain ⟨v, w, rfl⟩ : ∃ v w, vs = [v, w] := by
    have := r1.length
    match vs, this with
    | [v, w], _ => exact ⟨v, w, rfl⟩
  cases c1 : ownAt ρ i with
  | true => simp only [c1, Bool.true_or, if_true] at h1; exact h1.elim
  | false =>
    cases c2 : ownAt ρ j with
    | true => simp only [c1, c2, Bool.false_or, if_true] at h1; exact h1.elim
    | false =>
      simp only [c1, c2, Bool.or_self, Bool.false_eq_true, if_false] at h1
      exact ⟨v, w, g, ρ, d, e, z1, rfl, st1, r1.split.1, r1.split.2, c1, c2, fun σ' H' s sp => h1 σ' H' s ((Stp.ext e1).trans sp)⟩
theorem set2 {g : G} {ρ : EnD} {z : S} {v w : V} {d e : D} {H : Hp} (st : StR (yx X T E) g H σ ρ z) (c1 : ownAt ρ i = false) (c2 : ownAt ρ j = false) (rv : R1 X.K H g.R (bad g σ ρ) v d) (rw' : R1 X.K H g.R (bad g σ ρ) w e) :
    StR (yx X T E) g H ((σ.set i (some v)).set j (some w)) ((ρ.set i (some (.val d))).set j (some (.val e))) z ∧ Stp g.R σ ρ H ((σ.set i (some v)).set j (some w)) ((ρ.set i (some (.val d))).set j (some (.val e))) H := by
  have s1 := st.setv c1 rv
  have c3 : ownAt (ρ.set i (some (.val d))) j = false := by rw [ownAt_set c1 (y := some (.val d)) trivial]; exact c2
  exact ⟨s1.setv c3 (by rw [bad_setv c1]; exact rw'), (Stp.setv c1 (y := some (.val d)) trivial).trans (.setv c3 trivial)⟩
/-- a, b = .., plain local names -/
theorem pu_par {px py pt : Pos} {kt k2} {pt2 : Pos} (hc : X.calm = true) (hN : X.N.Nodup) (hi : X.N[i]? = some x) (hj : X.N[j]? = some y) (hij : i ≠ j)
    (hx : X.env.scope.names.lookup x = some .local) (hy : X.env.scope.names.lookup y = some .local) (ha : PA X [a, b] (taD (yx X T E) (evs [fa, fb])))
    (hw : swappedStores [.Tuple [.Name x px, .Name y py] kt pt] (.Tuple [a, b] k2 pt2) X.env = pure (some [x, y]))
    (hs : swapsWithSole [.Tuple [.Name x px, .Name y py] kt pt] (.Tuple [a, b] k2 pt2) pos.line X.env = pure false := by rfl) :
    PS X (.Assign [.Tuple [.Name x px, .Name y py] kt pt] (.Tuple [a, b] k2 pt2) pos) (sD (yx X T E) (sPar i j fa fb)) := PS_imp (ps_par hc hN hi hj hij hx hy ha hw hs) fun D' σ H h => ta_mono (par_read h) fun vs H1 ⟨v, w, g, ρ, d, e, z', ev, st, rv, rw', c1, c2, q⟩ => by
  obtain ⟨s2, sp⟩ := set2 st c1 c2 rv rw'
  exact ⟨v, w, ev, q _ H1 s2 sp⟩
/-- a, b = .., the pair made and taken apart -/
theorem pu_unp {px py pt : Pos} {kt : Nat} {k2} {pt2 : Pos} (hc : X.calm = true) (gi : PG X (.Name x px) (gName i)) (gj : PG X (.Name y py) (gName j)) (ha : PA X [a, b] (taD (yx X T E) (evs [fa, fb])))
    (hw : swappedStores [.Tuple [.Name x px, .Name y py] kt pt] (.Tuple [a, b] k2 pt2) X.env = pure none := by rfl)
    (hs : swapsWithSole [.Tuple [.Name x px, .Name y py] kt pt] (.Tuple [a, b] k2 pt2) pos.line X.env = pure false := by rfl) :
    PS X (.Assign [.Tuple [.Name x px, .Name y py] kt pt] (.Tuple [a, b] k2 pt2) pos) (sD (yx X T E) (sPar i j fa fb)) := PS_imp (ps_asg (pe_tupF ha) (pg_tup (n := 2) hc (pgs_cons gi (pgs_cons gj pgs_nil))) hs hw) fun D' σ H h => ta_mono (par_read h) fun vs H1 ⟨v, w, g, ρ, d, e, z', ev, st, rv, rw', c1, c2, q⟩ => by
  subst ev
  refine ⟨small_len (n := 2) (by decide), fun p ob hp hd => ?_⟩
  have rd := (Ext.new (R := g.R) (o := .frz ob (.tup [v, w])) hp).rd st.badR
  obtain ⟨s2, sp⟩ := set2 (st.new hp) c1 c2 (rv.mono rd) (rw'.mono rd)
  exact ⟨p, [v, w], rfl, .inl (.inr ⟨ob, upd_same⟩), rfl, v, [w], rfl, w, [], rfl, rfl, q _ _ s2 ((Stp.ext (.new hp)).trans sp)⟩

/-! ### isinstance -/
theorem kit_all : ∀ a ∈ ["NoneType", "bool", "int", "str", "tuple", "list", "dict"], ∀ b ∈ ["bool", "int", "str", "tuple", "list"], kitB a b = some (isK a b) := by decide +kernel
theorem kit_any {K : PySem.W.Frag} {t : String} (ht : t ∈ ["NoneType", "bool", "int", "str", "tuple", "list", "dict"]) : ∀ {cs : List String}, (∀ c ∈ cs, c ∈ ["bool", "int", "str", "tuple", "list"]) → PySem.W.kitAny K (.type t) (cs.map Value.type) = some (cs.any (isK t))
  | [], _ => kitAny_nil
  | c :: cs, h => by
    have h1 : PySem.W.kitOne K (.type t) (.type c) = some (isK t c) := kit_ty (kit_all t ht c (h c (List.mem_cons_self ..)))
    have h2 := kit_any (K := K) ht (cs := cs) (fun c' hc => h c' (List.mem_cons_of_mem _ hc))
    rw [List.map_cons, List.any_cons]
    cases e : isK t c with
    | true => rw [Bool.true_or]; exact kitAny_cons h1 (r := true) (fun z => by rw [e] at z; cases z) (fun _ => rfl)
    | false =>
      rw [Bool.false_or]
      exact kitAny_cons h1 (fun _ => h2) (fun z => by rw [e] at z; cases z)
theorem tyx_of {K : PySem.W.Frag} {H : Hp} {R : Addr} {B : Addr → Prop} {v : V} {d : D} {t : String} (r : R1 K H R B v d) (h : tyD d = some t) : TyX K H v (.type t) ∧ t ∈ ["NoneType", "bool", "int", "str", "tuple", "list", "dict"] := by
  cases d <;> simp only [tyD, reduceCtorEq, Option.some.injEq] at h
  all_goals subst h
  case non => cases r.non; exact ⟨.base .non, by decide⟩
  case bl => cases r.bl; exact ⟨.base (.bl _), by decide⟩
  case int => cases r.int; exact ⟨.base (.int _), by decide⟩
  case str => cases r.str; exact ⟨.base (.str _), by decide⟩
  case tup =>
    obtain ⟨a, us, rfl, s, n, rs⟩ := r.tupl
    refine ⟨?_, by decide⟩
    rcases s with ⟨o, h, _⟩ | ⟨o, its, m, h, c, _⟩
    · exact .fTuple h
    · exact .kTuple h c
  case wt =>
    refine ⟨?_, by decide⟩
    cases r with
    | atom a _ => cases a
    | wt s n r _ =>
      rcases s with (h | ⟨o, h⟩) | ⟨o, its, m, h, c, _⟩
      · exact .base (.tup h)
      · exact .fTuple h
      · exact .kTuple h c
  case lst =>
    obtain ⟨a, us, rfl, s, n, rs⟩ := r.list
    exact ⟨.base (.lst s), by decide⟩
  case dS =>
    obtain ⟨a, kvs, rfl, s, n, rs⟩ := r.dictS
    refine ⟨?_, by decide⟩
    rcases s with s | ⟨o, s⟩
    · exact .base (.dK s)
    · exact .fDict s
/-- names of types -/
structure BT (X : L2.Cx) (es : List Expr) (cs : List String) : Prop where
  run : PA X es fun _ H Q => Q (cs.map V.ty) H
theorem bt_nil : BT X [] [] := ⟨pa_nil⟩
theorem bt_cons {x : Str} {px : Pos} {n : String} {es : List Expr} {cs : List String} (hg : Gl X x) (hm : X.mg x = none) (hv : bootBuiltins x = some (.type n)) (h : BT X es cs) (hn : x ≠ "__name__" := by decide) (hd : (x == ("__debug__" : Str)) = false := by decide)
    (hs : starEach (.Name x px :: es) X.env = (false, eval (.Name x px) X.env) :: starEach es X.env := by rfl) : BT X (.Name x px :: es) (n :: cs) :=
  ⟨PA_imp (pa_cons (pe_bltn (v := .ty n) hg hm hv rfl hn hd) h.run hs) fun σ H Q q => q⟩
theorem pair_ty : ∀ cs : List String, Paired ClsV (cs.map V.ty) (cs.map Value.type)
  | [] => .nil
  | c :: cs => .cons (.ty c) (pair_ty cs)
theorem pu_isi {cs : List String} {es : List Expr} {x1} {pt : Pos} (hg : Gl X "isinstance") (hm : X.mg "isinstance" = none) (ha : PE X a (tD (yx X T E) fa)) (hc : BT X es cs) (hcs : ∀ c ∈ cs, c ∈ ["bool", "int", "str", "tuple", "list"] := by decide) (hl : cs.length ≤ 10000 := by decide)
    (hs : starEach [a, .Tuple es x1 pt] X.env = (false, eval a X.env) :: starEach [.Tuple es x1 pt] X.env := by rfl) (hs2 : starEach [.Tuple es x1 pt] X.env = (false, eval (.Tuple es x1 pt) X.env) :: starEach [] X.env := by rfl)
    (hpl : (backTo pos (starEach [.Tuple es x1 pt] X.env)).any (·.1) = false := by rfl) : PE X (.Call (.Name "isinstance" p) [a, .Tuple es x1 pt] [] pos) (tD (yx X T E) (e1 (op1 (isiD cs)) fa)) :=
  PE_imp (pe_callB call_isiT hg hm PyProof.Rows.boot_isinstance (pa_cons ha (pa_cons (pe_tup hc.run) pa_nil hs2) hs) (by decide) (by decide) hs hpl) fun σ H Q h => by
    obtain ⟨g, ρ, z, st, a⟩ := tD_bind (k := fun _ => op1 (isiD cs)) h
    refine ⟨g, ρ, z, st, a.imp fun d z1 _ h1 v H1 st1 e1 r1 => ?_⟩
    obtain ⟨g2, ρ2, z2, d2, st2, r2, a2⟩ := h1 v H1 st1 e1 r1
    obtain ⟨r, hr, q⟩ := a2.opt
    obtain ⟨t, ht, rfl⟩ := Option.map_eq_some_iff.mp hr
    refine ⟨by rw [List.length_map]; exact small_len hl, fun tp ht' => ?_⟩
    have ex : Ext g2.R H1 (upd H1 tp (.tup (cs.map V.ty))) := .new ht'
    have st3 := st2.new (o := .tup (cs.map V.ty)) ht'
    obtain ⟨ty, hin⟩ := tyx_of (r2.mono (ex.rd st2.badR)) ht
    exact ⟨v, tp, _, _, _, _, rfl, upd_same, pair_ty cs, ty, kit_any hin hcs, q _ _ st3 ex (.atom .bl .nil)⟩
theorem pu_isi1 {c : Str} {n : String} {pc : Pos} (hg : Gl X "isinstance") (hm : X.mg "isinstance" = none) (ha : PE X a (tD (yx X T E) fa)) (hgc : Gl X c) (hmc : X.mg c = none) (hv : bootBuiltins c = some (.type n)) (hcs : n ∈ ["bool", "int", "str", "tuple", "list"] := by decide) (hn : c ≠ "__name__" := by decide) (hd : (c == ("__debug__" : Str)) = false := by decide)
    (hs : starEach [a, .Name c pc] X.env = (false, eval a X.env) :: starEach [.Name c pc] X.env := by rfl) (hs2 : starEach [.Name c pc] X.env = (false, eval (.Name c pc) X.env) :: starEach [] X.env := by rfl)
    (hpl : (backTo pos (starEach [.Name c pc] X.env)).any (·.1) = false := by rfl) : PE X (.Call (.Name "isinstance" p) [a, .Name c pc] [] pos) (tD (yx X T E) (e1 (op1 (isiD [n])) fa)) :=
  PE_imp (pe_callB call_isi hg hm PyProof.Rows.boot_isinstance (pa_cons ha (pa_cons (pe_bltn (v := .ty n) hgc hmc hv rfl hn hd) pa_nil hs2) hs) (by decide) (by decide) hs hpl) fun σ H Q h => by
    obtain ⟨g, ρ, z, st, a⟩ := tD_bind (k := fun _ => op1 (isiD [n])) h
    refine ⟨g, ρ, z, st, a.imp fun d z1 _ h1 v H1 st1 e1 r1 => ?_⟩
    obtain ⟨g2, ρ2, z2, d2, st2, r2, a2⟩ := h1 v H1 st1 e1 r1
    obtain ⟨r, hr, q⟩ := a2.opt
    obtain ⟨t, ht, rfl⟩ := Option.map_eq_some_iff.mp hr
    obtain ⟨ty, hin⟩ := tyx_of r2 ht
    have hk : PySem.W.kitOne X.K (.type t) (.type n) = some (isK t n) := kit_ty (kit_all t hin n hcs)
    refine ⟨v, .ty n, _, _, _, rfl, .ty n, ty, hk, ?_⟩
    have := q _ H1 st2 .refl (.atom .bl .nil)
    simpa using this
end
end DL
set_option Elab.async false
set_option linter.all false
set_option maxRecDepth 100000
set_option maxHeartbeats 1000000
/-! DL14: loops over pairs; dict displays. -/
namespace DL
open PySem PySem.Spec PyProof.Rows L2 EN

def Yn (H H' : Hp) : Prop := H' = H ∨ ∃ p us, H p = none ∧ H' = upd H p (.tup us)
theorem Yn.ext {R : Addr} {H H' : Hp} (y : Yn H H') : Ext R H H' := by
  rcases y with rfl | ⟨p, us, hp, rfl⟩
  · exact .refl
  · exact .new hp
theorem Yn.st {Y : Yx} {g : G} {H H' : Hp} {σ : L2.St} {ρ : EnD} {z : S} (y : Yn H H') (st : StR Y g H σ ρ z) : StR Y g H' σ ρ z := by
  rcases y with rfl | ⟨p, us, hp, rfl⟩
  · exact st
  · exact st.new hp
/-- an iterator that hands out pairs -/
structure ItE (K : PySem.W.Frag) (R : Addr) (B : Addr → Prop) (H1 : Hp) (J : It) (xs : List (D × D)) : Prop where
  go : ∀ i H, RdLe B H1 H → i < xs.length → J.go i H
  yld : ∀ i H x H', RdLe B H1 H → i < xs.length → J.yld i H x H' → Yn H H' ∧ ∃ d a va vb, xs[i]? = some d ∧ x = .ref a ∧ SqT K H' a [va, vb] ∧ R1 K H' R (plus K H1 B) va d.1 ∧ R1 K H' R (plus K H1 B) vb d.2
  stop : ∀ i H, RdLe B H1 H → xs.length ≤ i → J.stop i H
def tiE (Y : Yx) (f : EnD → M (List (D × D))) : TI := fun σ H R => ∃ g ρ z, StR Y g H σ ρ z ∧ After Y g (f ρ z) fun xs z' => ∀ J H1, StR Y g H1 σ ρ z' → Ext g.R H H1 → ItE Y.K g.R (bad g σ ρ) H1 J xs → R J H1
def pairOf : D → Option (D × D)
  | .tup [a, b] => some (a, b)
  | .wt [a, b] => some (a, b)
  | _ => none
def forP (i j : Nat) (body : SM) : List (D × D) → SM
  | [], ρ, z => .nx ρ z
  | (a, b) :: xs, ρ, z => if ownAt ρ i || ownAt ρ j then .bad else match body ((ρ.set i (some (.val a))).set j (some (.val b))) z with
      | .nx ρ' z' => forP i j body xs ρ' z'
      | .ct ρ' z' => forP i j body xs ρ' z'
      | .bk ρ' z' => .nx ρ' z'
      | o => o
def sForP (i j : Nat) (xs : EnD → M (List (D × D))) (body : SM) : SM := fun ρ z => obind (xs ρ z) fun l z' => forP i j body l ρ z'
def enumD : Nat → List D → List (D × D)
  | _, [] => []
  | k, x :: r => (.int k, x) :: enumD (k + 1) r
def iEn (f : EnD → M D) : EnD → M (List (D × D)) := fun ρ => mbind (f ρ) fun d => mopt ((asT d).map (enumD 0))
theorem enumD_len : ∀ (k : Nat) (xs : List D), (enumD k xs).length = xs.length
  | _, [] => rfl
  | k, x :: r => by unfold enumD; rw [List.length_cons, List.length_cons, enumD_len]
theorem enumD_get : ∀ (k : Nat) (xs : List D) (i : Nat) (x : D), xs[i]? = some x → (enumD k xs)[i]? = some (.int ((k + i : Nat) : Int), x)
  | _, [], _, _, h => by simp at h
  | k, y :: r, 0, x, h => by simp at h; subst h; rfl
  | k, y :: r, i + 1, x, h => by
    unfold enumD
    have := enumD_get (k + 1) r i x (by simpa using h)
    rw [List.getElem?_cons_succ, this]
    congr 4
    omega
/-- a list, a tuple of pairs -/
def iPr (f : EnD → M D) : EnD → M (List (D × D)) := fun ρ => mbind (f ρ) fun d => mopt ((items d).bind fun xs => xs.mapM pairOf)

section
variable {X : L2.Cx} {T : Tb} {E : XK} {A B : SM} {f fa fb : EnD → M D} {fi : EnD → M (List (D × D))} {e a b tg iter : Expr} {pos pos' p : Pos} {σ : L2.St} {H : Hp} {Q : VK} {x y : Str} {i j : Nat}
theorem R1.pair {K : PySem.W.Frag} {H : Hp} {R : Addr} {B : Addr → Prop} {v : V} {d da db : D} (r : R1 K H R B v d) (h : pairOf d = some (da, db)) : ∃ a va vb, v = .ref a ∧ SqT K H a [va, vb] ∧ R1 K H R B va da ∧ R1 K H R B vb db := by
  have two : ∀ {us : List V}, Rs K H R B us [da, db] → ∃ va vb, us = [va, vb] ∧ R1 K H R B va da ∧ R1 K H R B vb db := fun {us} rs => by
    match us, rs.length with
    | [va, vb], _ => exact ⟨va, vb, rfl, rs.split.1, rs.split.2⟩
  unfold pairOf at h
  split at h
  · cases h
    obtain ⟨a, us, rfl, s, n, rs⟩ := r.tupl
    obtain ⟨va, vb, rfl, r1, r2⟩ := two rs
    exact ⟨a, va, vb, rfl, s.sq, r1, r2⟩
  · cases h
    cases r with
    | atom a _ => cases a
    | wt s n rs _ =>
      obtain ⟨va, vb, rfl, r1, r2⟩ := two rs
      exact ⟨_, va, vb, rfl, s, r1, r2⟩
  · cases h
theorem RdLe.new {B : Addr → Prop} {H : Hp} {p : Addr} {o : HO} (hp : H p = none) : RdLe B H (upd H p o) := by
  refine ⟨fun a u n du r => ?_, fun a ob us n e => by rw [upd_ne (ne_of_none e hp)]; exact e, fun a us n e => by rw [upd_ne (ne_of_none e hp)]; exact e⟩
  rcases r with r | ⟨ob, r⟩
  · exact .inl (by rw [upd_ne (ne_of_none r hp)]; exact r)
  · exact .inr ⟨ob, by rw [upd_ne (ne_of_none r hp)]; exact r⟩
theorem ite_enum {K : PySem.W.Frag} {R a : Addr} {B : Addr → Prop} {H1 : Hp} {us : List V} {xs : List D} (h : SqT K H1 a us) (n : ¬ B a) (r : Rs K H1 R B us xs) : ItE K R B H1 (IteT K a) (enumD 0 xs) where
  go := fun i H rd hi => by
    have h2 := rd.sqT n h
    obtain ⟨v, h3, _⟩ := r.get (List.getElem?_eq_getElem (by rw [← enumD_len 0]; exact hi))
    exact ⟨us, v, h2, h3⟩
  yld := fun i H x H' rd hi hy => by
    obtain ⟨p, y, rfl, hp, rfl, hx⟩ := hy
    have h3 := hx us (rd.sqT n h)
    obtain ⟨d, h4, h5⟩ := r.dom.getV h3
    refine ⟨.inr ⟨p, _, hp, rfl⟩, _, p, _, _, enumD_get 0 xs i d h4, rfl, .inl (.inl upd_same), ?_, (h5.mono (rd.mono fun a z => .inl z)).mono (RdLe.new hp)⟩
    rw [Nat.zero_add]
    exact .atom .int .nil
  stop := fun i H rd hi => ⟨us, rd.sqT n h, by rw [r.length, ← enumD_len 0]; exact hi⟩
theorem pu_iEn {elts : List Expr} {kk : Nat} {tpos : Pos} (hg : Gl X "enumerate") (hm : X.mg "enumerate" = none) (ha : PE X a (tD (yx X T E) fa)) (hs : starEach [a] X.env = [(false, eval a X.env)] := by rfl) :
    PI X (.Tuple elts kk tpos) (.Call (.Name "enumerate" p) [a] [] pos) (tiE (yx X T E) (iEn fa)) := PI_imp (pi_enumT hg hm (pa_cons ha pa_nil hs) hs) fun σ H R h => by
  obtain ⟨g, ρ, z, st, h⟩ := h
  refine ⟨g, ρ, z, st, h.bind.imp fun d z1 _ h1 v H1 st1 e1 r1 => ?_⟩
  obtain ⟨ps, hp, q⟩ := h1.opt
  obtain ⟨xs, hx, rfl⟩ := Option.map_eq_some_iff.mp hp
  obtain rfl : d = .tup xs := by cases d <;> simp_all [asT]
  obtain ⟨a, us, rfl, s, n, rs⟩ := r1.tupl
  exact ⟨a, us, rfl, s.sq, q _ H1 st1 e1 (ite_enum s.sq n rs)⟩
theorem mapM_len {α β : Type} {f : α → Option β} : ∀ {xs : List α} {ys : List β}, xs.mapM f = some ys → xs.length = ys.length ∧ ∀ (i : Nat) (x : α), xs[i]? = some x → ∃ y, ys[i]? = some y ∧ f x = some y
  | [], ys, h => by
    simp at h
    subst h
    exact ⟨rfl, fun i x h => by simp at h⟩
  | x :: xs, ys, h => by
    rw [List.mapM_cons] at h
    simp only [Option.bind_eq_bind, Option.bind_eq_some_iff, Option.pure_def, Option.some.injEq] at h
    obtain ⟨y, h1, ys', h2, rfl⟩ := h
    obtain ⟨l, g⟩ := mapM_len h2
    refine ⟨by rw [List.length_cons, List.length_cons, l], fun i w hw => ?_⟩
    cases i with
    | zero => simp at hw; subst hw; exact ⟨y, rfl, h1⟩
    | succ i => exact g i w (by simpa using hw)
/-- pairs that stand in a list, a tuple -/
theorem ite_of {K : PySem.W.Frag} {R : Addr} {B : Addr → Prop} {H1 : Hp} {J : It} {xs : List D} {ps : List (D × D)} (it : ItD K R B H1 J xs) (h : xs.mapM pairOf = some ps) : ItE K R B H1 J ps where
  go := fun i H rd hi => it.go i H rd (by rw [(mapM_len h).1]; exact hi)
  yld := fun i H x H' rd hi hy => by
    obtain ⟨rfl, d, hd, r⟩ := it.yld i H x H' rd (by rw [(mapM_len h).1]; exact hi) hy
    obtain ⟨⟨da, db⟩, h1, h2⟩ := (mapM_len h).2 i d hd
    obtain ⟨a, va, vb, e, s, ra, rb⟩ := r.pair h2
    exact ⟨.inl rfl, (da, db), a, va, vb, h1, e, s, ra, rb⟩
  stop := fun i H rd hi => it.stop i H rd (by rw [(mapM_len h).1]; exact hi)
theorem pu_iPr (ha : PE X a (tD (yx X T E) fa)) : PI X tg a (tiE (yx X T E) (iPr fa)) := PI_imp (pi_any ha) fun σ H R h => by
  obtain ⟨g, ρ, z, st, h⟩ := h
  refine ⟨g, ρ, z, st, h.bind.imp fun d z1 _ h1 v H1 st1 e1 r1 => ?_⟩
  obtain ⟨ps, hp, q⟩ := h1.opt
  obtain ⟨xs, hx, hp⟩ := Option.bind_eq_some_iff.mp hp
  cases d <;> simp only [items, reduceCtorEq, Option.some.injEq] at hx
  case tup =>
    subst hx
    obtain ⟨a, us, rfl, hq, n, rs⟩ := r1.tupl
    exact .inr (.inr (.inl ⟨a, rfl, ⟨us, hq.sq⟩, q _ H1 st1 e1 (ite_of (itd_tup hq.sq n rs) hp)⟩))
  case wt =>
    subst hx
    cases r1 with
    | atom a _ => cases a
    | wt s n r _ => exact .inr (.inr (.inl ⟨_, rfl, ⟨_, s⟩, q _ H1 st1 e1 (ite_of (itd_tup s n r) hp)⟩))
  case lst =>
    subst hx
    obtain ⟨a, us, rfl, hq, n, rs⟩ := r1.list
    exact .inr (.inl ⟨a, rfl, ⟨us, .inl (.inl hq)⟩, q _ H1 st1 e1 (ite_of (itd_list hq n rs) hp)⟩)
/-- for a, b in .. -/
theorem pu_forP {ea eb : Expr} {kk : Nat} {tpos : Pos} {body : List Stmt} (hp : PassesOwn (model X.prog X.w) X.A X.env X.xe) (hc : X.calm = true) (hi : PI X (.Tuple [ea, eb] kk tpos) iter (tiE (yx X T E) fi)) (ga : PG X ea (gName i)) (gb : PG X eb (gName j)) (hb : PSs X body (sD (yx X T E) B)) (hs : ∀ x, foldedSetIterable iter X.env x = pure x := by intro _; rfl)
    (hn : (assignEach [ea, eb] X.env).length = 2 := by rfl) (hst : (assignEach [ea, eb] X.env).findIdx? (·.1) = none := by rfl)
    (h1 : (assignEach [ea, eb] X.env).map (·.2) = assign ea X.env :: (assignEach [eb] X.env).map (·.2) := by rfl) (h2 : (assignEach [eb] X.env).map (·.2) = assign eb X.env :: (assignEach [] X.env).map (·.2) := by rfl) :
    PS X (.For (.Tuple [ea, eb] kk tpos) iter body [] pos) (sD (yx X T E) (sForP i j fi B)) := PS_imp (ps_for hp hc hi (pg_tup (n := 2) hc (pgs_cons ga (pgs_cons gb pgs_nil h2) h1) hn hst) hb hs) fun D σ H h => by
  obtain ⟨g, ρ, z, st, o⟩ := h
  refine ⟨g, ρ, z, st, o.bind.imp fun l z1 _ h1 J H1 st1 e1 it => ?_⟩
  refine ⟨fun n m σ' H' => ∃ ρ' z', n + m = l.length ∧ StR (yx X T E) g H' σ' ρ' z' ∧ Stp g.R σ ρ H1 σ' ρ' H' ∧ OutOk (yx X T E) g σ' ρ' H' (forP i j B (l.drop n) ρ' z') D,
    ⟨l.length, ρ, z1, Nat.zero_add _, st1, .refl, by rw [List.drop_zero]; exact OutOk.rebase h1 (.ext e1)⟩, ?_⟩
  rintro n m σ' H' ⟨ρ', z', hm, st', sp, o'⟩
  have rdl : RdLe (bad g σ ρ) H1 H' := by
    have ne : ∀ a, ¬ bad g σ ρ a → a ≠ g.R ∧ ¬ Own σ ρ a := fun a n => ⟨fun e => n (by rw [e]; exact st1.badR), fun q => n (.inr q)⟩
    refine ⟨fun a u n du r => ?_, fun a ob us n q => sp.keep a _ q (ne a n).1 (ne a n).2 trivial, fun a us n q => sp.keep a _ q (ne a n).1 (ne a n).2 trivial⟩
    rcases r with r | ⟨ob, r⟩
    · exact .inl (sp.keep a _ r (ne a n).1 (ne a n).2 (data_stay du))
    · exact .inr ⟨ob, sp.keep a _ r (ne a n).1 (ne a n).2 trivial⟩
  by_cases hn : n < l.length
  · obtain ⟨⟨xa, xb⟩, hxd⟩ : ∃ xd, l[n]? = some xd := ⟨_, List.getElem?_eq_getElem hn⟩
    have edrop : l.drop n = (xa, xb) :: l.drop (n + 1) := by
      rw [List.drop_eq_getElem_cons hn]
      rw [List.getElem?_eq_getElem hn] at hxd
      rw [Option.some.inj hxd]
    rw [edrop] at o'
    unfold forP at o'
    cases ci : ownAt ρ' i with
    | true => rw [ci] at o'; exact o'.elim
    | false =>
      cases cj : ownAt ρ' j with
      | true => rw [ci, cj] at o'; exact o'.elim
      | false =>
        rw [ci, cj] at o'
        simp only [Bool.false_eq_true, if_false, Bool.or_self] at o'
        refine .inr ⟨it.go n H' rdl hn, _, fun σ'' H'' hW => ⟨m - 1, by omega, hW⟩, fun xv H'' hy => ?_⟩
        obtain ⟨yn, d, ad, va, vb, hd, rfl, sq, ra, rb⟩ := it.yld n H' xv H'' rdl hn hy
        rw [hxd] at hd
        cases hd
        have sub : ∀ a, bad g σ' ρ' a → plus X.K H1 (bad g σ ρ) a := fun a q => by
          have hk := st'.badK q
          rcases q with q | q
          · exact .inl (.inl q)
          · rcases sp.own a q with q | q
            · exact .inl (.inr q)
            · exact .inr ⟨q, hk⟩
        have st'' := yn.st st'
        have sp'' : Stp g.R σ' ρ' H' σ' ρ' H'' := .ext yn.ext
        obtain ⟨s2, sp2⟩ := set2 st'' ci cj (ra.less sub) (rb.less sub)
        refine ⟨ad, [va, vb], rfl, sq, rfl, va, [vb], rfl, vb, [], rfl, rfl, g, _, z', s2, ?_⟩
        have spA := sp''.trans sp2
        cases e : B ((ρ'.set i (some (.val xa))).set j (some (.val xb))) z' with
        | nx ρ3 z3 =>
          rw [e] at o'
          exact fun σ3 H3 st3 s3 => ⟨ρ3, z3, by omega, st3, sp.trans (spA.trans s3), OutOk.rebase o' (spA.trans s3)⟩
        | ct ρ3 z3 =>
          rw [e] at o'
          exact fun σ3 H3 st3 s3 => ⟨ρ3, z3, by omega, st3, sp.trans (spA.trans s3), OutOk.rebase o' (spA.trans s3)⟩
        | bk ρ3 z3 =>
          rw [e] at o'
          exact fun σ3 H3 st3 s3 => o' σ3 H3 st3 (spA.trans s3)
        | rt d z3 => rw [e] at o'; exact o'
        | exc x z3 => rw [e] at o'; exact o'
        | bad => rw [e] at o'; exact o'
  · refine .inl ⟨it.stop n H' rdl (by omega), ?_⟩
    rw [List.drop_of_length_le (by omega)] at o'
    exact o' σ' H' st' .refl
end
end DL
set_option Elab.async false
set_option linter.all false
set_option maxRecDepth 100000
set_option maxHeartbeats 1000000
/-! DL15: dict displays with text keys. -/
namespace DL
open PySem PySem.Spec PyProof.Rows L2

def evsN : List (EnD → M D) → EnD → M (List D)
  | [] => fun _ => mpure []
  | f :: fs => fun ρ => mbind (mne (f ρ)) fun d => mbind (evsN fs ρ) fun ds => mpure (d :: ds)
def putAll (acc : List (List Nat × D)) : List (List Nat × D) → List (List Nat × D)
  | [] => acc
  | p :: r => putAll (putS acc p.1 p.2) r
def eDisp (ps : List (List Nat × (EnD → M D))) : EnD → M D := fun ρ => mbind (evsN (ps.map (·.2)) ρ) fun ds => mpure (.dS (putAll [] ((ps.map (·.1)).zip ds)))
theorem evsN_len {fs : List (EnD → M D)} : ∀ {ρ : EnD} {z z' : S} {ds : List D}, evsN fs ρ z = .ok ds z' → ds.length = fs.length := by
  induction fs with
  | nil => intro ρ z z' ds h; simp [evsN, mpure] at h; simp [h.1]
  | cons f fs ih =>
    intro ρ z z' ds h
    unfold evsN mbind at h
    cases e : mne (f ρ) z with
    | ok d z1 =>
      rw [e] at h
      simp only at h
      cases e2 : evsN fs ρ z1 with
      | ok es z2 =>
        simp only [mbind, e2, mpure, Res.ok.injEq] at h
        rw [← h.1, List.length_cons, List.length_cons, ih e2]
      | exc x z2 => simp [mbind, e2] at h
      | bad => simp [mbind, e2] at h
    | exc x z1 => rw [e] at h; simp at h
    | bad => rw [e] at h; simp at h
def zipK : List (List Nat) → List V → List (Key × V)
  | k :: ks, v :: vs => (.inr (ST k), v) :: zipK ks vs
  | _, _ => []
theorem zipK_kv : ∀ (ks : List (List Nat)) (vs : List V), (zipK ks vs).map (fun kv => (kV kv.1, kv.2)) = (ks.map fun k => V.str (ST k)).zip vs
  | [], _ => rfl
  | _ :: _, [] => rfl
  | k :: ks, v :: vs => by
    rw [zipK, List.map_cons, zipK_kv ks vs] <;> rfl
theorem zipK_len : ∀ (ks : List (List Nat)) (vs : List V), (zipK ks vs).length ≤ ks.length
  | [], _ => Nat.le_refl _
  | _ :: _, [] => Nat.zero_le _
  | k :: ks, v :: vs => by
    rw [zipK, List.length_cons, List.length_cons]
    exact Nat.succ_le_succ (zipK_len ks vs)
theorem merge_dsr {K : PySem.W.Frag} {H : Hp} {R : Addr} {B : Addr → Prop} : ∀ {ks : List (List Nat)} {vs : List V} {ds : List D} {kvs : List (Key × V)} {es : List (List Nat × D)}, ks.length = vs.length → Rs K H R B vs ds → DSR K H R B kvs es →
    DSR K H R B (mergeK kvs (zipK ks vs)) (putAll es (ks.zip ds))
  | [], vs, ds, kvs, es, hl, r, h => by
    match vs, hl with
    | [], _ => cases r; exact h
  | k :: ks, [], ds, kvs, es, hl, r, h => by cases hl
  | k :: ks, v :: vs, [], kvs, es, hl, r, h => by cases r
  | k :: ks, v :: vs, d :: ds, kvs, es, hl, r, h => by
    have h2 := h.put (k := k) r.split.1
    show DSR K H R B (mergeK (putK kvs (Sum.inr (ST k)) v) (zipK ks vs)) (putAll (putS es k d) (ks.zip ds))
    exact merge_dsr (Nat.succ.inj hl) r.split.2 h2

section
variable {X : L2.Cx} {T : Tb} {E : XK} {f : EnD → M D} {fs : List (EnD → M D)} {e : Expr} {pos : Pos} {σ : L2.St} {H : Hp} {Q : VK}
/-- a written key -/
def tKy (X : L2.Cx) (k : List Nat) : TE := fun σ H Q => KN X.K H → Q (.str (ST k)) H
abbrev trsOf (X : L2.Cx) (T : Tb) (ps : List (List Nat × (EnD → M D))) : List (TE × TE) := ps.map fun p => (tKy X p.1, tD (yx X T E0) p.2)
structure PPD (X : L2.Cx) (T : Tb) (pos : Pos) (keys : List (Option Expr)) (vals : List Expr) (ps : List (List Nat × (EnD → M D))) : Prop where
  run : PPs X pos keys vals (trsOf X T ps)
  kl : keys.length = ps.length
  vl : vals.length = ps.length
  some : keys.all (·.isSome) = true
theorem ppd_nil : PPD X T pos [] [] [] := ⟨pps_nil, rfl, rfl, rfl⟩
theorem ppd_cons {x : Str} {z : List Nat} {j : Nat} {kp : Pos} {keys : List (Option Expr)} {vals : List Expr} {ps : List (List Nat × (EnD → M D))} (hx : x = ST z) (hv : PE X e (tD (yx X T E0) f)) (h : PPD X T pos keys vals ps) : PPD X T pos (some (.Constant (.str x) j kp) :: keys) (e :: vals) ((z, f) :: ps) := by
  subst hx
  refine ⟨pps_cons (PE_imp (PE_kn pe_str) fun σ H Q q => ?_) hv h.run, by rw [List.length_cons, List.length_cons, h.kl], by rw [List.length_cons, List.length_cons, h.vl], by rw [List.all_cons, h.some]; rfl⟩
  exact q
theorem pairs_read {p : Addr} : ∀ {ps : List (List Nat × (EnD → M D))} {g : G} {ρ : EnD} {z : S} {H : Hp} {Q : List (V × V) → Hp → Prop}, StR (yx X T E0) g H σ ρ z →
    After (yx X T E0) g (evsN (ps.map (·.2)) ρ z) (fun ds z' => ∀ vs H', StR (yx X T E0) g H' σ ρ z' → Ext g.R H H' → Rs X.K H' g.R (bad g σ ρ) vs ds → Q ((ps.map fun p => V.str (ST p.1)).zip vs) H') →
    tPairs (trsOf X T ps) σ H Q
  | [], g, ρ, z, H, Q, st, h => h.pure [] H st .refl .nil
  | (k, f) :: ps, g, ρ, z, H, Q, st, h => by
    intro kn
    refine ⟨g, ρ, z, st, (After.ne (Y' := yx X T E0) (g' := g) h.bind).imp fun d z1 _ h1 v H1 st1 e1 r1 => ?_⟩
    refine pairs_read (p := p) st1 (h1.bind.imp fun ds z2 _ h2 vs H2 st2 e2 r2 => ?_)
    exact h2.pure (v :: vs) H2 st2 (e1.trans e2) (Rs.cons (r1.mono (e2.rd st1.badR)) r2)
/-- what has just been made may be locked for good -/
theorem PE_plock {e : Expr} {t : TE} (h : PE X e t) : PE X e fun σ H Q => t σ H fun v H' => Q v H' ∨ ∃ d u, H' d = some u ∧ Mut (some u) ∧ ∀ od, Q v (upd H' d (.frz od u)) := ⟨fun pins s σ H Q I q => by
  refine thn (h.run pins s σ H _ I q) fun v s1 ⟨x, H1, I1, r1, q1⟩ => ?_
  rcases q1 with q1 | ⟨d, u, hd, mu, q1⟩
  · exact ⟨x, H1, I1, r1, q1⟩
  · obtain ⟨od, I2⟩ := I1.lock hd mu
    exact ⟨x, _, I2, r1, q1 od⟩⟩
theorem pu_disp {keys : List (Option Expr)} {vals : List Expr} {k0 : List Nat × (EnD → M D)} {ps : List (List Nat × (EnD → M D))} (h : PPD X T pos keys vals (k0 :: ps)) (h15 : (k0 :: ps).length ≤ 15 := by decide) : PE X (.Dict keys vals pos) (tD (yx X T E) (eDisp (k0 :: ps))) :=
  PE_imp (PE_plock (pe_disp h.run h.some (by rw [h.kl, h.vl]) (by intro e; have := h.kl; rw [e] at this; cases this) (by rw [h.kl]; exact h15))) fun σ H Q hh => by
    obtain ⟨g, ρ, z, st, a⟩ := hh
    intro p hp
    have kn0 : ∀ kn : KN X.K (upd H p (.dK [])), X.K.lookup p = none := fun kn => kn p (by rw [upd_same]; exact fun z => by cases z)
    have hpR : p ≠ g.R := fun e => st.badDom st.badR (by rw [← e]; exact hp)
    obtain ⟨k, f⟩ := k0
    show tKy X k σ _ _
    intro kn
    have hK := kn0 kn
    have wg : Wo X.K T (gb (gd g p) σ ρ) (upd H p (.dK [])) z := by
      obtain ⟨⟨SA, s1, s2, s3⟩, ht, hb, hd, hk⟩ := st.wo
      have hS : SA ≠ p := fun e => by
        rcases s2 with s2 | ⟨o, its, nn, s2, _⟩
        · exact rd_some s2 (by rw [e]; exact hp)
        · rw [e, hK] at s2; cases s2
      have w := st.wo.new (o := .dK []) hp
      obtain ⟨_, ht', hb', hd', hk', hl', hi', hz'⟩ := w
      refine ⟨⟨SA, fun q => ?_, ?_, by rw [upd_ne (ne_of_none s3 hp)]; exact s3⟩, ht', .inl (.inl st.gR), fun a ha => ?_, fun a ha => ?_, hl', hi', fun a fs e => (st.wo.dsk a fs e).guard hp hK st.badR fun b q => by have q : bad (gd g p) σ ρ b := q; rw [bad_gd] at q; exact q⟩
      · have q : bad (gd g p) σ ρ SA := q
        rw [bad_gd] at q
        exact q.elim s1 hS
      · rcases s2 with (q | ⟨ob, q⟩) | q
        · exact .inl (.inl (by rw [upd_ne hS]; exact q))
        · exact .inl (.inr ⟨ob, by rw [upd_ne hS]; exact q⟩)
        · exact .inr q
      · have ha : bad (gd g p) σ ρ a := ha
        rw [bad_gd] at ha
        rcases ha with ha | rfl
        · exact hd' a ha
        · rw [upd_same]; exact fun z => by cases z
      · have ha : bad (gd g p) σ ρ a := ha
        rw [bad_gd] at ha
        rcases ha with ha | rfl
        · exact hk' a ha
        · exact hK
    have sg := (st.guard (H := upd H p (.dK [])) (z' := z) hp hK (.new hp) wg).chE (E' := E0)
    have all := pairs_read (X := X) (T := T) (σ := σ) (p := p) (ps := (k, f) :: ps) (Q := fun pr H2 => H2 p = some (.dK []) ∧ ∃ kvs : List (Key × V), pr = kvs.map (fun kv => (kV kv.1, kv.2)) ∧ kvs.length ≤ 15 ∧ (Q (.ref p) (upd H2 p (.dK (mergeK [] kvs))) ∨ ∃ d u, upd H2 p (.dK (mergeK [] kvs)) d = some u ∧ Mut (some u) ∧ ∀ od, Q (.ref p) (upd (upd H2 p (.dK (mergeK [] kvs))) d (.frz od u)))) sg ?_
    · exact all kn
    have fin : After (yx X T E) g (evsN (((k, f) :: ps).map (·.2)) ρ z) (fun ds z' => ds.length = (((k, f) :: ps).map (·.2)).length ∧ ∀ v H', StR (yx X T E) g H' σ ρ z' → Ext g.R H H' → R1 X.K H' g.R (bad g σ ρ) v (.dS (putAll [] ((((k, f) :: ps).map (·.1)).zip ds))) → Q v H') :=
      a.bind.imp fun ds z' he q => ⟨evsN_len he, q.pure⟩
    have ne : ∀ {fs : List (EnD → M D)} {ρ : EnD} {z : S}, After (yx X T E0) (gd g p) (evsN fs ρ z) (fun _ _ => True) ∨ evsN fs ρ z = .bad := by
      intro fs
      induction fs with
      | nil => intro ρ z; exact .inl trivial
      | cons f fs ih =>
        intro ρ z
        unfold evsN mbind
        unfold mne
        cases e : f ρ z with
        | ok d z1 =>
          simp only
          rcases ih (ρ := ρ) (z := z1) with q | q
          · cases e2 : evsN fs ρ z1 with
            | ok ds z2 => left; simp only [mbind, e2, mpure]; trivial
            | exc x z2 => 
              rw [e2] at q
              left
              simp only [mbind, e2]
              exact q
            | bad => right; simp only [mbind, e2]
          · right; simp only [mbind, q]
        | exc x z1 => right; rfl
        | bad => right; rfl
    cases e : evsN (((k, f) :: ps).map (·.2)) ρ z with
    | bad => rw [e] at fin; exact fin.elim
    | exc x z' =>
      rcases ne (fs := ((k, f) :: ps).map (·.2)) (ρ := ρ) (z := z) with q | q
      · rw [e] at q; exact q
      · rw [e] at q; cases q
    | ok ds z' =>
      rw [e] at fin
      obtain ⟨hl, fin⟩ := fin
      intro vs H2 st2 ex2 r2
      have hD : H2 p = some (.dK []) := ex2.keep p _ upd_same hpR trivial
      refine ⟨hD, zipK (((k, f) :: ps).map (·.1)) vs, ?_, ?_, ?_⟩
      · rw [zipK_kv, List.map_map]; rfl
      · refine Nat.le_trans (zipK_len _ _) ?_
        rw [List.length_map]
        exact h15
      · refine .inr ⟨p, _, upd_same, trivial, fun od => ?_⟩
        rw [upd_upd]
        have bD : bad (gd g p) σ ρ p := by rw [bad_gd]; exact .inr rfl
        have w3 := st2.wo.up (o' := .frz od (.dK (mergeK [] (zipK (((k, f) :: ps).map (·.1)) vs)))) bD hpR hD trivial
        have ex3 : Ext g.R H (upd H2 p (.frz od (.dK (mergeK [] (zipK (((k, f) :: ps).map (·.1)) vs))))) := ((Ext.new hp).trans ex2).upNew hp
        have s3 : StR (yx X T E) g (upd H2 p (.frz od (.dK (mergeK [] (zipK (((k, f) :: ps).map (·.1)) vs))))) σ ρ z' := st.step ex3 (w3.less (fun a h => bad_le h) st.badR)
        refine fin _ _ s3 ex3 ?_
        have r3 : Rs X.K H2 g.R (fun a => bad g σ ρ a ∨ a = p) vs ds := by
          have := r2
          rw [bad_gd] at this
          exact this
        have r4 := Rs.mono (RdLe.up (o := .frz od (.dK (mergeK [] (zipK (((k, f) :: ps).map (·.1)) vs)))) (Dd := p) (.inr rfl)) r3
        have dsr := (merge_dsr (ks := ((k, f) :: ps).map (·.1)) (kvs := []) (es := []) (by rw [r2.length, hl, List.length_map, List.length_map]) r4 .nil).out
        exact .dS upd_same (st.fresh hp) dsr.1 (dsr.2.less fun a h => .inl h) .nil
end
end DL
set_option Elab.async false
set_option linter.all false
set_option maxRecDepth 100000
set_option maxHeartbeats 1000000
/-! DL16: the drawn row. -/
namespace DL
open PySem PySem.Spec PyProof.Rows L2

def rowGet : Int → S → Option Int
  | 1, z => some z.place
  | 2, z => some z.seed
  | 3, z => some z.rest
  | _, _ => none
def rowPut : Int → Int → S → Option S
  | 1, n, z => some { z with place := n }
  | 2, n, z => some { z with seed := n }
  | 3, n, z => some { z with rest := n }
  | _, _, _ => none
def isRow (ρ : EnD) (i : Nat) : Bool := match ρ[i]? with
  | some (some (.val .row)) => true
  | _ => false
def eRowG (i : Nat) (k : Int) : EnD → M D := fun ρ z => if isRow ρ i then (match rowGet k z with | some n => .ok (.int n) z | none => .bad) else .bad
def eRowL (i : Nat) : EnD → M D := fun ρ z => if isRow ρ i then .ok (.int z.script.length) z else .bad
def eRowC (i : Nat) (f : EnD → M D) : EnD → M D := fun ρ => mbind (fun z => if isRow ρ i then .ok z.script z else .bad) fun sc => mbind (f ρ) fun d => mbind (mopt (asI d)) fun n => mopt ((atI sc n).map D.int)
def sRow (i : Nat) (k : Int) (f : EnD → M D) : SM := fun ρ z => obind (f ρ z) fun d z' => if isRow ρ i then (match (asI d).bind fun n => rowPut k n z' with | some z2 => .nx ρ z2 | none => .bad) else .bad
section
variable {X : L2.Cx} {T : Tb} {E : XK} {f : EnD → M D} {e : Expr} {pos px pc ps p : Pos} {σ : L2.St} {H : Hp} {Q : VK} {i j : Nat} {x : Str} {k : Int}
theorem isRow_val {Y : Yx} {g : G} {ρ : EnD} {z : S} (st : StR Y g H σ ρ z) (h : isRow ρ i = true) : σ[i]? = some (some (.ref g.R)) := by
  unfold isRow at h
  split at h
  · rename_i h1
    obtain ⟨v, h2, h3⟩ := st.val i _ h1
    cases h3 with
    | atom a _ => cases a; exact h2
  · cases h
theorem row_get {z : S} {SA : Addr} {n : Int} (h : rowGet k z = some n) : atI [V.ref SA, .int z.place, .int z.seed, .int z.rest] k = some (.int n) := by
  unfold rowGet at h
  split at h <;> cases h <;> rfl
theorem pu_rowG (hN : X.N[i]? = some x) (hv : Vis X.env.scope x) (hd : (x == ("__debug__" : Str)) = false := by decide) (hcd : (x == ("__classdict__" : Str)) = false := by decide) (hs : PlainIx (.Constant (.int k) j pc) := by intro _ _; rfl) :
    PE X (.Subscript (.Name x px) (.Constant (.int k) j pc) pos) (tD (yx X T E) (eRowG i k)) := PE_imp (pe_ix ix_list (pe_var hN hv hd hcd) pe_int hs) fun σ H Q h => by
  obtain ⟨g, ρ, z, st, h⟩ := h
  unfold eRowG at h
  cases c : isRow ρ i with
  | false => rw [c] at h; exact h.elim
  | true =>
    rw [c] at h
    simp only [if_true] at h
    cases e : rowGet k z with
    | none => rw [e] at h; exact h.elim
    | some n =>
      rw [e] at h
      obtain ⟨SA, h1, h2, h3⟩ := st.wo.row
      exact ⟨_, isRow_val st c, g.R, _, k, _, rfl, rfl, .inl (.inl h3), row_get e, h _ H st .refl (.atom .int .nil)⟩
theorem pu_rowL (hg : Gl X "len") (hm : X.mg "len" = none) (hN : X.N[i]? = some x) (hv : Vis X.env.scope x) (hd : (x == ("__debug__" : Str)) = false := by decide) (hcd : (x == ("__classdict__" : Str)) = false := by decide)
    (he : starEach [.Subscript (.Name x px) (.Constant (.int 0) j pc) ps] X.env = (false, eval (.Subscript (.Name x px) (.Constant (.int 0) j pc) ps) X.env) :: starEach [] X.env := by rfl) (hpl : (backTo pos (starEach [] X.env)).any (·.1) = false := by rfl) :
    PE X (.Call (.Name "len" p) [.Subscript (.Name x px) (.Constant (.int 0) j pc) ps] [] pos) (tD (yx X T E) (eRowL i)) :=
  PE_imp (pe_callB call_len hg hm PySem.boot_len (pa_cons (pe_ix ix_list (pe_var hN hv hd hcd) pe_int (fun _ _ => rfl)) pa_nil he) (by decide) (by decide) he hpl) fun σ H Q h => by
    obtain ⟨g, ρ, z, st, h⟩ := h
    unfold eRowL at h
    cases c : isRow ρ i with
    | false => rw [c] at h; exact h.elim
    | true =>
      rw [c] at h
      simp only [if_true] at h
      obtain ⟨SA, h1, h2, h3⟩ := st.wo.row
      refine ⟨_, isRow_val st c, g.R, _, 0, .ref SA, rfl, rfl, .inl (.inl h3), rfl, _, (z.script.map V.int).length, rfl, .inl ⟨_, h2, rfl⟩, ?_⟩
      rw [List.length_map]
      exact h _ H st .refl (.atom .int .nil)
theorem atI_map {xs : List Int} {n c : Int} (h : atI xs n = some c) : atI (xs.map V.int) n = some (.int c) := by
  unfold atI at h ⊢
  rw [List.length_map]
  cases e : ixN xs.length n with
  | none => rw [e] at h; cases h
  | some j =>
    rw [e] at h
    show (xs.map V.int)[j]? = some (.int c)
    rw [List.getElem?_map, show xs[j]? = some c from h] <;> rfl
theorem pu_rowC (hN : X.N[i]? = some x) (hv : Vis X.env.scope x) (he : PE X e (tD (yx X T E) f)) (hs : PlainIx e := by intro _ _; rfl) (hd : (x == ("__debug__" : Str)) = false := by decide) (hcd : (x == ("__classdict__" : Str)) = false := by decide) :
    PE X (.Subscript (.Subscript (.Name x px) (.Constant (.int 0) j pc) ps) e pos) (tD (yx X T E) (eRowC i f)) := PE_imp (pe_ix ix_list (pe_ix ix_list (pe_var hN hv hd hcd) pe_int (fun _ _ => rfl)) he hs) fun σ H Q h => by
  obtain ⟨g, ρ, z, st, h⟩ := h
  have h := h.bind
  cases c : isRow ρ i with
  | false => rw [c] at h; exact h.elim
  | true =>
    rw [c] at h
    obtain ⟨SA, h1, h2, h3⟩ := st.wo.row
    refine ⟨_, isRow_val st c, g.R, _, 0, .ref SA, rfl, rfl, .inl (.inl h3), rfl, g, ρ, z, st, (After.bind h).imp fun d z1 _ q v H1 st1 e1 r1 => ?_⟩
    obtain ⟨n, hn, q⟩ := q.bind.opt
    obtain rfl : d = .int n := by cases d <;> simp_all [asI]
    cases r1.int
    obtain ⟨r, hr, q⟩ := q.opt
    obtain ⟨cc, hc, rfl⟩ := Option.map_eq_some_iff.mp hr
    exact ⟨SA, _, n, _, rfl, rfl, (e1.rd st.badR).sqL h1 h2, atI_map hc, q _ H1 st1 e1 (.atom .int .nil)⟩
theorem row_put {z z2 : S} {SA : Addr} {n : Int} (h : rowPut k n z = some z2) : ∃ j, ixN 4 k = some j ∧ [V.ref SA, .int z.place, .int z.seed, .int z.rest].set j (.int n) = [V.ref SA, .int z2.place, .int z2.seed, .int z2.rest] ∧ z2.script = z.script ∧ z2.dk = z.dk := by
  unfold rowPut at h
  split at h <;> cases h
  · exact ⟨1, rfl, rfl, rfl, rfl⟩
  · exact ⟨2, rfl, rfl, rfl, rfl⟩
  · exact ⟨3, rfl, rfl, rfl, rfl⟩
theorem pu_rowS (hN : X.N[i]? = some x) (hv : Vis X.env.scope x) (he : PE X e (tD (yx X T E) f)) (hs : swapsWithSole [.Subscript (.Name x px) (.Constant (.int k) j pc) ps] e pos.line X.env = pure false := by rfl) (hd : (x == ("__debug__" : Str)) = false := by decide) (hcd : (x == ("__classdict__" : Str)) = false := by decide) :
    PS X (.Assign [.Subscript (.Name x px) (.Constant (.int k) j pc) ps] e pos) (sD (yx X T E) (sRow i k f)) := PS_imp (ps_asg he (pg_sub (pe_var hN hv hd hcd) pe_int set_list) hs) fun D σ H h => by
  obtain ⟨g, ρ, z, st, o⟩ := h
  refine ⟨g, ρ, z, st, o.bind.imp fun d z1 _ q v H1 st1 e1 r1 => ?_⟩
  cases c : isRow ρ i with
  | false => rw [c] at q; exact q.elim
  | true =>
    rw [c] at q
    simp only [if_true] at q
    cases e : (asI d).bind fun n => rowPut k n z1 with
    | none => rw [e] at q; exact q.elim
    | some z2 =>
      rw [e] at q
      obtain ⟨n, hn, hp⟩ := Option.bind_eq_some_iff.mp e
      obtain rfl : d = .int n := by cases d <;> simp_all [asI]
      cases r1.int
      obtain ⟨SA, h1, h2, h3⟩ := st1.wo.row
      obtain ⟨j', hj, hl, hsc, hdk⟩ := row_put (SA := SA) hp
      refine ⟨.ref g.R, isRow_val st1 c, g.R, _, k, j', rfl, rfl, h3, hj, ?_⟩
      rw [hl]
      have nR : ∀ a, Own σ ρ a → a ≠ g.R := fun a h => st1.ownNe h
      have ex : Ext g.R H1 (upd H1 g.R (.lst [.ref SA, .int z2.place, .int z2.seed, .int z2.rest])) :=
        ⟨fun a u q h1 h2 => by rw [upd_ne h1]; exact q, fun a h => by
          by_cases e : a = g.R
          · rw [e, upd_same]; exact fun z => by cases z
          · rw [upd_ne e]; exact h, fun x xs q => by
          have h3 : H1 g.R = _ := h3
          rw [h3] at q
          cases q
          exact ⟨_, upd_same⟩⟩
      have wo : Wo X.K T (gb g σ ρ) (upd H1 g.R (.lst [.ref SA, .int z2.place, .int z2.seed, .int z2.rest])) z2 := by
        refine ⟨⟨SA, h1, ?_, upd_same⟩, fun P hP => ?_, st1.badR, fun a ha => ex.dom a (st1.wo.dom a ha), st1.wo.kn, tabs_keep st1.wo.lam (fun q _ ps e => by rw [upd_ne (fun z => by rw [z, h3] at e; cases e)]; exact e) (fun c φ e => by rw [upd_ne (fun z => by rw [z, h3] at e; cases e)]; exact e), st1.wo.dis, fun a fs e => (st1.wo.dsk a fs (by rw [← hdk]; exact e)).mono (ex.rd st1.badR) fun C dx fv q => by rw [upd_ne (fun z => by rw [z, h3] at q; cases q)]; exact q⟩
        · rw [hsc]; exact (ex.rd st1.badR).sqL h1 h2
        · obtain ⟨ps, q1, q2⟩ := st1.wo.tabs P hP
          have ne : P ≠ g.R := fun e => by
            rw [e, h3] at q1
            cases q1
          exact ⟨ps, by rw [upd_ne ne]; exact q1, q2⟩
      exact q _ _ (st1.step ex wo) (Stp.ext (e1.trans ex))
end
end DL
set_option Elab.async false
set_option linter.all false
set_option maxRecDepth 100000
set_option maxHeartbeats 1000000
/-! DL17: small words; a def called by a local name that a written dict hands out. -/
namespace DL
open PySem PySem.Spec PyProof.Rows L2

section
variable {X : L2.Cx} {T : Tb} {E : XK} {a b : Expr} {t u : EnD → M Bool} {pos : Pos} {x : Str}
theorem passD : Passes CX0 X E := fun _ _ _ _ _ _ _ h => h.elim
theorem pw_oneO (ha : PT X a (ttD (yx X T E) t)) : PW X (.BoolOp .Or [a] pos) (ttD (yx X T E) t) := pw_or1 ha
theorem pu_gc {v : V} {d : D} (hg : Gl X x) (h : ∃ w, X.mg x = some w ∧ RelV v w) (ha : ∀ R, Atom R v d) (hd : (x == ("__debug__" : Str)) = false := by decide) : PE X (.Name x pos) (tD (yx X T E) (eC d)) := by
  obtain ⟨w, hm, r⟩ := h
  exact pu_gA hg hm r ha hd
theorem pu_gW {d : D} (hg : Gl X x) (h : ∃ w v, X.mg x = some w ∧ RelV v w ∧ WR X.K v d) (hd : (x == ("__debug__" : Str)) = false := by decide) : PE X (.Name x pos) (tD (yx X T E) (eC d)) := by
  obtain ⟨w, v, hm, r, hw⟩ := h
  exact pu_gT hg hm r hw hd
theorem pus_bad {sts : List Stmt} : PSs X sts (sD (yx X T E) sBad) := PSs_imp pss_never fun D σ H h => by
  obtain ⟨g, ρ, z, st, o⟩ := h
  exact o
end

section
variable {X : L2.Cx} {T : Tb} {E : XK} {fi : EnD → M (List D)} {t : EnD → M Bool} {f : EnD → M D} {elt iter tg : Expr} {ifs : List Expr} {scope : Scope} {pos spos py : Pos} {x y : Str} {i j : Nat}
/-- name = [.. for ..] -/
theorem pu_setLc (hc : X.calm = true) (hN : X.N.Nodup) (hy : X.N[j]? = some y) (hyl : X.env.scope.names.lookup y = some .local) (hsw : swapsWith (.ListComp elt [⟨tg, iter, ifs, 0⟩] scope pos) (some (.Name y py)) spos.line X.env = pure true)
    (hi : PI X tg iter (tiD (yx X T E) fi)) (ok : BlkOk X.N X.env.scope scope [(x, i)])
    (hg : ∀ (s : Shared) (H : Hp) (C : Addr) (cl : List (Str × Addr)) (fp : List Addr), PG (X.blk s H scope (compEnvC scope cl C X.env) fp) tg (gName i)) (ht : ∀ (s : Shared) (H : Hp) (C : Addr) (cl : List (Str × Addr)) (fp : List Addr), PTs (X.blk s H scope (compEnvC scope cl C X.env) fp) ifs (ttD (yx X T E0) t))
    (he : ∀ (s : Shared) (H : Hp) (C : Addr) (cl : List (Str × Addr)) (fp : List Addr), PE (X.blk s H scope (compEnvC scope cl C X.env) fp) elt (tD (yx X T E0) f)) (hs : ∀ x, foldedSetIterable iter X.env x = pure x := by intro _; rfl) :
    PS X (.Assign [.Name y py] (.ListComp elt [⟨tg, iter, ifs, 0⟩] scope pos) spos) (sD (yx X T E) (sSet j (eLc i fi t f))) :=
  PS_imp (ps_setLc (own := [(x, i)]) hc hN hy hyl hsw hi ok hg (fun s H C cl fp => PTs_kn (ht s H C cl fp)) (fun s H C cl fp => PE_kn (he s H C cl fp)) hs) fun D σ H h => by
    obtain ⟨g, ρ, z, st, o⟩ := h
    refine lc_read (Q := fun x H1 => gName j x σ H1 D.nx) ⟨g, ρ, z, st, o.bind.imp fun d z1 _ h1 v H1 st1 e1 r1 => ?_⟩
    cases co : ownAt ρ j with
    | true => rw [co] at h1; exact h1.elim
    | false =>
      rw [co] at h1
      exact h1 _ H1 (st1.setv co r1) ((Stp.ext e1).trans (.setv co trivial))
end

/-! ### told = table[way]; return told(row) -/
def lookF (tbl : List (List Nat × (List D → M D))) (w : List Nat) : Option (List D → M D) := (tbl.find? fun p => decide (p.1 = w)).map (·.2)
def toldD (tbl : List (List Nat × (List D → M D))) : List D → M D
  | [.str w, r] => match lookF tbl w with
    | some F => mne (F [r])
    | none => mbad
  | _ => mbad
section
variable {X : L2.Cx} {k i : Nat} {x : Str} {e : Expr} {es : List Expr} {t : TA} {p pos : Pos}
theorem pe_callM (hr : Room k X.A) (hN : X.N[i]? = some x) (hv : Vis X.env.scope x) (ha : PA X (e :: es) t) (hdb : (x == ("__debug__" : Str)) = false := by decide) (hcd : (x == ("__classdict__" : Str)) = false := by decide)
    (he : starEach (e :: es) X.env = (false, eval e X.env) :: starEach es X.env := by rfl) (hpl : (backTo pos (starEach es X.env)).any (·.1) = false := by rfl) :
    PE X (.Call (.Name x p) (e :: es) [] pos) (fun σ H Q => ∃ f sp, σ[i]? = some (some (.ref f)) ∧ Held X.prog X.w X.K X.mg X.base k f sp ∧ t σ H fun vs H1 => sp vs H1 Q (fun _ _ _ => False)) :=
  ⟨fun pins s σ H Q I ⟨f, sp, hs, hh, ht⟩ => (pe_callA (i := i) (S := fun g => if g = f then some sp else none) (fun g sp' hS => by
    by_cases c : g = f
    · rw [if_pos c] at hS
      cases hS
      rw [c]; exact hh
    · rw [if_neg c] at hS
      cases hS) hr hN hv ha hdb hcd he hpl).run pins s σ H Q I ⟨f, sp, hs, if_pos rfl, ht⟩⟩
end
section
variable {P : Program} {w : World} {K : PySem.W.Frag} {mg : Str → Option Value} {base : Heap} {T : Tb}
/-- each entry of the table stands in the written dict, its def keeps its promise -/
structure Tbl (P : Program) (w : World) (K : PySem.W.Frag) (mg : Str → Option Value) (base : Heap) (T : Tb) (k : Nat) (a : Addr) (tbl : List (List Nat × (List D → M D))) : Prop where
  at_ : ∀ z F, lookF tbl z = some F → ∃ f, KDct K w a (ST z) (.ref f) ∧ Held P w K mg base k f (spD K T mg 1 F)
theorem ok_told {x qual g : Str} {st : Stmt} {f ad : Addr} {fd : FuncData} {k : Nat} {n1 n2 n3 : Str} {tbl : List (List Nat × (List D → M D))} {q1 q2 q3 q4 q5 q6 q7 q8 q9 : Pos} (F : Fun K x qual st f fd) (S : FnScope [n1, n2, n3] [n1, n2] (defScope st))
    (hb : defBody st = [.Assign [.Name n3 q1] (.Subscript (.Name g q2) (.Name n1 q3) q4) q5, .Return (some (.Call (.Name n3 q6) [.Name n2 q7] [] q8)) q9])
    (hg : (∀ (cdv : Value) (A : Around) (outer : List Env) (s : Shared) (H : Hp) (E : XK), Gl (cxOf CX0 P w K mg base [n1, n2, n3] qual (defScope st) f cdv A outer s H E).nox g)) (hm : mg g = some (.ref ad)) (hT : Tbl P w K mg base T k ad tbl) (d1 : (n1 == ("__debug__" : Str)) = false) (c1 : (n1 == ("__classdict__" : Str)) = false) (d2 : (n2 == ("__debug__" : Str)) = false) (c2 : (n2 == ("__classdict__" : Str)) = false)
    (d3 : (n3 == ("__debug__" : Str)) = false) (c3 : (n3 == ("__classdict__" : Str)) = false) (dg : (g == ("__debug__" : Str)) = false) (l1 : (defScope st).names.lookup n1 = some .local) (l2 : (defScope st).names.lookup n2 = some .local) (l3 : (defScope st).names.lookup n3 = some .local) :
    FnOk P w K mg base CX0 (k + 1) f fd [n1, n2] (spD K T mg 2 (toldD tbl)) := by
  refine F.ok S (fun vs H Q E h => h.1) fun cdv A outer s H vs Q E hr h => ?_
  rw [hb]
  refine ⟨_, pss_cons (ps_set (i := 2) S.nd rfl (.inl l3) (pe_ix ix_kdict (pe_glob (hg cdv A outer s H E) hm (v := .ref ad) rfl dg) (pe_var (i := 0) rfl (.inl l1) d1 c1) (fun _ _ => rfl)))
    (pss_one (ps_ret (pe_callM (i := 2) (k := k) hr rfl (.inl l3) (pa_cons (pe_var (i := 1) rfl (.inl l2) d2 c2) pa_nil) d3 c3))), ?_⟩
  obtain ⟨hn, G, ds, z, h0, wo, rs, a⟩ := h
  unfold toldD at a
  split at a
  · rename_i wz r
    cases e : lookF tbl wz with
    | none => rw [e] at a; exact a.elim
    | some FF =>
      rw [e] at a
      obtain ⟨ff, kd, hh⟩ := hT.at_ wz FF e
      obtain ⟨v1, v2, rfl⟩ : ∃ v1 v2, vs = [v1, v2] := by
        match vs, hn with
        | [v1, v2], _ => exact ⟨v1, v2, rfl⟩
      cases rs.split.1.str
      have r2 := rs.split.2
      exact ⟨_, rfl, ad, ST wz, .ref ff, rfl, rfl, kd, ff, _, rfl, hh, v2, rfl, rfl, G, [r], z, h0, wo, r2, After.ne (Y' := ⟨K, T, mg, fun _ _ _ => False⟩) (g' := G) a⟩
  · exact a.elim
end

end DL
set_option Elab.async false
set_option linter.all false
set_option maxRecDepth 100000
set_option maxHeartbeats 1000000
/-! DL18: a law whose first statement lays the drawn row. -/
namespace DL
open PySem PySem.Spec PyProof.Rows L2

def rhoL (n : Nat) : EnD := none :: some (.val .row) :: List.replicate (n - 2) none
def spLaw (K : PySem.W.Frag) (cs : List (Addr × Addr)) : Sp := fun vs H Q _ => ∃ (a : Addr) (ns : List Int), vs = [.ref a] ∧ SqL K H a (ns.map V.int) ∧ ns.length ≤ 63 ∧ (∀ z ∈ ns, Builtin.Int.intBits z ≤ 1048576) ∧ (∀ p ∈ cs, H p.2 = some (.tbl #[])) ∧ ∀ H', Q (.bl true) H'
section
variable {P : Program} {w : World} {K : PySem.W.Frag} {mg : Str → Option Value} {base : Heap}
theorem tbl_of {T : Tb} {k : Nat} {a : Addr} {tbl : List (List Nat × (List D → M D))} (h : ∀ p ∈ tbl, ∃ f, KDct K w a (ST p.1) (.ref f) ∧ Held P w K mg base k f (spD K T mg 1 p.2)) : Tbl P w K mg base T k a tbl := by
  refine ⟨fun z F e => ?_⟩
  unfold lookF at e
  obtain ⟨p, hp, rfl⟩ := Option.map_eq_some_iff.mp e
  have h1 := List.mem_of_find?_eq_some hp
  have h2 := List.find?_some hp
  have h3 : p.1 = z := of_decide_eq_true h2
  rw [← h3]
  exact h p h1
theorem PSs_kn {X : L2.Cx} {e : List Stmt} {t : TS} (h : PSs X e t) : PSs X e fun D σ H => KN X.K H → t D σ H := ⟨fun pins s σ H D I q => h.run pins s σ H D I (q (kn_of I))⟩
theorem ok_lawD {x qual n1 n2 : Str} {st : Stmt} {f : Addr} {fd : FuncData} {N : List Str} {k : Nat} {B : SM} {seed : Int} {rest : List Stmt} {cs : List (Addr × Addr)} {T : Tb} {q1 q2 q3 q4 q5 q6 q7 : Pos} {j1 j2 j3 : Nat} (F : Fun K x qual st f fd) (S : FnScope (n1 :: n2 :: N) [n1] (defScope st))
    (hb : defBody st = .Assign [.Name n2 q1] (.List [.Name n1 q2, .Constant (.int 0) j1 q3, .Constant (.int seed) j2 q4, .Constant (.int 0) j3 q5] q6) q7 :: rest)
    (l1 : (defScope st).names.lookup n1 = some .local) (l2 : (defScope st).names.lookup n2 = some .local) (d1 : (n1 == ("__debug__" : Str)) = false) (c1 : (n1 == ("__classdict__" : Str)) = false)
    (hsw : ∀ (cdv : Value) (A : Around) (outer : List Env) (s : Shared) (H : Hp) (E : XK), swapsWith (.List [.Name n1 q2, .Constant (.int 0) j1 q3, .Constant (.int seed) j2 q4, .Constant (.int 0) j3 q5] q6) (some (.Name n2 q1)) q7.line (cxOf CX0 P w K mg base (n1 :: n2 :: N) qual (defScope st) f cdv A outer s H E).nox.env = pure false)
    (der : ∀ (cdv : Value) (A : Around) (outer : List Env) (s : Shared) (H : Hp) (E : XK), Room k (A.deeper (envOfC qual (defScope st) s.heap.objs.size f cdv)) → fd.code = cdv →
      PSs (cxOf CX0 P w K mg base (n1 :: n2 :: N) qual (defScope st) f cdv A outer s H E).nox rest (sD ⟨K, T, mg, fun _ _ _ => False⟩ B))
    (hT : ∀ P ∈ T, P ∈ cs.map (·.2)) (hL : ∀ p ∈ T.ls, p.1 ∈ cs.map (·.2)) (hD : ∀ p ∈ T.ls, ¬ p.1 ∈ T)
    (hm : ∀ ns : List Int, ns.length ≤ 63 → (∀ z ∈ ns, Builtin.Int.intBits z ≤ 1048576) → ∃ z', B (rhoL (N.length + 2)) ⟨ns, 0, seed, 0, none⟩ = .rt (.bl true) z') :
    FnOk P w K mg base CX0 (k + 1) f fd [n1] (spLaw K cs) := by
  obtain ⟨oc, od, kV, doc, pm, an, cdv, ct, osl, rfl, lk, hcd⟩ := F.ex
  refine fn_of lk hcd S (fun vs H Q E h => by obtain ⟨a, ns, rfl, _⟩ := h; rfl) fun A outer s H vs Q E hr h => ?_
  obtain ⟨a, ns, rfl, hS, hl, hbits, htb, q⟩ := h
  have hd := der cdv A outer s H E hr rfl
  refine ⟨_, PSs.nox (t := tSeq (tAsg (tLst (tCons (tVar 0) (tCons (tC (.int 0)) (tCons (tC (.int seed)) (tCons (tC (.int 0)) tNil))))) (gName 1)) fun D σ H => KN K H → sD ⟨K, T, mg, fun _ _ _ => False⟩ B D σ H) ?_, ?_⟩
  · show PSs _ (defBody st) _
    rw [hb]
    exact pss_cons (ps_set (i := 1) S.nd rfl (.inl l2) (pe_lst (pa_cons (pe_var (i := 0) rfl (.inl l1) d1 c1) (pa_cons pe_int (pa_cons pe_int (pa_cons pe_int pa_nil))))) (hsw cdv A outer s H E)) (PSs_kn hd)
  · refine ⟨.ref a, rfl, small_len (n := 4) (by decide), fun p hp kn => ?_⟩
    have hK : K.lookup p = none := kn p (by rw [upd_same]; exact fun z => by cases z)
    have ha : a ≠ p := fun e => by
      rcases hS with hS | ⟨o, its, n, hS, _⟩
      · exact rd_some hS (by rw [e]; exact hp)
      · rw [e, hK] at hS; cases hS
    have hS' : SqL K (upd H p (.lst [.ref a, .int 0, .int seed, .int 0])) a (ns.map V.int) := by
      rcases hS with (hS | ⟨o, hS⟩) | hS
      · exact .inl (.inl (by rw [upd_ne ha]; exact hS))
      · exact .inl (.inr ⟨o, by rw [upd_ne ha]; exact hS⟩)
      · exact .inr hS
    have noOwn : ∀ (i : Nat) (d : D), (rhoL (N.length + 2))[i]? ≠ some (some (.own d)) := fun i d e => by
      unfold rhoL at e
      match i, e with
      | 0, e => cases e
      | 1, e => cases e
      | i + 2, e =>
        simp only [List.getElem?_cons_succ, List.getElem?_replicate] at e
        split at e <;> cases e
    refine ⟨⟨p, fun x => x = p, upd H p (.lst [.ref a, .int 0, .int seed, .int 0])⟩, rhoL (N.length + 2), ⟨ns, 0, seed, 0, none⟩, ?_, ?_⟩
    · have be : ∀ σ : L2.St, bad ⟨p, fun x => x = p, upd H p (.lst [.ref a, .int 0, .int seed, .int 0])⟩ σ (rhoL (N.length + 2)) = fun x => x = p := fun σ => by
        funext b
        apply propext
        exact ⟨fun h => h.elim id fun ⟨i, d, h1, _⟩ => absurd h1 (noOwn i d), .inl⟩
      refine ⟨?_, rfl, ?_, fun i d h => ?_, fun i d h => absurd h (noOwn i d), fun i j d e b h => absurd h (noOwn i d), .refl⟩
      · unfold gb
        rw [be]
        refine ⟨⟨a, ha, hS', upd_same⟩, fun P' hP => ?_, rfl, fun b hb => ?_, fun b hb => ?_, fun q hq => ?_, hD, fun a fs e => by cases e⟩
        · obtain ⟨c, hc, rfl⟩ := List.mem_map.mp (hT P' hP)
          have h1 := htb c hc
          exact ⟨#[], by rw [upd_ne (ne_of_none h1 hp)]; exact h1, by first | exact trivial | simp [TriplesOk] | exact True.intro⟩
        · have hb : b = p := hb
          rw [hb, upd_same]
          exact fun z => by cases z
        · have hb : b = p := hb
          rw [hb]
          exact hK
        · obtain ⟨c, hc, e⟩ := List.mem_map.mp (hL q hq)
          have h1 := htb c hc
          exact LamX.TabS.nil (by rw [← e, upd_ne (ne_of_none h1 hp)]; exact h1)
      · show ((L2.start (n1 :: n2 :: N) [V.ref a]).set 1 _).length = _
        unfold L2.start rhoL
        simp
      · rw [be]
        unfold rhoL at h
        match i, h with
        | 0, h => cases h
        | 1, h =>
          cases h
          exact ⟨.ref p, rfl, .atom .row .nil⟩
        | i + 2, h =>
          simp only [List.getElem?_cons_succ, List.getElem?_replicate] at h
          split at h <;> cases h
    · obtain ⟨z', e⟩ := hm ns hl hbits
      rw [e]
      intro v H' w' ex r
      cases r.bl
      exact q H'
end
end DL
set_option Elab.async false
set_option linter.all false
set_option maxRecDepth 100000
set_option maxHeartbeats 1000000
/-! DL19: what a run gives, by what must hold behind it. -/
namespace DL
open PySem PySem.Spec PyProof.Rows L2

def WP {α : Type} (m : M α) (z : S) (Q : α → S → Prop) : Prop := match m z with
  | .ok a z' => Q a z'
  | _ => False
def WS (o : Out) (Qn : EnD → S → Prop) (Qr : D → S → Prop) : Prop := match o with
  | .nx ρ z => Qn ρ z
  | .rt d z => Qr d z
  | _ => False
section
variable {α β : Type} {z : S} {ρ : EnD} {i j : Nat} {d : D} {Qn : EnD → S → Prop} {Qr : D → S → Prop}
theorem WP_ok {m : M α} {a : α} {z' : S} {Q : α → S → Prop} (h : m z = .ok a z') : WP m z Q = Q a z' := by unfold WP; rw [h]
theorem WP_of {m : M α} {a : α} (h : WP m z fun b z' => b = a ∧ z' = z) : m z = .ok a z := by
  unfold WP at h
  cases e : m z with
  | ok b z' => rw [e] at h; obtain ⟨rfl, rfl⟩ := h; rfl
  | exc x z' => rw [e] at h; exact h.elim
  | bad => rw [e] at h; exact h.elim
theorem WP_pure_of {m : M α} {a : α} (h : ∀ z, WP m z fun b z' => b = a ∧ z' = z) : m = mpure a := funext fun z => WP_of (h z)
theorem WP_get {m : M α} {Q : α → S → Prop} (h : WP m z Q) : ∃ a z', m z = .ok a z' ∧ Q a z' := by
  unfold WP at h
  cases e : m z with
  | ok b z' => rw [e] at h; exact ⟨b, z', rfl, h⟩
  | exc x z' => rw [e] at h; exact h.elim
  | bad => rw [e] at h; exact h.elim
theorem WP_mono {m : M α} {Q Q' : α → S → Prop} (h : WP m z Q) (i : ∀ a z', Q a z' → Q' a z') : WP m z Q' := by
  obtain ⟨a, z', e, q⟩ := WP_get h
  rw [WP_ok e]
  exact i _ _ q
@[simp] theorem WP_bind {m : M α} {k : α → M β} {Q : β → S → Prop} : WP (mbind m k) z Q = WP m z fun a z' => WP (k a) z' Q := by
  unfold WP mbind
  cases m z <;> rfl
@[simp] theorem WP_pure {a : α} {Q : α → S → Prop} : WP (mpure a) z Q = Q a z := rfl
@[simp] theorem WP_some {a : α} {Q : α → S → Prop} : WP (mopt (some a)) z Q = Q a z := rfl
@[simp] theorem WP_bad {Q : α → S → Prop} : WP (mbad : M α) z Q = False := rfl
@[simp] theorem WP_none {Q : α → S → Prop} : WP (mopt (none : Option α)) z Q = False := rfl
theorem WP_ite {c : Prop} [Decidable c] {m m' : M α} {Q : α → S → Prop} : WP (if c then m else m') z Q = if c then WP m z Q else WP m' z Q := by
  split <;> rfl
theorem WP_ne {m : M α} {Q : α → S → Prop} : WP (mne m) z Q = WP m z Q := by
  unfold WP mne
  cases m z <;> rfl
/-! expressions -/
@[simp] theorem eV_zero : eV 0 (some (.val d) :: ρ) = mpure d := rfl
@[simp] theorem eV_succ {x : Option Sl} : eV (i + 1) (x :: ρ) = eV i ρ := rfl
@[simp] theorem eC_ev : eC d ρ = mpure d := rfl
@[simp] theorem e1_ev {F : D → M D} {f : EnD → M D} {Q : D → S → Prop} : WP (e1 F f ρ) z Q = WP (f ρ) z fun x z' => WP (F x) z' Q := WP_bind
@[simp] theorem e2_ev {F : D → D → M D} {f g : EnD → M D} {Q : D → S → Prop} : WP (e2 F f g ρ) z Q = WP (f ρ) z fun x z' => WP (g ρ) z' fun y z'' => WP (F x y) z'' Q := by
  unfold e2; rw [WP_bind]; congr; funext x z'; exact WP_bind
@[simp] theorem op2_ev {F : D → D → Option D} {x y : D} : op2 F x y = mopt (F x y) := rfl
@[simp] theorem op1_ev {F : D → Option D} {x : D} : op1 F x = mopt (F x) := rfl
@[simp] theorem eIf_ev {t : EnD → M Bool} {f g : EnD → M D} {Q : D → S → Prop} : WP (eIf t f g ρ) z Q = WP (t ρ) z fun b z' => if b then WP (f ρ) z' Q else WP (g ρ) z' Q := by
  unfold eIf; rw [WP_bind]; congr; funext x z'; exact WP_ite
@[simp] theorem tV_ev {f : EnD → M D} {Q : Bool → S → Prop} : WP (tV f ρ) z Q = WP (f ρ) z fun d z' => WP (mopt (asB d)) z' Q := WP_bind
@[simp] theorem tNot_ev {t : EnD → M Bool} {Q : Bool → S → Prop} : WP (tNot t ρ) z Q = WP (t ρ) z fun b z' => Q (!b) z' := WP_bind
@[simp] theorem tAnd_ev {t u : EnD → M Bool} {Q : Bool → S → Prop} : WP (tAnd t u ρ) z Q = WP (t ρ) z fun b z' => if b then WP (u ρ) z' Q else Q false z' := by
  unfold tAnd; rw [WP_bind]; congr; funext x z'; exact WP_ite
@[simp] theorem tOr_ev {t u : EnD → M Bool} {Q : Bool → S → Prop} : WP (tOr t u ρ) z Q = WP (t ρ) z fun b z' => if b then Q true z' else WP (u ρ) z' Q := by
  unfold tOr; rw [WP_bind]; congr; funext x z'; exact WP_ite
@[simp] theorem eAnd_ev {f g : EnD → M D} {Q : D → S → Prop} : WP (eAnd f g ρ) z Q = WP (f ρ) z fun d z' => WP (mopt (asB d)) z' fun b z'' => if b then WP (g ρ) z'' Q else Q (.bl false) z'' := by
  unfold eAnd; rw [WP_bind, WP_bind]; congr; funext x z'; congr; funext b z''; exact WP_ite
@[simp] theorem eOr_ev {f g : EnD → M D} {Q : D → S → Prop} : WP (eOr f g ρ) z Q = WP (f ρ) z fun d z' => WP (mopt (asB d)) z' fun b z'' => if b then Q (.bl true) z'' else WP (g ρ) z'' Q := by
  unfold eOr; rw [WP_bind, WP_bind]; congr; funext x z'; congr; funext b z''; exact WP_ite
@[simp] theorem eNot_ev {f : EnD → M D} {Q : D → S → Prop} : WP (eNot f ρ) z Q = WP (f ρ) z fun d z' => WP (mopt (asB d)) z' fun b z'' => Q (.bl (!b)) z'' := by
  unfold eNot; rw [WP_bind, WP_bind]; rfl
@[simp] theorem evs_nil {Q : List D → S → Prop} : WP (evs [] ρ) z Q = Q [] z := rfl
@[simp] theorem evs_cons {f : EnD → M D} {fs : List (EnD → M D)} {Q : List D → S → Prop} : WP (evs (f :: fs) ρ) z Q = WP (f ρ) z fun d z' => WP (evs fs ρ) z' fun ds z'' => Q (d :: ds) z'' := by
  show WP (mbind _ _) z Q = _
  rw [WP_bind]; congr; funext x z'; rw [WP_bind]; rfl
@[simp] theorem evsN_nil {Q : List D → S → Prop} : WP (evsN [] ρ) z Q = Q [] z := rfl
@[simp] theorem evsN_cons {f : EnD → M D} {fs : List (EnD → M D)} {Q : List D → S → Prop} : WP (evsN (f :: fs) ρ) z Q = WP (f ρ) z fun d z' => WP (evsN fs ρ) z' fun ds z'' => Q (d :: ds) z'' := by
  show WP (mbind _ _) z Q = _
  rw [WP_bind, WP_ne]; congr; funext x z'; rw [WP_bind]; rfl
@[simp] theorem eTup_ev {fs : List (EnD → M D)} {Q : D → S → Prop} : WP (eTup fs ρ) z Q = WP (evs fs ρ) z fun ds z' => Q (.tup ds) z' := WP_bind
@[simp] theorem eLst_ev {fs : List (EnD → M D)} {Q : D → S → Prop} : WP (eLst fs ρ) z Q = WP (evs fs ρ) z fun ds z' => Q (.lst ds) z' := WP_bind
@[simp] theorem eCall_ev {F : List D → M D} {fs : List (EnD → M D)} {Q : D → S → Prop} : WP (eCall F fs ρ) z Q = WP (evs fs ρ) z fun ds z' => WP (F ds) z' Q := WP_bind
@[simp] theorem eDisp_ev {ps : List (List Nat × (EnD → M D))} {Q : D → S → Prop} : WP (eDisp ps ρ) z Q = WP (evsN (ps.map (·.2)) ρ) z fun ds z' => Q (.dS (putAll [] ((ps.map (·.1)).zip ds))) z' := WP_bind
@[simp] theorem eSl_ev {f : EnD → M D} {lo hi : EnD → M (Option Int)} {Q : D → S → Prop} : WP (eSl f lo hi ρ) z Q = WP (f ρ) z fun d z1 => WP (lo ρ) z1 fun l z2 => WP (hi ρ) z2 fun h z3 => WP (mopt (slD d l h)) z3 Q := by
  unfold eSl; rw [WP_bind]; congr; funext x z'; rw [WP_bind]; congr; funext y z''; exact WP_bind
@[simp] theorem pNo_ev {Q : Option Int → S → Prop} : WP (pNo ρ) z Q = Q none z := rfl
@[simp] theorem pSo_ev {f : EnD → M D} {Q : Option Int → S → Prop} : WP (pSo f ρ) z Q = WP (f ρ) z fun d z' => WP (mopt ((asI d).map some)) z' Q := WP_bind
@[simp] theorem eM1_ev {F : List Nat → D → Option D} {f g : EnD → M D} {Q : D → S → Prop} : WP (eM1 F f g ρ) z Q = WP (f ρ) z fun d z1 => WP (mopt (asS d)) z1 fun s z2 => WP (g ρ) z2 fun e z3 => WP (mopt (F s e)) z3 Q := by
  unfold eM1; rw [WP_bind]; congr; funext x z'; rw [WP_bind]; congr; funext y z''; exact WP_bind
@[simp] theorem eTCount_ev {f g : EnD → M D} {Q : D → S → Prop} : WP (eTCount f g ρ) z Q = WP (f ρ) z fun d z1 => WP (mopt (asT d)) z1 fun s z2 => WP (g ρ) z2 fun e z3 => WP (mopt (countT (.tup s) e)) z3 Q := by
  unfold eTCount; rw [WP_bind]; congr; funext x z'; rw [WP_bind]; congr; funext y z''; exact WP_bind
@[simp] theorem eChain_ev {F F' : D → D → M D} {fa fb fc : EnD → M D} {Q : D → S → Prop} : WP (eChain F F' fa fb fc ρ) z Q = WP (fa ρ) z fun x z1 => WP (fb ρ) z1 fun y z2 => WP (F x y) z2 fun r z3 => WP (mopt (asB r)) z3 fun k z4 => if k then WP (fc ρ) z4 fun w z5 => WP (F' y w) z5 Q else Q (.bl false) z4 := by
  unfold eChain; rw [WP_bind]; congr; funext x z1; rw [WP_bind]; congr; funext y z2; rw [WP_bind]; congr; funext r z3; rw [WP_bind]; congr; funext k z4; rw [WP_ite, WP_bind]; rfl
@[simp] theorem iS_ev {f : EnD → M D} {Q : List D → S → Prop} : WP (iS f ρ) z Q = WP (f ρ) z fun d z' => WP (mopt (iterD d)) z' Q := WP_bind
@[simp] theorem iEn_ev {f : EnD → M D} {Q : List (D × D) → S → Prop} : WP (iEn f ρ) z Q = WP (f ρ) z fun d z' => WP (mopt ((asT d).map (enumD 0))) z' Q := WP_bind
@[simp] theorem iR1_ev {f : EnD → M D} {Q : List D → S → Prop} : WP (iR1 f ρ) z Q = WP (f ρ) z fun d z' => WP (mopt (asI d)) z' fun j z'' => if -(2 ^ 62) ≤ j ∧ j < 2 ^ 62 then Q (rangeD 0 j.toNat) z'' else False := by
  unfold iR1; rw [WP_bind]; congr; funext x z1; rw [WP_bind]; congr; funext y z2; rw [WP_ite]; rfl
@[simp] theorem iR2_ev {f g : EnD → M D} {Q : List D → S → Prop} : WP (iR2 f g ρ) z Q = WP (f ρ) z fun d z' => WP (mopt (asI d)) z' fun i z'' => WP (g ρ) z'' fun e z3 => WP (mopt (asI e)) z3 fun j z4 => if -(2 ^ 62) ≤ i ∧ i < 2 ^ 62 ∧ -(2 ^ 62) ≤ j ∧ j < 2 ^ 62 then Q (rangeD i (j - i).toNat) z4 else False := by
  unfold iR2; rw [WP_bind]; congr; funext x z1; rw [WP_bind]; congr; funext y z2; rw [WP_bind]; congr; funext v z3; rw [WP_bind]; congr; funext u z4; rw [WP_ite]; rfl
@[simp] theorem eLc_ev {xs : EnD → M (List D)} {t : EnD → M Bool} {f : EnD → M D} {Q : D → S → Prop} : WP (eLc i xs t f ρ) z Q = WP (xs ρ) z fun l z' => if l.length ≤ sizeLine ∧ ownAt ρ i = false then WP (compL i t f l ρ) z' fun ds z'' => Q (.lst ds) z'' else False := by
  unfold eLc; rw [WP_bind]; congr; funext x z1; rw [WP_ite, WP_bind]; rfl
@[simp] theorem eTupG_ev {xs : EnD → M (List D)} {t : EnD → M Bool} {f : EnD → M D} {Q : D → S → Prop} : WP (eTupG i xs t f ρ) z Q = WP (xs ρ) z fun l z' => if l.length ≤ sizeLine ∧ ownAt ρ i = false then WP (compL i t f l ρ) z' fun ds z'' => Q (.tup ds) z'' else False := by
  unfold eTupG; rw [WP_bind]; congr; funext x z1; rw [WP_ite, WP_bind]; rfl
@[simp] theorem compL_nil {t : EnD → M Bool} {f : EnD → M D} {Q : List D → S → Prop} : WP (compL i t f [] ρ) z Q = Q [] z := rfl
theorem compL_cons {t : EnD → M Bool} {f : EnD → M D} {x : D} {xs : List D} {Q : List D → S → Prop} : WP (compL i t f (x :: xs) ρ) z Q = WP (t ((ρ.set i none).set i (some (.val x)))) z fun b z' =>
    if b then WP (f ((ρ.set i none).set i (some (.val x)))) z' fun d z'' => WP (compL i t f xs ρ) z'' fun ds z3 => Q (d :: ds) z3 else WP (compL i t f xs ρ) z' Q := by
  show WP (mbind _ _) z Q = _
  rw [WP_bind, WP_ne]; congr; funext b z'
  rw [WP_ite, WP_bind, WP_ne]
  congr; funext d z''; rw [WP_bind]; rfl
@[simp] theorem tYes_ev {Q : Bool → S → Prop} : WP (tYesD ρ) z Q = Q true z := rfl
@[simp] theorem isRow_zero : isRow (some (.val .row) :: ρ) 0 = true := rfl
@[simp] theorem isRow_succ {x : Option Sl} : isRow (x :: ρ) (i + 1) = isRow ρ i := rfl
@[simp] theorem ownAt_nil : ownAt [] i = false := by cases i <;> rfl
@[simp] theorem ownAt_zv : ownAt (some (.val d) :: ρ) 0 = false := rfl
@[simp] theorem ownAt_zn : ownAt (none :: ρ) 0 = false := rfl
@[simp] theorem ownAt_succ {x : Option Sl} : ownAt (x :: ρ) (i + 1) = ownAt ρ i := rfl
@[simp] theorem eRowG_ev {k : Int} {Q : D → S → Prop} (h : isRow ρ i = true) : WP (eRowG i k ρ) z Q = WP (mopt (rowGet k z)) z fun n z' => Q (.int n) z' := by
  unfold WP eRowG mopt; simp only [h, if_true]; cases rowGet k z <;> rfl
@[simp] theorem eRowL_ev {Q : D → S → Prop} (h : isRow ρ i = true) : WP (eRowL i ρ) z Q = Q (.int z.script.length) z := by
  unfold WP eRowL; simp only [h, if_true]
@[simp] theorem eRowC_ev {f : EnD → M D} {Q : D → S → Prop} (h : isRow ρ i = true) : WP (eRowC i f ρ) z Q = WP (f ρ) z fun d z' => WP (mopt (asI d)) z' fun n z'' => WP (mopt ((atI z.script n).map D.int)) z'' Q := by
  unfold eRowC; rw [WP_bind]; rw [WP_ok (a := z.script) (z' := z) (by simp only [h, if_true])]; rw [WP_bind]; congr; funext d z'; rw [WP_bind]
/-! statements -/
@[simp] theorem run_ev {n : Nat} {b : SM} {ds : List D} {Q : D → S → Prop} : WP (runD n b ds) z Q = WS (b (rho0 n ds) z) (fun _ z' => Q .non z') Q := by
  unfold WP WS runD; cases b (rho0 n ds) z <;> rfl
@[simp] theorem sNil_ev : WS (sNil ρ z) Qn Qr = Qn ρ z := rfl
@[simp] theorem sSeq_ev {a b : SM} : WS (sSeq a b ρ z) Qn Qr = WS (a ρ z) (fun ρ' z' => WS (b ρ' z') Qn Qr) Qr := by
  unfold WS sSeq; cases a ρ z <;> rfl
theorem ob_ev {r : Res α} {k : α → S → Out} : WS (obind r k) Qn Qr = (match r with | .ok a z' => WS (k a z') Qn Qr | _ => False) := by
  cases r <;> rfl
@[simp] theorem sSet_ev {f : EnD → M D} : WS (sSet i f ρ z) Qn Qr = WP (f ρ) z fun d z' => if ownAt ρ i then False else Qn (ρ.set i (some (.val d))) z' := by
  unfold sSet; rw [ob_ev]; unfold WP; cases f ρ z <;> (try rfl); simp only; split <;> rfl
@[simp] theorem sIf_ev {t : EnD → M Bool} {a b : SM} : WS (sIf t a b ρ z) Qn Qr = WP (t ρ) z fun c z' => if c then WS (a ρ z') Qn Qr else WS (b ρ z') Qn Qr := by
  unfold sIf; rw [ob_ev]; unfold WP; cases t ρ z <;> (try rfl); simp only; split <;> rfl
@[simp] theorem sRet_ev {f : EnD → M D} : WS (sRet f ρ z) Qn Qr = WP (f ρ) z Qr := by
  unfold sRet; rw [ob_ev]; unfold WP; cases f ρ z <;> rfl
@[simp] theorem sRetN_ev : WS (sRetN ρ z) Qn Qr = Qr .non z := rfl
@[simp] theorem sEx_ev {f : EnD → M D} : WS (sEx f ρ z) Qn Qr = WP (f ρ) z fun _ z' => Qn ρ z' := by
  unfold sEx; rw [ob_ev]; unfold WP; cases f ρ z <;> rfl
@[simp] theorem sBad_ev : WS (sBad ρ z) Qn Qr = False := rfl
@[simp] theorem sRow_ev {k : Int} {f : EnD → M D} (h : isRow ρ i = true) : WS (sRow i k f ρ z) Qn Qr = WP (f ρ) z fun d z' => WP (mopt (asI d)) z' fun n z'' => WP (mopt (rowPut k n z')) z'' fun z3 _ => Qn ρ z3 := by
  unfold sRow; rw [ob_ev]; unfold WP; cases f ρ z <;> (try rfl)
  rename_i d z'
  simp only [h, if_true, mopt]
  cases d <;> (try rfl)
  simp only [asI, Option.bind_some]
  cases rowPut k _ z' <;> rfl
@[simp] theorem sPar_ev {f g : EnD → M D} : WS (sPar i j f g ρ z) Qn Qr = WP (f ρ) z fun a z' => WP (g ρ) z' fun b z'' => if ownAt ρ i || ownAt ρ j then False else Qn ((ρ.set i (some (.val a))).set j (some (.val b))) z'' := by
  unfold sPar; rw [ob_ev]
  have e1 : (WP (f ρ) z fun a z' => WP (g ρ) z' fun b z'' => if ownAt ρ i || ownAt ρ j then False else Qn ((ρ.set i (some (.val a))).set j (some (.val b))) z'') =
      WP (evs [f, g] ρ) z (fun ds z' => match ds with | [a, b] => if ownAt ρ i || ownAt ρ j then False else Qn ((ρ.set i (some (.val a))).set j (some (.val b))) z' | _ => False) := by
    rw [evs_cons]; congr; funext a z'; rw [evs_cons]; congr
  rw [e1]
  unfold WP
  cases evs [f, g] ρ z <;> (try rfl)
  rename_i ds z'
  match ds with
  | [] => rfl
  | [a] => rfl
  | [a, b] => simp only; split <;> rfl
  | a :: b :: c :: r => rfl
@[simp] theorem sFor_ev {xs : EnD → M (List D)} {b : SM} : WS (sFor i xs b ρ z) Qn Qr = WP (xs ρ) z fun l z' => WS (forD i b l ρ z') Qn Qr := by
  unfold sFor; rw [ob_ev]; unfold WP; cases xs ρ z <;> rfl
@[simp] theorem forD_nil {b : SM} : WS (forD i b [] ρ z) Qn Qr = Qn ρ z := rfl
/-- a loop whose body neither breaks nor continues -/
theorem forD_cons {b : SM} {x : D} {xs : List D} (h : ownAt ρ i = false) (hq : WS (b (ρ.set i (some (.val x))) z) (fun ρ' z' => WS (forD i b xs ρ' z') Qn Qr) Qr) : WS (forD i b (x :: xs) ρ z) Qn Qr := by
  unfold forD
  rw [h]
  simp only [Bool.false_eq_true, if_false]
  unfold WS at hq ⊢
  cases e : b (ρ.set i (some (.val x))) z <;> rw [e] at hq <;> first | exact hq | exact hq.elim
@[simp] theorem sForP_ev {xs : EnD → M (List (D × D))} {b : SM} : WS (sForP i j xs b ρ z) Qn Qr = WP (xs ρ) z fun l z' => WS (forP i j b l ρ z') Qn Qr := by
  unfold sForP; rw [ob_ev]; unfold WP; cases xs ρ z <;> rfl
@[simp] theorem forP_nil {b : SM} : WS (forP i j b [] ρ z) Qn Qr = Qn ρ z := rfl
theorem forP_cons {b : SM} {x y : D} {xs : List (D × D)} (h : ownAt ρ i = false) (h2 : ownAt ρ j = false) (hq : WS (b ((ρ.set i (some (.val x))).set j (some (.val y))) z) (fun ρ' z' => WS (forP i j b xs ρ' z') Qn Qr) Qr) : WS (forP i j b ((x, y) :: xs) ρ z) Qn Qr := by
  unfold forP
  rw [h, h2]
  simp only [Bool.false_eq_true, if_false, Bool.or_self]
  unfold WS at hq ⊢
  cases e : b ((ρ.set i (some (.val x))).set j (some (.val y))) z <;> rw [e] at hq <;> first | exact hq | exact hq.elim
@[simp] theorem eRowG_z {k : Int} {Q : D → S → Prop} : WP (eRowG 0 k (some (.val .row) :: ρ)) z Q = WP (mopt (rowGet k z)) z fun n z' => Q (.int n) z' := eRowG_ev rfl
@[simp] theorem eRowL_z {Q : D → S → Prop} : WP (eRowL 0 (some (.val .row) :: ρ)) z Q = Q (.int z.script.length) z := eRowL_ev rfl
@[simp] theorem eRowC_z {f : EnD → M D} {Q : D → S → Prop} : WP (eRowC 0 f (some (.val .row) :: ρ)) z Q = WP (f (some (.val .row) :: ρ)) z fun d z' => WP (mopt (asI d)) z' fun n z'' => WP (mopt ((atI z.script n).map D.int)) z'' Q := eRowC_ev rfl
@[simp] theorem sRow_z {k : Int} {f : EnD → M D} : WS (sRow 0 k f (some (.val .row) :: ρ) z) Qn Qr = WP (f (some (.val .row) :: ρ)) z fun d z' => WP (mopt (asI d)) z' fun n z'' => WP (mopt (rowPut k n z')) z'' fun z3 _ => Qn (some (.val .row) :: ρ) z3 := sRow_ev rfl
@[simp] theorem rowGet1 : rowGet 1 z = some z.place := rfl
@[simp] theorem rowGet2 : rowGet 2 z = some z.seed := rfl
@[simp] theorem rowGet3 : rowGet 3 z = some z.rest := rfl
@[simp] theorem rowPut1 {n : Int} : rowPut 1 n z = some { z with place := n } := rfl
@[simp] theorem rowPut2 {n : Int} : rowPut 2 n z = some { z with seed := n } := rfl
@[simp] theorem rowPut3 {n : Int} : rowPut 3 n z = some { z with rest := n } := rfl
@[simp] theorem asB_bl {b : Bool} : asB (.bl b) = some b := rfl
@[simp] theorem asI_int {n : Int} : asI (.int n) = some n := rfl
@[simp] theorem asS_str {s : List Nat} : asS (.str s) = some s := rfl
@[simp] theorem asT_tup {s : List D} : asT (.tup s) = some s := rfl
@[simp] theorem intD_int {n : Int} : DL.intD (.int n) = some (.int n) := rfl
@[simp] theorem gtD_int {a b : Int} : gtD (.int a) (.int b) = some (.bl (decide (b < a))) := rfl
@[simp] theorem geD_int {a b : Int} : geD (.int a) (.int b) = some (.bl (decide (b ≤ a))) := rfl
@[simp] theorem ltD_int {a b : Int} : ltD (.int a) (.int b) = some (.bl (decide (a < b))) := rfl
@[simp] theorem leD_int {a b : Int} : leD (.int a) (.int b) = some (.bl (decide (a ≤ b))) := rfl
@[simp] theorem addD_int {a b : Int} : addD (.int a) (.int b) = some (.int (a + b)) := rfl
@[simp] theorem subD_int {a b : Int} : subD (.int a) (.int b) = some (.int (a - b)) := rfl
@[simp] theorem negD_int {a : Int} : negD (.int a) = some (.int (-a)) := rfl
@[simp] theorem modD_int {a b : Int} : modD (.int a) (.int b) = if 0 < b then some (.int (a % b)) else none := rfl
@[simp] theorem fdivD_int {a b : Int} : fdivD (.int a) (.int b) = if 0 < b ∧ b < 1073741824 then some (.int (a / b)) else none := rfl
@[simp] theorem lenD_tup {s : List D} : lenD (.tup s) = some (.int s.length) := rfl
@[simp] theorem lenD_lst {s : List D} : lenD (.lst s) = some (.int s.length) := rfl
@[simp] theorem tupD_lst {s : List D} : tupD (.lst s) = some (.tup s) := rfl
@[simp] theorem tupD_tup {s : List D} : tupD (.tup s) = some (.tup s) := rfl
@[simp] theorem iterD_str {s : List Nat} : iterD (.str s) = some (s.map fun c => .str [c]) := rfl
@[simp] theorem iterD_tup {s : List D} : iterD (.tup s) = some s := rfl
@[simp] theorem iterD_lst {s : List D} : iterD (.lst s) = some s := rfl
@[simp] theorem items_tup {s : List D} : items (.tup s) = some s := rfl
@[simp] theorem items_lst {s : List D} : items (.lst s) = some s := rfl
@[simp] theorem isD_non {d : D} : isD d .non = some (.bl (isNonD d)) := by cases d <;> rfl
@[simp] theorem isNotD_non {d : D} : isNotD d .non = some (.bl (!isNonD d)) := by unfold isNotD; rw [isD_non]; rfl
@[simp] theorem WP_ites {α : Type} {c : Prop} [Decidable c] {a : α} {Q : α → S → Prop} : WP (mopt (if c then some a else none)) z Q = (c ∧ Q a z) := by
  by_cases h : c
  · rw [if_pos h, WP_some]; simp [h]
  · rw [if_neg h, WP_none]; simp [h]
end
end DL
set_option Elab.async false
set_option linter.all false
set_option maxRecDepth 100000
set_option maxHeartbeats 1000000
/-! DL20: what the words give on texts, rows, slices. -/
namespace DL
open PySem PySem.Spec PyProof.Rows L2

def okS (z : List Nat) : Bool := z.all fun c => decide (c < 1114112)
theorem strOk_ST {z : List Nat} : PyData.strOk (ST z) = okS z := by
  unfold PyData.strOk okS ST
  rw [← Array.all_toList]
theorem shp_str {z : List Nat} (h : okS z = true) : shp (.str z) = some (.str (ST z)) := by
  unfold shp
  simp only [py, Option.bind_some]
  rw [if_pos]
  unfold SeqAt.shaped
  simp only [PyData.canLay0, strOk_ST, h, PyData.depth, Bool.true_and]
  rfl
@[simp] theorem shp_int {i : Int} : shp (.int i) = some (.int i) := rfl
@[simp] theorem shp_bl {i : Bool} : shp (.bl i) = some (.bool i) := rfl
@[simp] theorem shp_non : shp .non = some .none := rfl
theorem ST_beq {a b : List Nat} : (ST a == ST b) = decide (a = b) := by
  by_cases h : a = b
  · subst h; simp
  · rw [decide_eq_false h, beq_eq_false_iff_ne]
    exact fun e => h (ST_inj e)
@[simp] theorem eqv_str {a b : List Nat} : PyData.eqv (.str (ST a)) (.str (ST b)) = decide (a = b) := by
  show (ST a == ST b) = _
  exact ST_beq
theorem eqD_str {a b : List Nat} (ha : okS a = true) (hb : okS b = true) : eqD (.str a) (.str b) = some (.bl (decide (a = b))) := by
  unfold eqD
  rw [shp_str ha, shp_str hb]
  simp
theorem neD_str {a b : List Nat} (ha : okS a = true) (hb : okS b = true) : neD (.str a) (.str b) = some (.bl (!decide (a = b))) := by
  unfold neD
  rw [shp_str ha, shp_str hb]
  simp
@[simp] theorem eqD_int {a b : Int} : eqD (.int a) (.int b) = some (.bl (decide (a = b))) := by
  show some (D.bl (a == b)) = _
  rw [show (a == b) = decide (a = b) by by_cases h : a = b <;> simp [h]]
@[simp] theorem eqD_bl {a b : Bool} : eqD (.bl a) (.bl b) = some (.bl (a == b)) := rfl
@[simp] theorem neD_int {a b : Int} : neD (.int a) (.int b) = some (.bl (!decide (a = b))) := by
  show some (D.bl (!(a == b))) = _
  rw [show (a == b) = decide (a = b) by by_cases h : a = b <;> simp [h]]
/-! lists of texts -/
theorem py_strs : ∀ zs : List (List Nat), pyAll (zs.map .str) = some (zs.map fun z => .str (ST z))
  | [] => rfl
  | z :: zs => by
    rw [List.map_cons, pyAll, py, py_strs zs]
    rfl
theorem lay_strs : ∀ {zs : List (List Nat)}, (∀ z ∈ zs, okS z = true) → PyData.canLayAll0 (zs.map fun z => PyData.str (ST z)) = true
  | [], _ => rfl
  | z :: zs, h => by
    rw [List.map_cons, PyData.canLayAll0, lay_strs fun y hy => h y (List.mem_cons_of_mem _ hy), PyData.canLay0, strOk_ST, h z (List.mem_cons_self ..)]
    rfl
theorem dep_strs : ∀ zs : List (List Nat), PyData.depthAll (zs.map fun z => PyData.str (ST z)) = 0
  | [] => rfl
  | z :: zs => by
    rw [List.map_cons, PyData.depthAll, dep_strs zs]
    rfl
theorem shaped_strs {zs : List (List Nat)} (h : ∀ z ∈ zs, okS z = true) : SeqAt.shaped (.list (zs.map fun z => PyData.str (ST z))) = true := by
  unfold SeqAt.shaped
  simp only [PyData.canLay0, lay_strs h, PyData.depth, dep_strs]
  rfl
theorem shaped_strsT {zs : List (List Nat)} (h : ∀ z ∈ zs, okS z = true) : SeqAt.shaped (.tuple (zs.map fun z => PyData.str (ST z))) = true := by
  unfold SeqAt.shaped
  simp only [PyData.canLay0, lay_strs h, PyData.depth, dep_strs]
  rfl
theorem any_strs {w : List Nat} : ∀ zs : List (List Nat), ((zs.map fun z => PyData.str (ST z)).any fun z => PyData.eqv z (.str (ST w))) = zs.any fun z => decide (z = w)
  | [] => rfl
  | z :: zs => by
    rw [List.map_cons, List.any_cons, List.any_cons, any_strs zs, eqv_str]
theorem inD_gen {w : List Nat} {zs : List (List Nat)} {e : D} (he : items e = some (zs.map .str)) (hw : okS w = true) (h : ∀ z ∈ zs, okS z = true) : inD (.str w) e = some (.bl (zs.any fun z => decide (z = w))) := by
  unfold inD
  rw [he, shp_str hw]
  simp only [Option.bind_some, py_strs]
  rw [if_pos (shaped_strs h), any_strs]
theorem inD_tup {w : List Nat} {zs : List (List Nat)} (hw : okS w = true) (h : ∀ z ∈ zs, okS z = true) : inD (.str w) (.tup (zs.map .str)) = some (.bl (zs.any fun z => decide (z = w))) := inD_gen rfl hw h
theorem inD_lst {w : List Nat} {zs : List (List Nat)} (hw : okS w = true) (h : ∀ z ∈ zs, okS z = true) : inD (.str w) (.lst (zs.map .str)) = some (.bl (zs.any fun z => decide (z = w))) := inD_gen rfl hw h
theorem notInD_tup {w : List Nat} {zs : List (List Nat)} (hw : okS w = true) (h : ∀ z ∈ zs, okS z = true) : notInD (.str w) (.tup (zs.map .str)) = some (.bl (!zs.any fun z => decide (z = w))) := by
  unfold notInD
  rw [items_tup, shp_str hw]
  simp only [Option.bind_some, py_strs]
  rw [if_pos (shaped_strs h), any_strs]
/-! slices -/
theorem sIx_pos (n d : Nat) {i : Int} (h : 0 ≤ i) : HT.sIx n d (some i) = min i.toNat n := by
  obtain ⟨k, rfl⟩ := Int.eq_ofNat_of_zero_le h
  rw [HT.sIx_nat]
  rfl
theorem cutL_hi {α : Type} {xs : List α} {i : Int} (h : 0 ≤ i) : cutL xs none (some i) = xs.take i.toNat := by
  unfold cutL
  rw [HT.sIx_none, sIx_pos _ _ h, List.drop_zero, Nat.sub_zero]
  rw [List.take_eq_take_iff]
  omega
theorem cutL_lo {α : Type} {xs : List α} {i : Int} (h : 0 ≤ i) : cutL xs (some i) none = xs.drop i.toNat := by
  unfold cutL
  rw [HT.sIx_none, sIx_pos _ _ h]
  by_cases c : i.toNat ≤ xs.length
  · rw [Nat.min_eq_left c, List.take_of_length_le]
    rw [List.length_drop]
    omega
  · rw [Nat.min_eq_right (by omega), List.drop_of_length_le (Nat.le_refl _), List.drop_of_length_le (by omega), List.take_nil]
theorem cutL_last {α : Type} {xs : List α} {i : Int} (h : i < 0) (h2 : -(xs.length : Int) ≤ i) : cutL xs (some i) none = xs.drop (i + xs.length).toNat := by
  unfold cutL
  rw [HT.sIx_none]
  have e : HT.sIx xs.length 0 (some i) = (i + xs.length).toNat := by
    show (if i < 0 then (i + (xs.length : Int)).toNat else min i.toNat xs.length) = _
    rw [if_pos h]
  rw [e, List.take_of_length_le]
  rw [List.length_drop]
  omega
theorem slD_str {z : List Nat} {lo hi : Option Int} (h : z.length ≤ 16777216) : slD (.str z) lo hi = some (.str (cutL z lo hi)) := by
  show (if z.length ≤ sizeLine then some (D.str (cutL z lo hi)) else none) = _
  rw [if_pos (by rw [sizeLine_eq]; exact h)]
@[simp] theorem slD_tup {z : List D} {lo hi : Option Int} : slD (.tup z) lo hi = some (.tup (cutL z lo hi)) := rfl
@[simp] theorem ixA_tup {z : List D} {i : Int} : ixA (.tup z) (.int i) = atI z i := rfl
@[simp] theorem ixA_lst {z : List D} {i : Int} : ixA (.lst z) (.int i) = atI z i := rfl
@[simp] theorem ixA_dS {es : List (List Nat × D)} {k : List Nat} : ixA (.dS es) (.str k) = getS es k := rfl
theorem ixA_str {z : List Nat} {i : Int} (h : z.length ≤ 16777216) : ixA (.str z) (.int i) = (atI z i).map fun c => .str [c] := by
  show (if z.length ≤ sizeLine then _ else _) = _
  rw [if_pos (by rw [sizeLine_eq]; exact h)]
theorem lenD_str {z : List Nat} (h : z.length ≤ 16777216) : lenD (.str z) = some (.int z.length) := by
  show (if z.length ≤ sizeLine then some (D.int z.length) else none) = _
  rw [if_pos (by rw [sizeLine_eq]; exact h)]
theorem atI_pos {α : Type} {xs : List α} {i : Int} (h0 : 0 ≤ i) : atI xs i = xs[i.toNat]? := by
  unfold atI ixN
  rw [if_pos h0]
  split
  · rfl
  · rw [List.getElem?_eq_none (by omega)]; rfl
theorem atI_neg {α : Type} {xs : List α} {i : Int} (h0 : i < 0) (h1 : -(xs.length : Int) ≤ i) : atI xs i = xs[(i + xs.length).toNat]? := by
  unfold atI ixN
  rw [if_neg (by omega), if_pos h1]
  rfl
@[simp] theorem countS_one {z : List Nat} {c : Nat} : countS z (.str [c]) = some (.int (z.count c)) := rfl
/-! comprehensions without a state -/
theorem compL_pure {i : Nat} {t : EnD → M Bool} {f : EnD → M D} {tb : D → Bool} {fb : D → D} {ρ : EnD} : ∀ {xs : List D}, (∀ x ∈ xs, t ((ρ.set i none).set i (some (.val x))) = mpure (tb x) ∧ (tb x = true → f ((ρ.set i none).set i (some (.val x))) = mpure (fb x))) → compL i t f xs ρ = mpure ((xs.filter tb).map fb)
  | [], _ => rfl
  | x :: xs, h => by
    apply WP_pure_of
    intro z
    rw [compL_cons, (h x (List.mem_cons_self ..)).1, WP_pure, compL_pure fun y hy => h y (List.mem_cons_of_mem _ hy)]
    cases e : tb x with
    | true =>
      rw [if_pos rfl, (h x (List.mem_cons_self ..)).2 e, WP_pure, WP_pure, List.filter_cons_of_pos e]
      exact ⟨rfl, rfl⟩
    | false =>
      rw [if_neg Bool.false_ne_true, WP_pure, List.filter_cons_of_neg (by rw [e]; exact Bool.false_ne_true)]
      exact ⟨rfl, rfl⟩
theorem compL_range {i : Nat} {t : EnD → M Bool} {f : EnD → M D} {tb : Nat → Bool} {fb : Nat → D} {ρ : EnD} {lo : Int} {n : Nat}
    (h : ∀ k, k < n → t ((ρ.set i none).set i (some (.val (.int (lo + (k : Int)))))) = mpure (tb k) ∧ (tb k = true → f ((ρ.set i none).set i (some (.val (.int (lo + (k : Int)))))) = mpure (fb k))) : compL i t f (rangeD lo n) ρ = mpure (((List.range n).filter tb).map fb) := by
  have gen : ∀ ks : List Nat, (∀ k ∈ ks, k < n) → compL i t f (ks.map fun (k : Nat) => D.int (lo + (k : Int))) ρ = mpure ((ks.filter tb).map fb) := by
    intro ks
    induction ks with
    | nil => intro _; rfl
    | cons k ks ih =>
      intro hk
      have hk0 := h k (hk k (List.mem_cons_self ..))
      apply WP_pure_of
      intro z
      rw [List.map_cons, compL_cons, hk0.1, WP_pure, ih fun y hy => hk y (List.mem_cons_of_mem _ hy)]
      cases e : tb k with
      | true =>
        rw [if_pos rfl, hk0.2 e, WP_pure, WP_pure, List.filter_cons_of_pos e]
        exact ⟨rfl, rfl⟩
      | false =>
        rw [if_neg Bool.false_ne_true, WP_pure, List.filter_cons_of_neg (by rw [e]; exact Bool.false_ne_true)]
        exact ⟨rfl, rfl⟩
  exact gen _ fun k hk => List.mem_range.mp hk
@[simp] theorem okS_nil : okS [] = true := rfl
@[simp] theorem okS_cons {c : Nat} {z : List Nat} : okS (c :: z) = (decide (c < 1114112) && okS z) := rfl
theorem inD_lst2 {w a b : List Nat} (hw : okS w = true) (ha : okS a = true) (hb : okS b = true) : inD (.str w) (.lst [.str a, .str b]) = some (.bl (decide (a = w) || decide (b = w))) := by
  have h := inD_lst (w := w) (zs := [a, b]) hw (by simp [ha, hb])
  simpa using h
theorem py_ints : ∀ zs : List Int, pyAll (zs.map .int) = some (zs.map .int)
  | [] => rfl
  | z :: zs => by
    rw [List.map_cons, pyAll, py, py_ints zs]
    rfl
theorem shaped_ints {zs : List Int} : SeqAt.shaped (.list (zs.map PyData.int)) = true ∧ SeqAt.shaped (.tuple (zs.map PyData.int)) = true := by
  have h : PyData.canLayAll0 (zs.map PyData.int) = true ∧ PyData.depthAll (zs.map PyData.int) = 0 := by
    induction zs with
    | nil => exact ⟨rfl, rfl⟩
    | cons z zs ih =>
      rw [List.map_cons, PyData.canLayAll0, PyData.depthAll, ih.1, ih.2]
      exact And.intro rfl rfl
  unfold SeqAt.shaped
  simp only [PyData.canLay0, h.1, PyData.depth, h.2]
  exact ⟨rfl, rfl⟩
theorem any_ints {w : Int} : ∀ zs : List Int, ((zs.map PyData.int).any fun z => PyData.eqv z (.int w)) = zs.any fun z => decide (z = w)
  | [] => rfl
  | z :: zs => by
    rw [List.map_cons, List.any_cons, List.any_cons, any_ints zs]
    rw [show PyData.eqv (.int z) (.int w) = (z == w) from rfl, show (z == w) = decide (z = w) by by_cases h : z = w <;> simp [h]]
theorem inD_ints {w : Int} {zs : List Int} : inD (.int w) (.lst (zs.map .int)) = some (.bl (zs.any fun z => decide (z = w))) := by
  unfold inD
  rw [items_lst, shp_int]
  simp only [Option.bind_some, py_ints]
  rw [if_pos shaped_ints.1, any_ints]
theorem eqv_ints : ∀ a b : List Int, PyData.eqvAll (a.map .int) (b.map .int) = decide (a = b)
  | [], [] => rfl
  | [], _ :: _ => rfl
  | _ :: _, [] => rfl
  | x :: a, y :: b => by
    rw [List.map_cons, List.map_cons, PyData.eqvAll, eqv_ints a b, show PyData.eqv (.int x) (.int y) = (x == y) from rfl, show (x == y) = decide (x = y) by by_cases h : x = y <;> simp [h]]
    by_cases h1 : x = y <;> by_cases h2 : a = b <;> simp [h1, h2]
theorem shp_ints {a : List Int} : shp (.lst (a.map .int)) = some (.list (a.map .int)) ∧ shp (.tup (a.map .int)) = some (.tuple (a.map .int)) := by
  unfold shp
  simp only [py, py_ints, Option.map_some, Option.bind_some]
  exact ⟨if_pos shaped_ints.1, if_pos shaped_ints.2⟩
theorem eqD_ints {a b : List Int} : eqD (.lst (a.map .int)) (.lst (b.map .int)) = some (.bl (decide (a = b))) ∧ eqD (.tup (a.map .int)) (.tup (b.map .int)) = some (.bl (decide (a = b))) := by
  unfold eqD
  rw [shp_ints.1, shp_ints.1, shp_ints.2, shp_ints.2]
  simp only [Option.bind_some, PyData.eqv, eqv_ints]
  exact ⟨trivial, trivial⟩
theorem eqv_strs : ∀ a b : List (List Nat), PyData.eqvAll (a.map fun z => .str (ST z)) (b.map fun z => .str (ST z)) = decide (a = b)
  | [], [] => rfl
  | [], _ :: _ => rfl
  | _ :: _, [] => rfl
  | x :: a, y :: b => by
    rw [List.map_cons, List.map_cons, PyData.eqvAll, eqv_strs a b, eqv_str]
    by_cases h1 : x = y <;> by_cases h2 : a = b <;> simp [h1, h2]
theorem shp_strs {a : List (List Nat)} (h : ∀ z ∈ a, okS z = true) : shp (.tup (a.map .str)) = some (.tuple (a.map fun z => .str (ST z))) ∧ shp (.lst (a.map .str)) = some (.list (a.map fun z => .str (ST z))) := by
  unfold shp
  simp only [py, py_strs, Option.map_some, Option.bind_some]
  exact ⟨if_pos (shaped_strsT h), if_pos (shaped_strs h)⟩
theorem eqD_strs {a b : List (List Nat)} (ha : ∀ z ∈ a, okS z = true) (hb : ∀ z ∈ b, okS z = true) : eqD (.tup (a.map .str)) (.tup (b.map .str)) = some (.bl (decide (a = b))) := by
  unfold eqD
  rw [(shp_strs ha).1, (shp_strs hb).1]
  simp only [Option.bind_some, PyData.eqv, eqv_strs]
theorem inD_tups {a : List (List Nat)} {bss : List (List (List Nat))} (ha : ∀ z ∈ a, okS z = true) (hb : ∀ b ∈ bss, ∀ z ∈ b, okS z = true) : inD (.tup (a.map .str)) (.tup (bss.map fun b => .tup (b.map .str))) = some (.bl (bss.any fun b => decide (b = a))) := by
  unfold inD
  rw [items_tup, (shp_strs ha).1]
  have h1 : pyAll (bss.map fun b => D.tup (b.map .str)) = some (bss.map fun b => PyData.tuple (b.map fun z => .str (ST z))) := by
    clear hb
    induction bss with
    | nil => rfl
    | cons b bss ih =>
      rw [List.map_cons, pyAll, py, py_strs, ih]
      rfl
  have h2 : PyData.canLayAll0 (bss.map fun b => PyData.tuple (b.map fun z => .str (ST z))) = true ∧ PyData.depthAll (bss.map fun b => PyData.tuple (b.map fun z => .str (ST z))) ≤ 1 := by
    clear h1
    induction bss with
    | nil => exact ⟨rfl, Nat.zero_le _⟩
    | cons b bss ih =>
      have ih := ih fun b hb' => hb b (List.mem_cons_of_mem _ hb')
      rw [List.map_cons, PyData.canLayAll0, PyData.depthAll, PyData.canLay0, PyData.depth, lay_strs (hb b (List.mem_cons_self ..)), dep_strs, ih.1]
      exact ⟨rfl, Nat.max_le.mpr ⟨Nat.le_refl _, ih.2⟩⟩
  have h3 : SeqAt.shaped (.list (bss.map fun b => PyData.tuple (b.map fun z => .str (ST z)))) = true := by
    refine Bool.and_eq_true_iff.mpr ⟨?_, decide_eq_true ?_⟩
    · rw [PyData.canLay0]; exact h2.1
    · rw [PyData.depth]; omega
  simp only [Option.bind_some, h1]
  rw [if_pos h3]
  congr 2
  clear h1 h2 h3 hb
  induction bss with
  | nil => rfl
  | cons b bss ih => rw [List.map_cons, List.any_cons, List.any_cons, ih, PyData.eqv, eqv_strs]
theorem eqV_str {a b : List Nat} : eqV (.str (ST a)) (.str (ST b)) = decide (a = b) := ST_beq
theorem countT_strs {w : List Nat} : ∀ zs : List (List Nat), countT (.tup (zs.map .str)) (.str w) = some (.int (zs.countP fun z => decide (z = w))) := fun zs => by
  have h : (zs.map D.str).mapM flatD = some (zs.map fun z => V.str (ST z)) := by
    induction zs with
    | nil => rfl
    | cons z zs ih =>
      rw [List.map_cons, List.mapM_cons, ih]
      rfl
  have e : flatD (.str w) = some (V.str (ST w)) := rfl
  simp only [countT, e, h, Option.bind_some]
  congr 2
  rw [List.countP_map]
  congr 1
  apply congrFun
  apply congrArg
  funext z
  exact eqV_str
end DL
set_option Elab.async false
set_option linter.all false
set_option maxRecDepth 100000
set_option maxHeartbeats 1000000
/-! GX9: sum of a generator expression. -/
namespace GX
open PySem PySem.Spec PyProof.Rows L2 GenW GxR

section
variable {Z : L2.Cx} {A : Around} {R : GenEnd} {Y : Protocol} {κ : Type} {J : It} {tg elt iter : Expr} {ifs : List Expr} {scope : Scope} {pos : Pos} {it : Addr} {fp : List Addr} {tn : Nat → Heap → Prop} {σ0 : L2.St} {g : TG} {tt : TT} {te : TE} {vs : List Nat}
  {PO : κ → List (Addr × Obj) → Prop} {W : Nat → Nat → κ → Hp → Prop} {Zd : κ → Hp → Prop} {Yd : Nat → Nat → κ → V → Hp → Prop} {Fu : Nat → κ → Nat → Prop}

theorem seg_gxL {Lk : κ → Shared → Prop} (hA : Z.A = A.deeper Z.env) (hxe : Z.xe = fun _ _ => False) (hc : Z.calm = true) (hpn : Z.pn = []) (hex : Z.ex = fp) (hco : Z.env.scope.isCoroutine = false)
    (T : Turn Z.prog Z.w Z.K tg J fp it tn) (pg : PG Z tg g) (pt : PTs Z ifs tt) (pe : PE Z elt te)
    (gt : GTurn J g tt te vs σ0 W Zd Yd)
    (hF : ∀ n k m m', Fu n k m → m' < m → Fu n k m')
    (hpos : ∀ n i m k y H, Fu n k m → Yd i m k y H → 0 < n)
    (hZ : ∀ n s₀ s k m pins H, Lk k s₀ → Fu n k m → PO k pins → Inv Z pins σ0 H s → Zd k H → R n s₀ (.ok .next) s)
    (hY : ∀ n s₀ v s i m k y H kap, Lk k s₀ → Fu (n + 1) k m → SG Z σ0 fp tn PO (i + 1) k H s → RelV y v → Yd i m k y H →
      (∀ s' k' m' H', m' < m → Lk k' s' → Fu n k' m' → W (i + 1) m' k' H' → SG Z σ0 fp tn PO (i + 1) k' H' s' → kap (.send .none) s') → Y n s₀ v s kap) :
    ∀ (m n i : Nat) (k : κ) (H : Hp) (s₀ s : Shared), Lk k s₀ → Fu n k m → W i m k H → SG Z σ0 fp tn PO i k H s →
      Seg (model Z.prog Z.w) A R Y n s₀ (.compLoop (.GeneratorExp elt [⟨tg, iter, ifs, 0⟩] scope pos) 0 (.ref it) .none Z.env)
        ((model Z.prog Z.w).den (.compLoop (.GeneratorExp elt [⟨tg, iter, ifs, 0⟩] scope pos) 0 (.ref it) .none Z.env)) [] s := by
  intro m
  induction m using Nat.strongRecOn with
  | ind m ih =>
    intro n i k H s₀ s hlk hfu hw hS
    obtain ⟨st, nfp, pins, hPO, I, hpf⟩ := hS
    have fpok : ∀ {pins : List (Addr × Obj)} {σ' : L2.St} {H' : Hp} {s' : Shared}, Inv Z pins σ' H' s' → (∀ b ∈ fp, H' b = none) → (∀ b ∈ fp, ∀ p ∈ pins, p.1 ≠ b) → ∀ b ∈ fp, FpOk Z pins H' b := fun {pins σ' H' s'} I' hn hq b hb =>
      ⟨hn b hb, (I'.ok.exf b (by rw [hex]; exact hb)).1, I'.ok.exfs b (by rw [hex]; exact hb), .inl (by rw [hex]; exact hb), fun x c e => (I'.ok.exf b (by rw [hex]; exact hb)).2 x c e, fun p hp => by
        rw [hpn] at hp
        exact hq b hb p (by simpa using hp)⟩
    have ov : A.over (.compLoop (.GeneratorExp elt [⟨tg, iter, ifs, 0⟩] scope pos) 0 (.ref it) .none Z.env) [] = Z.A := by rw [hA]; exact over_L
    show Seg _ A _ _ _ s₀ _ ((compTurn (.GeneratorExp elt [⟨tg, iter, ifs, 0⟩] scope pos) 0 (.ref it) .none Z.env).onRaise (leaving Z.env)) [] s
    rw [compTurn_gen, Sem.onRaise_eq_wrap]
    refine seg_bind_wrap (wpAny_standAt ?_)
    rcases gt.turn i m k H hw with ⟨stop, zd⟩ | ⟨go, step⟩
    · have td := T.done Z rfl rfl rfl hc i pins s _ H (fun _ _ => False) I (fpok I nfp hpf) st stop
      refine seg_bind_wrap ?_
      rw [ov]
      refine thnF td fun r s6 ⟨hr, I6⟩ => ?_
      subst hr
      exact seg_end (.ok .next) (hZ n s₀ s6 k m pins H hlk hfu hPO I6 zd)
    · have ti := T.item Z rfl rfl rfl hc i pins s _ H (fun _ _ => False) I (fpok I nfp hpf) st go
      refine seg_bind_wrap ?_
      rw [ov]
      refine thnF ti fun r s6 ⟨u, hr, h6⟩ => ?_
      subst hr
      refine seg_bind_wrap ?_
      rw [ov]
      refine thnF h6 fun _ s7 ⟨x, H7, I7, r7, y7, st7, n7⟩ => ?_
      have I7' := I7.pinned (fpok I7 n7 hpf) (T.obj _ _ st7)
      refine seg_bind_wrap ?_
      rw [ov]
      have hxe' : ∀ e s', Z.xe e s' → False := fun e s' z => by rw [hxe] at z; exact z
      refine wpAny_mono (pg.run _ s7 _ H7 x u _ I7' r7 (step x H7 y7)) (fun _ s8 ⟨σ8, H8, I8, hw8, q8⟩ => ?_) fun e s' z => (hxe' e s' z).elim
      refine seg_bind_wrap ?_
      rw [ov]
      refine wpAny_mono (pt.run _ s8 σ8 H8 _ I8 q8) (fun b s9 ⟨H9, I9, q9⟩ => ?_) fun e s' z => (hxe' e s' z).elim
      have fin : ∀ {s' : Shared} {H' : Hp}, Inv Z (pins ++ pinsAt fp s7.heap) σ8 H' s' → SG Z σ0 fp tn PO (i + 1) k H' s' := fun {s' H'} I' => by
        have pin' : ∀ b ∈ fp, ∀ o, s7.heap.get? b = some o → s'.heap.get? b = some o ∧ H' b = none := fun b hb o e =>
          let z := I'.pin (b, o) (List.mem_append_right _ (List.mem_append_right _ (mem_pinsAt hb e)))
          ⟨z.1, z.2.1⟩
        have hl : σ0.length = σ8.length := by rw [← hw8, wipe_length]
        refine ⟨T.keep _ _ _ st7 fun b hb o e => (pin' b hb o e).1, fun b hb => ?_, pins, hPO, (I'.unpinned (pins := pins)).weak hl (fun j v e => ?_), hpf⟩
        · obtain ⟨o, e, _⟩ := T.obj _ _ st7 b hb
          exact (pin' b hb o e).2
        · rw [← hw8] at e
          exact (wipe_some e).1
      cases b with
      | false =>
        simp only [Bool.false_eq_true, if_false] at q9 ⊢
        obtain ⟨m', hm, w'⟩ := q9
        exact seg_again rfl (ih m' hm n (i + 1) k H9 s₀ s9 hlk (hF n k m m' hfu hm) w' (fin I9))
      | true =>
        simp only [if_true] at q9 ⊢
        have hy : ∀ v, yieldOut Z.env v = yieldValue v := fun v => by simp only [yieldOut, hco, Bool.false_eq_true, if_false]
        simp only [hy]
        rw [Sem.bind_eq_wrap', Sem.bind_eq_wrap', Sem.wrap_wrap, Sem.wrap_wrap]
        refine seg_wrap ?_
        rw [ov]
        refine wpAny_mono (pe.run _ s9 σ8 H9 _ I9 q9) (fun z s10 ⟨yv, H10, I10, r10, q10⟩ => ?_) fun e s' z => (hxe' e s' z).elim
        have hn := hpos n i m k yv H10 hfu q10
        obtain ⟨n, rfl⟩ : ∃ n', n = n' + 1 := ⟨n - 1, by omega⟩
        refine seg_at (seg_yield rfl rfl rfl (hY n s₀ z s10 i m k yv H10 _ hlk hfu (fin I10) r10 q10 fun s' k' m' H' hm' hlk' hfu' w' hS' => ?_))
        exact seg_again rfl (ih m' hm' n (i + 1) k' H' s' s' hlk' hfu' w' hS')
end

abbrev sumO (i : Int) (t : Tok) (c : Nat) : Obj := { cls := .type "list", dict := none, data := .seq #[.int i t] c, slots := #[] }
/-- the consumer's total is another -/
structure Put (S : Addr) (i : Int) (s s' : Shared) : Prop where
  os : s'.os = s.os
  bare : AllBare s'.gens
  keep : ∀ b o, b ≠ S → s.heap.get? b = some o → s'.heap.get? b = some o
  own : ∃ t c, s'.heap.get? S = some (sumO i t c)
def YS (sc : Shared) (a g : Nat) (S : Addr) : Protocol := fun n s₀ v s kap =>
  s.os = sc.os ∧ AllBare s.gens ∧ s.heap.NoLimit ∧ s.heap.IsGen a g ∧ (∀ o, s₀.heap.get? S = some o → s.heap.get? S = some o) ∧ ∃ i t c b tb, s.heap.get? S = some (sumO i t c) ∧ v = Value.int b tb ∧ ∀ s', Put S (i + b) s s' → kap (.send .none) s'
def ES (X : L2.Cx) (sc : Shared) (H : Hp) (fp : List Addr) (S : Addr) (Qe : Int → Hp → Prop) (n : Nat) (s₀ s : Shared) : Prop :=
  s.os = sc.os ∧ AllBare s.gens ∧ (∀ o, s₀.heap.get? S = some o → s.heap.get? S = some o) ∧ ∃ H' i t c, Un (frs X.stack) fp H H' sc.heap s.heap ∧ HOk X.prog X.w H' s.heap ∧ H' S = none ∧ s.heap.get? S = some (sumO i t c) ∧ Qe i H'
def RS (X : L2.Cx) (sc : Shared) (H : Hp) (fp : List Addr) (S : Addr) (Qe : Int → Hp → Prop) : GenEnd := fun n s₀ r s => r = .ok .next ∧ ES X sc H fp S Qe n s₀ s
section
variable {X : L2.Cx} {sc : Shared} {H : Hp} {fp : List Addr} {a g : Nat} {S : Addr} {Qe : Int → Hp → Prop} {A : Around} {R : Result → Shared → Prop}
theorem sum_loop (hh : A.handled = none) (hd : A.depth < recursionLimit) (hSa : S ≠ a) (hSc : S ≠ cStatics)
    (hend : ∀ s' H' i t c, s'.heap.get? S = some (sumO i t c) → s'.os = sc.os → AllBare s'.gens → Un (frs X.stack) fp H H' sc.heap s'.heap → HOk X.prog X.w H' s'.heap → H' S = none → Qe i H' → R (.ok (.ret (.int i t))) s') :
    ∀ (m : Nat) (s : Shared) (st i : Int) (tA : Tok) (c : Nat), (st = 0 ∨ st = 2) → s.heap.IsGen a g → s.heap.NoLimit → s.heap.get? S = some (sumO i tA c) →
      (∃ gs, s.gens[g]? = some gs ∧ gs.Goes (model X.prog X.w) A.in1.in1 (RS X sc H fp S Qe) (YS sc a g S) m (.send .none) (s.setGen g .running)) →
      codeAny (model X.prog X.w) A (.builtin "sum.loop" ⟨[.ref a, .ref S, rawInt st, rawInt 0], []⟩) R s := by
  intro m
  induction m with
  | zero =>
    intro s st i tA c hst hg hl hS ⟨gs, hgs, hgo⟩
    refine codeAny_builtin F.entry_sum_loop ?_
    rw [Around.under_plainId F.plain_sum_loop _]
    show wpAny _ A.in1 (seqItems? (.ref S) >>= _) _ _ s
    refine wpAny_bind (wpAny_seqItems hS rfl ?_)
    show wpAny _ A.in1 (tryCatch (pyNext (.ref a)) _ >>= _) _ _ s
    refine wpAny_bind (wpAny_tryCatch (wpAny_pyNext_genexpQ (A := A.in1) (P := ES X sc H fp S Qe) hh hl hd hg hgs hgo (fun v s₁ gs' hbare hv => ?_) (fun s₁ hp h' hk => ?_)))
    · obtain ⟨_, hb1, _, _, _, i', t', c', b, tb, hS1, _, hk⟩ := hv
      have eS := Heap.get?_update_self (Obj.mapSeq fun _ => #[Value.int (i' + b) 0]) hS1 rfl
      exact (hk { s₁ with heap := s₁.heap.update S (Obj.mapSeq fun _ => #[Value.int (i' + b) 0]) } ⟨rfl, hb1, fun b' o hb' e => (Heap.get?_update_other _ _ (Ne.symm hb')).trans e, _, _, eS⟩).elim
    · obtain ⟨os1, hb1, hsame, H', i', t', c', un, hok, hSn, hS1, hq⟩ := hp
      have e := hsame _ hS
      rw [hS1] at e
      cases e
      exact wpAny_pure (hend _ H' i tA c (hk _ _ hS1) os1 (allBare_setGen hb1 rfl) (un.trans (Un.kept hk)) (hok.kept hk) hSn hq)
  | succ m ih =>
    intro s st i tA c hst hg hl hS ⟨gs, hgs, hgo⟩
    have hgl : g < s.gens.size := (Array.getElem?_eq_some_iff.mp hgs).1
    refine codeAny_builtin F.entry_sum_loop ?_
    rw [Around.under_plainId F.plain_sum_loop _]
    show wpAny _ A.in1 (seqItems? (.ref S) >>= _) _ _ s
    refine wpAny_bind (wpAny_seqItems hS rfl ?_)
    show wpAny _ A.in1 (tryCatch (pyNext (.ref a)) _ >>= _) _ _ s
    refine wpAny_bind (wpAny_tryCatch (wpAny_gsz (n := g + 1) hgl (wpAny_pyNext_genexpQ (A := A.in1) (P := ES X sc H fp S Qe) hh hl hd hg hgs hgo (fun v s₁ gs' hbare hv => ?_) (fun s₁ hp h' hk => ?_))))
    · intro hsz
      obtain ⟨os1, hb1, hl1, hg1, hsame, i', t', c', b, tb, hS1, rfl, hk⟩ := hv
      have e := hsame _ hS
      rw [hS1] at e
      cases e
      have hsz1 : g < s₁.gens.size := by
        have q : (s₁.setGen g gs').gens.size = s₁.gens.size := setGen_size _ _ _
        have hsz' : g + 1 ≤ (s₁.setGen g gs').gens.size := hsz
        omega
      have next : ∀ (s2 : Shared) (st' : Int) (t' : Tok) (c' : Nat), (st' = 0 ∨ st' = 2) → s2.gens = (s₁.setGen g gs').gens → s2.os = s₁.os → (∀ b o, b ≠ S → s₁.heap.get? b = some o → s2.heap.get? b = some o) → s2.heap.get? S = some (sumO (i + b) t' c') →
          codeAny (model X.prog X.w) A (.builtin "sum.loop" ⟨[.ref a, .ref S, rawInt st', rawInt 0], []⟩) R s2 := fun s2 st' t' c' h1 h2 h3 h4 h5 => by
        refine ih s2 st' (i + b) t' c' h1 ?_ ?_ h5 ⟨gs', ?_, ?_⟩
        · obtain ⟨o, x, y, z⟩ := hg1
          exact ⟨o, x, y, h4 a _ (Ne.symm hSa) z.1, z.2⟩
        · obtain ⟨mc, hn, hm⟩ := hl1
          exact ⟨mc, hn.extBut h4 (Ne.symm hSc), hm⟩
        · rw [h2]; exact setGen_at hsz1
        · exact hk _ ⟨by show (s2.setGen g .running).os = _; exact h3, allBare_setGen (by rw [h2]; exact allBare_setGen hb1 hbare) rfl, h4, _, _, h5⟩
      rcases hst with rfl | rfl
      · show wpAny _ A.in1 (if (_ : Bool) = true then (mkInt (i + b) >>= _) else _) _ _ _
        split
        · refine wpAny_bind (wpAny_mkInt ?_)
          show wpAny _ A.in1 (updateSeq S (fun _ => #[.int (i + b) s₁.toks]) >>= _) _ _ _
          refine wpAny_bind ?_
          refine wpAny_updateSeq (s := { s₁.setGen g gs' with toks := s₁.toks + 1 }) hS1 rfl (wpAny_pure ⟨plainId_quiet F.plain_sum_loop _, next _ 0 _ _ (.inl rfl) rfl rfl (fun b' o hb' e => (Heap.get?_update_other _ _ (Ne.symm hb')).trans e) (Heap.get?_update_self _ hS1 rfl)⟩)
        · refine wpAny_bind (wpAny_rule ?_)
          refine wpAny_bind (wpAny_attempt (wpAny_holding (wpAny_add_int ?_)))
          show wpAny _ A.in1 (updateSeq S (fun _ => #[.int (i + b) s₁.toks]) >>= _) _ _ _
          refine wpAny_bind (wpAny_updateSeq (s := { s₁.setGen g gs' with toks := s₁.toks + 1 }) hS1 rfl ?_)
          have hS2 := Heap.get?_update_self (Obj.mapSeq fun _ => #[Value.int (i + b) s₁.toks]) hS1 rfl
          refine wpAny_bind (wpAny_letGo ?_)
          refine wpAny_bind (wpAny_updateSeq hS2 rfl (wpAny_pure ⟨plainId_quiet F.plain_sum_loop _, next _ 2 _ _ (.inr rfl) rfl rfl (fun b' o hb' e => (Heap.get?_update_other _ _ (Ne.symm hb')).trans ((Heap.get?_update_other _ _ (Ne.symm hb')).trans e)) (Heap.get?_update_self _ hS2 rfl)⟩))
      · show wpAny _ A.in1 ((holding [Value.int b tb] (binaryOp .Add (.int i tA) (.int b tb))).attempt >>= _) _ _ _
        refine wpAny_bind (wpAny_attempt (wpAny_holding (wpAny_add_int ?_)))
        show wpAny _ A.in1 (updateSeq S (fun _ => #[.int (i + b) s₁.toks]) >>= _) _ _ _
        refine wpAny_bind (wpAny_updateSeq (s := { s₁.setGen g gs' with toks := s₁.toks + 1 }) hS1 rfl ?_)
        have hS2 := Heap.get?_update_self (Obj.mapSeq fun _ => #[Value.int (i + b) s₁.toks]) hS1 rfl
        refine wpAny_bind (wpAny_letGo ?_)
        refine wpAny_bind (wpAny_updateSeq hS2 rfl (wpAny_pure ⟨plainId_quiet F.plain_sum_loop _, next _ 2 _ _ (.inr rfl) rfl rfl (fun b' o hb' e => (Heap.get?_update_other _ _ (Ne.symm hb')).trans ((Heap.get?_update_other _ _ (Ne.symm hb')).trans e)) (Heap.get?_update_self _ hS2 rfl)⟩))
    · intro hsz
      obtain ⟨os1, hb1, hsame, H', i', t', c', un, hok, hSn, hS1, hq⟩ := hp
      have e := hsame _ hS
      rw [hS1] at e
      cases e
      exact wpAny_pure (hend _ H' i tA c (hk _ _ hS1) os1 (allBare_setGen hb1 rfl) (un.trans (Un.kept hk)) (hok.kept hk) hSn hq)
end
/-- one turn of a generator expression whose items are summed; t: the total -/
def GTS (J : It) (g : TG) (tt : TT) (te : TE) (vs : List Nat) (σ0 : L2.St) (Qe : Int → Hp → Prop) (W : Nat → Nat → Int → Hp → Prop) : Prop :=
  ∀ i m t H, W i m t H → (J.stop i H ∧ Qe t H) ∨ (J.go i H ∧ ∀ x H', J.yld i H x H' → g x σ0 H' fun σ2 H2 => wipe σ2 vs = σ0 ∧ tt σ2 H2 fun b H3 =>
    if b = true then te σ2 H3 fun y H4 => 0 < m ∧ ∃ b, y = .int b ∧ ∃ m', m' < m ∧ W (i + 1) m' (t + b) H4 else ∃ m', m' < m ∧ W (i + 1) m' t H3)
def bSum (g : TG) (tt : TT) (te : TE) (vs : List Nat) : It → L2.St → Hp → VK → Prop := fun J σ H Q => ∃ W, (∃ m, W 0 m 0 H) ∧ GTS J g tt te vs (wipe σ vs) (fun t H' => Q (.int t) H') W
section
variable {X : L2.Cx} {pins : List (Addr × Obj)} {σ : L2.St} {H : Hp}
theorem put_inv {Z : L2.Cx} {σ0 : L2.St} {H : Hp} {s s' : Shared} {S a : Addr} {go : Obj} {i i' : Int} {t : Tok} {c : Nat} (hpn : Z.pn = []) (h0 : Z.s_0.heap.objs.size ≤ S) (hSa : a ≠ S) (I : Inv Z [(S, sumO i t c), (a, go)] σ0 H s) (z : Put S i' s s') :
    ∃ t' c', Inv Z [(S, sumO i' t' c'), (a, go)] σ0 H s' := by
  obtain ⟨e1, e2, e3, e4, _⟩ := I.pin (S, sumO i t c) (by simp)
  have I0 : Inv Z [(a, go)] σ0 H s := I.pins_of fun p hp => I.pin p (List.mem_append_right _ (List.mem_cons_of_mem _ hp))
  obtain ⟨t', c', eS⟩ := z.own
  have J1 : Inv Z [(a, go)] σ0 H { s with heap := s'.heap, toks := s'.toks } := I0.turned (it := S) (fun b o hb e => z.keep b o hb e) e2 e3 (.inr h0) (fun x cc e hz => by
    obtain ⟨w, o, ho, hd⟩ := I0.cell x cc e
    have e1' : s.heap.get? S = some (sumO i t c) := e1
    rw [hz, e1'] at ho
    cases ho
    cases hd) (fun p hp hz => by
      rw [hpn] at hp
      have : p = (a, go) := by simpa using hp
      subst this
      exact hSa hz)
  have J2 : Inv Z [(a, go)] σ0 H s' := J1.call' (ch := []) z.os Un.refl J1.hok z.bare fun c hc => absurd hc (by simp)
  refine ⟨t', c', J2.pins_of fun p hp => ?_⟩
  rcases List.mem_cons.mp hp with hp | hp
  · subst hp
    exact ⟨eS, e2, e3, e4, fun v q => by cases q⟩
  · exact J2.pin p (List.mem_append_right _ hp)
theorem made_sum {J : It} {elt tg iter : Expr} {ifs : List Expr} {scope : Scope} {own : List (Str × Nat)} {gpos : Pos} {a g' : Nat} {sc s5 s2 : Shared} {cenv : Env} {fp : List Addr} {it : Addr} {tn : Nat → Heap → Prop} {go : Obj} {g : TG} {tt : TT} {te : TE} {Qe : Int → Hp → Prop} {W : Nat → Nat → Int → Hp → Prop} {m0 : Nat} {A : Around} {S : Addr} {t0 : Tok} {c0 : Nat}
    (M : Made X pins σ own tg elt iter ifs scope gpos J H a g' sc s5 cenv fp it tn go) (hc : X.calm = true) (hh : A.handled = none) (hfr : A.frames = some X.stack) (hco : scope.isCoroutine = false)
    (hg : PG (gcx X sc H cenv (A.deeper cenv) fp) tg g) (ht : PTs (gcx X sc H cenv (A.deeper cenv) fp) ifs tt) (he : PE (gcx X sc H cenv (A.deeper cenv) fp) elt te)
    (hw : W 0 m0 0 H) (gt : GTS J g tt te (own.map (·.2)) (wipe σ (own.map (·.2))) Qe W)
    (hS : s5.heap.objs.size ≤ S) (hk2 : ∀ b o, s5.heap.get? b = some o → s2.heap.get? b = some o) (hos : s2.os = sc.os) (hb2 : AllBare s2.gens) (hg2 : s2.gens = s5.gens) (heS : s2.heap.get? S = some (sumO 0 t0 c0)) :
    (∃ gs, s2.gens[g']? = some gs ∧ gs.Goes (model X.prog X.w) A (RS X sc H fp S Qe) (YS sc a g' S) m0 (.send .none) (s2.setGen g' .running)) := by
  have hst := M.st
  rw [← hg2] at hst
  refine ⟨_, hst, rfl, ?_⟩
  obtain ⟨st2, I2⟩ := M.wake A (s2.setGen g' .running) hh hfr hk2 hos (allBare_setGen hb2 rfl)
  have hSa : a ≠ S := by
    have h1 := M.sz5
    intro z
    rw [← z, h1] at hS
    exact absurd hS (Nat.not_succ_le_self _)
  have hSc : sc.heap.objs.size ≤ S := by
    have h1 := M.sz5
    have h2 := M.sz
    exact Nat.le_trans (Nat.le_of_lt h2) (Nat.le_trans (by rw [h1]; exact Nat.le_succ _) hS)
  have I3 : Inv (gcx X sc H cenv (A.deeper cenv) fp) [(S, sumO 0 t0 c0), (a, go)] (wipe σ (own.map (·.2))) H (s2.setGen g' .running) := I2.pins_of fun p hp => by
    rcases List.mem_cons.mp hp with hp | hp
    · subst hp
      refine ⟨heS, M.inv.hok.fresh hSc, fun z => ?_, fun hm => ?_, fun v q => by cases q⟩
      · obtain ⟨m, ⟨o, es, ep, ho, hd, _⟩, _⟩ := I2.loc
        have z' : S = cenv.locals := z
        have ho' : s2.heap.get? cenv.locals = some o := ho
        rw [← z', heS] at ho'
        cases ho'
        cases hd
      · have hm : S ∈ frs X.stack := hm
        rcases List.mem_cons.mp (M.inv.stkSub _ hm) with z | z
        · exact absurd (Nat.lt_of_lt_of_le M.inv.lt (z ▸ hSc)) (Nat.lt_irrefl _)
        · exact M.inv.nofs hSc z
    · exact I2.pin p (List.mem_append_right _ hp)
  have hpf : ∀ (o : Obj), ∀ b ∈ fp, ∀ p ∈ [(S, o), (a, go)], p.1 ≠ b := fun o b hb p hp z => by
    have h1 := (M.fpok b hb).2
    rcases List.mem_cons.mp hp with hp | hp
    · subst hp
      rw [← z] at h1
      exact absurd (Nat.lt_of_lt_of_le h1 hSc) (Nat.lt_irrefl _)
    · have e : p = (a, go) := by simpa using hp
      subst e
      rw [← z] at h1
      exact absurd (Nat.lt_trans h1 M.sz) (Nat.lt_irrefl _)
  have S0 : SG (gcx X sc H cenv (A.deeper cenv) fp) (wipe σ (own.map (·.2))) fp tn (fun (k : Int × Tok × Nat) p => p = [(S, sumO k.1 k.2.1 k.2.2), (a, go)]) 0 ((0 : Int), t0, c0) H (s2.setGen g' .running) :=
    ⟨st2, fun b hb => (M.fpok b hb).1.1, _, rfl, I3, hpf _⟩
  refine seg_gx0 (Z := gcx X sc H cenv (A.deeper cenv) fp) rfl hh M.turn st2 ?_
  refine seg_gxL (Z := gcx X sc H cenv (A.deeper cenv) fp) (κ := Int × Tok × Nat) (σ0 := wipe σ (own.map (·.2))) (vs := own.map (·.2)) (PO := fun (k : Int × Tok × Nat) p => p = [(S, sumO k.1 k.2.1 k.2.2), (a, go)]) (Fu := fun n _ m => m ≤ n)
    (Lk := fun k s₀ => s₀.heap.get? S = some (sumO k.1 k.2.1 k.2.2)) (W := fun i m k H => W i m k.1 H) (Zd := fun k H => Qe k.1 H)
    (Yd := fun i m k y H4 => 0 < m ∧ ∃ b, y = .int b ∧ ∃ m', m' < m ∧ W (i + 1) m' (k.1 + b) H4)
    rfl rfl hc rfl rfl (by show cenv.scope.isCoroutine = false; rw [M.scope]; exact hco) M.turn hg ht he ⟨fun i m k H hw => gt i m k.1 H hw⟩
    (fun n k m m' h1 h2 => by omega) (fun n i m k y H h1 h2 => by have := h2.1; omega) ?_ ?_ m0 m0 0 ((0 : Int), t0, c0) H _ _ heS (Nat.le_refl _) hw S0
  · rintro n s₀ s ⟨i, t, c⟩ m pins' H' hlk hfu rfl I hq
    obtain ⟨e1, e2, _⟩ := I.pin (S, sumO i t c) (by simp)
    exact ⟨rfl, I.os, I.bare, fun o e => by rw [hlk] at e; cases e; exact e1, H', i, t, c, I.base, I.hok, e2, e1, hq⟩
  · rintro n s₀ v s i m ⟨tt', t, c⟩ y H' kap hlk hfu Sg r ⟨hm, b, rfl, m', hm', w'⟩ hk
    obtain ⟨st, nf, pins', rfl, I, hpf'⟩ := Sg
    obtain ⟨e1, e2, _⟩ := I.pin (S, sumO tt' t c) (by simp)
    obtain ⟨tb, rfl⟩ := (show ∃ tb, v = Value.int b tb from r)
    refine ⟨I.os, I.bare, I.nolimit, M.gen _ (I.pin (a, go) (by simp)).1, fun o e => by rw [hlk] at e; cases e; exact e1, tt', t, c, b, tb, e1, rfl, fun s' z => ?_⟩
    obtain ⟨t2, c2, J2⟩ := put_inv rfl hSc hSa I z
    have e3 := (J2.pin (S, sumO (tt' + b) t2 c2) (by simp)).1
    exact hk s' (tt' + b, t2, c2) m' H' hm' e3 (by omega) w' ⟨M.turn.keep _ _ _ st fun b hb o e => z.keep b o (fun q => hpf' b hb (S, sumO tt' t c) (by simp) q.symm) e, nf, _, rfl, J2, hpf _⟩
theorem pe_sumG {c P : Addr} {elt iter tg : Expr} {ifs : List Expr} {p pos gpos : Pos} {scope : Scope} {own : List (Str × Nat)} {wi : TI} {g : TG} {tt : TT} {te : TE} {k : Nat}
    (hr : Room (k + 1) X.A) (hc : X.calm = true) (hgl : Gl X "sum") (hm : X.mg "sum" = none) (hb : bootBuiltins "sum" = some (.builtin "sum")) (TB : TabB X.base X.mg c P) (hcode : X.env.code = .ref c)
    (ok : GOk X.N X.env.scope scope own) (hN : X.N.Nodup) (hi : PI X tg iter wi)
    (hg : ∀ s H C code A' fp, PG (gcx X s H (GCtx X scope C code) A' fp) tg g)
    (ht : ∀ s H C code A' fp, Room k A' → PTs (gcx X s H (GCtx X scope C code) A' fp) ifs tt)
    (he : ∀ s H C code A' fp, Room k A' → PE (gcx X s H (GCtx X scope C code) A' fp) elt te)
    (hs : ∀ v, genFold iter X.env v = pure v := by intro _; rfl)
    (hst : starEach [.GeneratorExp elt [⟨tg, iter, ifs, 0⟩] scope gpos] X.env = (false, eval (.GeneratorExp elt [⟨tg, iter, ifs, 0⟩] scope gpos) X.env) :: starEach [] X.env := by rfl) :
    PE X (.Call (.Name "sum" p) [.GeneratorExp elt [⟨tg, iter, ifs, 0⟩] scope gpos] [] pos) (tGx P wi (bSum g tt te (own.map (·.2)))) := by
  refine ⟨fun pins s σ H Q I h => ?_⟩
  refine wpAny_Call_Name_kw (ld_blt I hgl hm hb ?_)
  refine PyProof.Rows.callWith_builtin1 ?_ hst (by rfl)
  rw [hst]
  show wpAny _ _ (spliced ((false, eval (.GeneratorExp elt [⟨tg, iter, ifs, 0⟩] scope gpos) X.env) :: backTo pos (starEach [] X.env))) _ _ s
  refine Calls.spliced_cons (gx_make hr TB hcode ok hN hi hs I h fun J H2 a g' sc s5 C code fp it tn go hR M => ?_)
  refine Calls.spliced_nil ?_
  obtain ⟨W, ⟨m0, hw⟩, gt⟩ := hR
  refine call_function_tree F.kind_sum F.plain_sum F.entry_sum (F.args_sum1 _) ?_
  unfold Builtin.«sum»
  simp only [List.length_cons, List.length_nil]
  rw [if_neg (by decide)]
  refine wpAny_bind (wpAny_of_eq (show Builtin.Builtins.bindParams "sum" ["start"] 0 { } = pure [none] from rfl) ?_)
  refine wpAny_bind (wpAny_pyIter_gen (M.gen _ M.at5) ?_)
  refine wpAny_bind (wpAny_mkInt ?_)
  refine wpAny_bind (wpAny_pure ?_)
  simp only [List.forIn_cons, List.forIn_nil]
  refine wpAny_bind (wpAny_bind (wpAny_bind (wpAny_isInstance (T := "int") (b := false) (typeIs_int _ _ _) PySem.sub_int_str ?_)))
  simp only [Bool.false_eq_true, if_false]
  refine wpAny_pure (wpAny_bind (wpAny_bind (wpAny_isInstance (T := "int") (b := false) (typeIs_int _ _ _) PySem.sub_int_bytes ?_)))
  simp only [Bool.false_eq_true, if_false]
  refine wpAny_pure (wpAny_bind (wpAny_bind (wpAny_isInstance (T := "int") (b := false) (typeIs_int _ _ _) PySem.sub_int_bytearray ?_)))
  simp only [Bool.false_eq_true, if_false]
  refine wpAny_pure (wpAny_pure ?_)
  refine wpAny_bind (wpAny_newObj_type ?_)
  have hSz : a < s5.heap.objs.size := Heap.lt_size M.at5
  have hSa : s5.heap.objs.size ≠ a := Nat.ne_of_gt hSz
  have hcl : cStatics < s5.heap.objs.size := let ⟨_, hn, _⟩ := M.lim; hn.lt
  have kp : ∀ b o, s5.heap.get? b = some o → (s5.heap.push { cls := .type "list", data := .seq ([Value.int 0 s5.toks] : List Value).toArray }).get? b = some o := fun b o e => Heap.get?_push_of_some _ e
  refine wpAny_pure ⟨plainId_quiet F.plain_sum_loop _, ?_⟩
  refine sum_loop (X := X) (sc := sc) (H := H2) (fp := fp) (Qe := fun t H' => Q (.int t) H') (g := g') hr.hd (by have := hr.dp; show X.A.depth < _; omega) hSa (Nat.ne_of_gt hcl)
    (fun s' H' i t c' hS os hb un hok hn hq => ?_) m0 _ 0 0 s5.toks 0 (.inl rfl) (M.gen _ (kp _ _ M.at5)) (M.lim.keeps kp) (Heap.get?_push_size _ rfl) ?_
  · exact ⟨.int i, H', out_inv M.inv M.fpok os hb un hok, ⟨t, rfl⟩, hq⟩
  · exact made_sum M hc hr.hd M.inv.ok.frames ok.co (hg ..) (ht _ _ _ _ _ _ (room_gen2 hr)) (he _ _ _ _ _ _ (room_gen2 hr)) hw gt (Nat.le_refl _) kp M.os M.bare rfl (Heap.get?_push_size _ rfl)
end
end GX
set_option Elab.async false
set_option linter.all false
set_option maxRecDepth 100000
set_option maxHeartbeats 1000000
/-! DL21: sums and joins of generator expressions, comb. -/
namespace DL
open PySem PySem.Spec PyProof.Rows L2 GX GenW GxR

def sumL (i : Nat) (t : EnD → M Bool) (f : EnD → M D) : List D → EnD → M Int
  | [], _ => mpure 0
  | x :: xs, ρ => mbind (mne (t ((ρ.set i none).set i (some (.val x))))) fun b =>
    if b then mbind (mne (f ((ρ.set i none).set i (some (.val x))))) fun d => mbind (mopt (asI d)) fun k => mbind (sumL i t f xs ρ) fun n => mpure (k + n)
    else sumL i t f xs ρ
def eSumG (i : Nat) (xs : EnD → M (List D)) (t : EnD → M Bool) (f : EnD → M D) : EnD → M D := fun ρ => mbind (xs ρ) fun l =>
  if ownAt ρ i = false then mbind (sumL i t f l ρ) fun n => mpure (.int n) else mbad
section
variable {X : L2.Cx} {T : Tb} {E : XK} {fi : EnD → M (List D)} {t : EnD → M Bool} {f fa fb : EnD → M D} {elt iter tg a b : Expr} {ifs : List Expr} {scope : Scope} {pos gpos p apos pp : Pos} {x : Str} {i : Nat} {px : Pos} {k : Nat} {c P : Addr}
theorem sum_read {σ : L2.St} {H2 : Hp} {J : It} {l : List D} {g : G} {ρ : EnD} {z1 : S} {Qs : Int → Hp → Prop} (st2 : StR (yx X T E) g H2 σ ρ z1) (it : ItD X.K g.R (bad g σ ρ) H2 J l) (co : ownAt ρ i = false)
    (a : After (yx X T E) g (sumL i t f l ρ z1) fun b z' => ∀ H', StR (yx X T E) g H' σ ρ z' → Ext g.R H2 H' → Qs b H') :
    ∃ W, (∃ m, W 0 m 0 H2) ∧ GTS J (gName i) (ttD (yx X T E0) t) (tD (yx X T E0) f) [i] (wipe σ [i]) Qs W := by
  refine ⟨fun n m s H' => ∃ zi, n + m = l.length ∧ Ext g.R H2 H' ∧ Wo X.K T (gb g σ ρ) H' zi ∧
      After (yx X T E) g (sumL i t f (l.drop n) ρ zi) (fun b z'' => ∀ H'', StR (yx X T E) g H'' σ ρ z'' → Ext g.R H2 H'' → Qs (s + b) H''),
    ⟨l.length, z1, Nat.zero_add _, .refl, st2.wo, by simpa using a⟩, ?_⟩
  rintro n m s H' ⟨zi, hm, ex, wo, hcomp⟩
  have rdl : RdLe (bad g σ ρ) H2 H' := ex.rd st2.badR
  by_cases hn : n < l.length
  · obtain ⟨xd, hxd⟩ : ∃ xd, l[n]? = some xd := ⟨_, List.getElem?_eq_getElem hn⟩
    have edrop : l.drop n = xd :: l.drop (n + 1) := by
      rw [List.drop_eq_getElem_cons hn]
      rw [List.getElem?_eq_getElem hn] at hxd
      rw [Option.some.inj hxd]
    rw [edrop] at hcomp
    unfold sumL at hcomp
    refine .inr ⟨it.go n H' rdl hn, fun xv H'' hy => ?_⟩
    obtain ⟨rfl, d, hd, rx⟩ := it.yld n H' xv H'' rdl hn hy
    rw [hxd] at hd
    cases hd
    show wipe (((wipe σ [i]).set i (some xv))) [i] = wipe σ [i] ∧ _
    refine ⟨by simp [wipe], ?_⟩
    obtain ⟨s3, bE⟩ := item_st (i := i) st2 co ex wo (rx.less fun a h => .inl h)
    refine ⟨g, _, zi, s3, (After.ne hcomp.bind).imp fun b z2 _ h3 H3 st3 e3 => ?_⟩
    have wo3 : Wo X.K T (gb g σ ρ) H3 z2 := by
      have := st3.wo
      unfold gb at this
      rw [bE] at this
      exact this
    cases b with
    | false =>
      simp only [Bool.false_eq_true, if_false] at h3 ⊢
      exact ⟨m - 1, by omega, z2, by omega, ex.trans e3, wo3, h3⟩
    | true =>
      simp only [if_true] at h3 ⊢
      refine ⟨g, _, z2, st3, (After.ne h3.bind).imp fun d z3 _ h4 y H4 st4 e4 ry => ⟨by omega, ?_⟩⟩
      have wo4 : Wo X.K T (gb g σ ρ) H4 z3 := by
        have := st4.wo
        unfold gb at this
        rw [bE] at this
        exact this
      obtain ⟨k, hk, h5⟩ := h4.bind.opt
      obtain rfl : d = .int k := by cases d <;> simp_all [asI]
      cases ry.int
      refine ⟨k, rfl, m - 1, by omega, z3, by omega, (ex.trans e3).trans e4, wo4, h5.bind.imp fun n' z4 _ q H5 s5 e5 => ?_⟩
      have := q.pure H5 s5 e5
      rwa [← Int.add_assoc] at this
  · refine .inl ⟨it.stop n H' rdl (by omega), ?_⟩
    rw [List.drop_of_length_le (by omega)] at hcomp
    have := hcomp.pure H' (st2.step ex wo) ex
    rwa [Int.add_zero] at this
theorem pu_sumG (hr : Room (k + 1) X.A) (hc : X.calm = true) (hgl : Gl X "sum") (hm : X.mg "sum" = none) (hb : bootBuiltins "sum" = some (.builtin "sum")) (TB : TabB X.base X.mg c P) (hP : P ∈ T) (hcode : X.env.code = .ref c)
    (ok : GOk X.N X.env.scope scope [(x, i)]) (hN : X.N.Nodup) (hi : PI X tg iter (tiD (yx X T E) fi))
    (hg : ∀ s H C code A' fp, PG (gcx X s H (GCtx X scope C code) A' fp) tg (gName i))
    (ht : ∀ s H C code A' fp, Room k A' → PTs (gcx X s H (GCtx X scope C code) A' fp) ifs (ttD (yx X T E0) t))
    (he : ∀ s H C code A' fp, Room k A' → PE (gcx X s H (GCtx X scope C code) A' fp) elt (tD (yx X T E0) f))
    (hs : ∀ v, genFold iter X.env v = pure v := by intro _; rfl)
    (hst : starEach [.GeneratorExp elt [⟨tg, iter, ifs, 0⟩] scope gpos] X.env = (false, eval (.GeneratorExp elt [⟨tg, iter, ifs, 0⟩] scope gpos) X.env) :: starEach [] X.env := by rfl) :
    PE X (.Call (.Name "sum" p) [.GeneratorExp elt [⟨tg, iter, ifs, 0⟩] scope gpos] [] pos) (tD (yx X T E) (eSumG i fi t f)) :=
  PE_imp (pe_sumG (own := [(x, i)]) hr hc hgl hm hb TB hcode ok hN hi hg ht he hs hst) fun σ H Q h => by
    obtain ⟨g, ρ, z, st, a⟩ := h
    refine ⟨g, ρ, z, st, a.bind.imp fun l z1 _ h1 J H1 st1 e1 it => ?_⟩
    have cc : ownAt ρ i = false := by
      refine Decidable.byContradiction fun cc => ?_
      rw [if_neg cc] at h1
      exact h1
    rw [if_pos cc] at h1
    have hT := st1.wo.tabs P hP
    refine ⟨hT, fun H2 h2 => ?_⟩
    have ex2 : Ext g.R H1 H2 := ext_tab (K := X.K) hT h2
    refine sum_read (Qs := fun b => Q (.int b)) (st1.tab hP hT h2) (it.le (ex2.rd st1.badR) fun a q => ?_) cc (h1.bind.imp fun b z2 _ q H3 s3 e3 => q.pure _ _ s3 (e1.trans (ex2.trans e3)) (.atom .int .nil))
    cases e : H1 a with
    | none => rfl
    | some o => exact absurd q (ex2.dom a (by rw [e]; exact fun z => by cases z))
theorem strsRs {K : PySem.W.Frag} {H : Hp} {R : Addr} {B : Addr → Prop} : ∀ {ds : List D} {vs : List V} {zs : List (List Nat)}, Rs K H R B vs ds → strsD ds = some zs → vs = (zs.map ST).map V.str
  | [], vs, zs, r, h => by
    cases r
    simp [strsD] at h
    subst h
    rfl
  | d :: ds, vs, zs, r, h => by
    cases vs with
    | nil => cases r
    | cons v vs =>
      obtain ⟨r1, r2⟩ := r.split
      cases d <;> simp only [strsD, reduceCtorEq, Option.map_eq_some_iff] at h
      obtain ⟨zs', h1, rfl⟩ := h
      cases r1.str
      rw [strsRs r2 h1]
      rfl
/-- sep.join(.. for ..), sep written -/
theorem pu_joinG {z : List Nat} {sep : Str} {n : Nat} (hsep : sep = ST z) (hr : Room (k + 1) X.A) (hc : X.calm = true) (TB : TabB X.base X.mg c P) (hP : P ∈ T) (hcode : X.env.code = .ref c)
    (ok : GOk X.N X.env.scope scope [(x, i)]) (hN : X.N.Nodup) (hi : PI X tg iter (tiD (yx X T E) fi))
    (hg : ∀ s H C code A' fp, PG (gcx X s H (GCtx X scope C code) A' fp) tg (gName i))
    (ht : ∀ s H C code A' fp, Room k A' → PTs (gcx X s H (GCtx X scope C code) A' fp) ifs (ttD (yx X T E0) t))
    (he : ∀ s H C code A' fp, Room k A' → PE (gcx X s H (GCtx X scope C code) A' fp) elt (tD (yx X T E0) f))
    (hs : ∀ v, genFold iter X.env v = pure v := by intro _; rfl)
    (hbase : attributeBase (.Constant (.str sep) n pp) "join" X.env (eval (.Constant (.str sep) n pp) X.env) = eval (.Constant (.str sep) n pp) X.env := by rfl)
    (hfew : ((backTo pos (starEach [.GeneratorExp elt [⟨tg, iter, ifs, 0⟩] scope gpos] X.env)).all (fun x => !x.1) && (backToKw pos (keywordEach [] X.env)).all (fun x => x.1.isSome)
      && decide (([.GeneratorExp elt [⟨tg, iter, ifs, 0⟩] scope gpos] : List Expr).length + ([] : List Keyword).length + (if ([] : List Keyword).isEmpty then 0 else 1) < 30)) = true := by rfl)
    (hline : (apos.endLine == pos.line) = true := by rfl)
    (hst : starEach [.GeneratorExp elt [⟨tg, iter, ifs, 0⟩] scope gpos] X.env = (false, eval (.GeneratorExp elt [⟨tg, iter, ifs, 0⟩] scope gpos) X.env) :: starEach [] X.env := by rfl)
    (hplain : (backTo pos (starEach [] X.env)).any (·.1) = false := by rfl) :
    PE X (.Call (.Attribute (.Constant (.str sep) n pp) "join" apos) [.GeneratorExp elt [⟨tg, iter, ifs, 0⟩] scope gpos] [] pos) (tD (yx X T E) (eJoinG z i fi t f)) :=
  PE_imp (pe_joinG (o := elt) (own := [(x, i)]) hr hc TB hcode ok hN hi hg ht he hs hbase hfew hline hst hplain) fun σ H Q h => by
    subst hsep
    obtain ⟨g, ρ, z, st, a⟩ := h
    refine ⟨g, ρ, z, st, a.bind.imp fun l z1 _ h1 J H1 st1 e1 it => ?_⟩
    have cc : l.length ≤ sizeLine ∧ ownAt ρ i = false := by
      refine Decidable.byContradiction fun cc => ?_
      rw [if_neg cc] at h1
      exact h1
    rw [if_pos cc] at h1
    have hT := st1.wo.tabs P hP
    refine ⟨hT, fun H2 h2 => ?_⟩
    have ex2 : Ext g.R H1 H2 := ext_tab (K := X.K) hT h2
    refine lst_read (st1.tab hP hT h2) (it.le (ex2.rd st1.badR) fun a q => ?_) cc.1 cc.2 (h1.bind.imp fun ds z2 _ q ys H3 s3 e3 r3 => ?_)
    · cases e : H1 a with
      | none => rfl
      | some o => exact absurd q (ex2.dom a (by rw [e]; exact fun z => by cases z))
    · obtain ⟨r, hr', q⟩ := q.opt
      obtain ⟨zs, hz, hr'⟩ := Option.bind_eq_some_iff.mp hr'
      split at hr'
      · rename_i hj
        cases hr'
        refine ⟨zs.map ST, strsRs r3 hz, hj, ?_⟩
        rw [join_ST]
        exact q _ H3 s3 (e1.trans (ex2.trans e3)) (.atom .str .nil)
      · cases hr'

/-! ### comb -/
def combD : D → D → Option D
  | .int n, .int j => if 0 ≤ n ∧ 0 ≤ j ∧ n ≤ 1000 then some (.int (PySem.W.mcComb n j)) else none
  | _, _ => none
def rComb : List V → Hp → VK → Prop := fun vs H Q => ∃ n j : Int, vs = [.int n, .int j] ∧ 0 ≤ n ∧ 0 ≤ j ∧ n ≤ 1000 ∧ Q (.int (PySem.W.mcComb n j)) H
theorem call_comb : CallR X (.builtin "math.comb") rComb := by
  intro pins s σ H xs us Q I r h
  obtain ⟨n, j, rfl, h1, h2, h3, q⟩ := h
  obtain ⟨u1, u2, rfl, r1, r2⟩ := vals2 r
  obtain ⟨t1, rfl⟩ := (show ∃ t, u1 = Value.int n t from r1)
  obtain ⟨t2, rfl⟩ := (show ∃ t, u2 = Value.int j t from r2)
  exact PySem.W.mc_comb h1 h2 (by omega) (.inr (by omega)) fun _ => ⟨.int _, H, I.tok _, ⟨_, rfl⟩, q⟩
theorem pu_comb (hg : Gl X x) (hm : X.mg x = some (.builtin "math.comb")) (ha : PE X a (tD (yx X T E) fa)) (hb : PE X b (tD (yx X T E) fb)) (hdb : (x == ("__debug__" : Str)) = false := by decide)
    (hs : starEach [a, b] X.env = (false, eval a X.env) :: starEach [b] X.env := by rfl) (hs2 : starEach [b] X.env = (false, eval b X.env) :: starEach [] X.env := by rfl)
    (hpl : (backTo pos (starEach [b] X.env)).any (·.1) = false := by rfl) : PE X (.Call (.Name x p) [a, b] [] pos) (tD (yx X T E) (e2 (op2 combD) fa fb)) :=
  PE_imp (pe_callMB call_comb hg hm (pa_cons ha (pa_cons hb pa_nil hs2) hs) hdb hs hpl) fun σ H Q h => by
    obtain ⟨g, ρ, z, st, a⟩ := tD_bind2 h
    refine ⟨g, ρ, z, st, a.imp fun d z1 _ h1 v H1 st1 e1 r1 => ?_⟩
    obtain ⟨g2, ρ2, z2, st2, a2⟩ := h1 v H1 st1 e1 r1
    exact ⟨g2, ρ2, z2, st2, a2.imp fun e z3 _ h3 w H3 st3 e3 r3 => by
      obtain ⟨g4, ρ4, z4, d4, e4, st4, rv, rw', a4⟩ := h3 w H3 st3 e3 r3
      obtain ⟨r, hr, q⟩ := a4.opt
      unfold combD at hr
      split at hr
      · split at hr
        · rename_i c
          cases hr
          cases rv.int
          cases rw'.int
          exact ⟨_, _, rfl, c.1, c.2.1, c.2.2, q _ H3 st4 .refl (.atom .int .nil)⟩
        · cases hr
      · cases hr⟩
end
end DL
set_option Elab.async false
set_option linter.all false
set_option maxRecDepth 100000
set_option maxHeartbeats 1000000
/-! DL22: written dicts by their texts; defs as values. -/
namespace DL
open PySem PySem.Spec PyProof.Rows L2

def tblD (tbl : List (List Nat × D)) : D → Option D
  | .str w => getS tbl w
  | _ => none
def eCallN (adr : Nat → Addr) (fs : Nat → Option (List D → M D)) (i : Nat) (as : List (EnD → M D)) : EnD → M D := fun ρ => match ρ[i]? with
  | some (some (.val (.fn j a))) => if a = adr j then (match fs j with
    | some F => mbind (evs as ρ) fun ds => mne (F ds)
    | none => mbad) else mbad
  | _ => mbad
section
variable {X : L2.Cx} {T : Tb} {E : XK} {b e : Expr} {es : List Expr} {fb : EnD → M D} {fas : List (EnD → M D)} {pos p px : Pos} {x : Str} {i k n : Nat}
/-- what a written dict holds -/
structure KTab (K : PySem.W.Frag) (w : World) (a : Addr) (tbl : List (List Nat × D)) : Prop where
  at_ : ∀ z d, getS tbl z = some d → ∃ v, KDct K w a (ST z) v ∧ WR K v d
theorem ktab_of {K : PySem.W.Frag} {w : World} {a : Addr} {tbl : List (List Nat × D)} (h : ∀ p ∈ tbl, ∃ v, KDct K w a (ST p.1) v ∧ WR K v p.2) : KTab K w a tbl := by
  refine ⟨fun z d e => ?_⟩
  unfold getS at e
  obtain ⟨p, hp, rfl⟩ := Option.map_eq_some_iff.mp e
  have h1 := List.mem_of_find?_eq_some hp
  have h2 := List.find?_some hp
  have h3 : p.1 = z := of_decide_eq_true h2
  rw [← h3]
  exact h p h1
theorem pu_ixK {tbl : List (List Nat × D)} {ad : Addr} (hg : Gl X x) (hm : X.mg x = some (.ref ad)) (hT : KTab X.K X.w ad tbl) (hb : PE X b (tD (yx X T E) fb)) (hs : PlainIx b := by intro _ _; rfl) (hd : (x == ("__debug__" : Str)) = false := by decide) :
    PE X (.Subscript (.Name x px) b pos) (tD (yx X T E) (e1 (op1 (tblD tbl)) fb)) :=
  PE_imp (pe_ix ix_kdict (pe_glob hg hm (v := .ref ad) rfl hd) hb hs) fun σ H Q h => by
    obtain ⟨g, ρ, z, st, a⟩ := tD_bind (k := fun _ => op1 (tblD tbl)) h
    refine ⟨g, ρ, z, st, a.imp fun d z1 _ h1 v H1 st1 e1 r1 => ?_⟩
    obtain ⟨g2, ρ2, z2, d2, st2, r2, a2⟩ := h1 v H1 st1 e1 r1
    obtain ⟨r, hr, q⟩ := a2.opt
    cases d2 <;> simp only [tblD, reduceCtorEq] at hr
    obtain ⟨v2, hk, hw⟩ := hT.at_ _ _ hr
    cases r2.str
    exact ⟨ad, _, v2, rfl, rfl, hk, q _ H1 st2 .refl (hw _ _ _ fun a ha => st2.badK ha)⟩
theorem R1.fnv {K : PySem.W.Frag} {H : Hp} {R : Addr} {B : Addr → Prop} {v : V} {j : Nat} {a : Addr} (h : R1 K H R B v (.fn j a)) : v = .ref a := by
  cases h with | atom a _ => cases a; rfl
theorem pu_callN {adr : Nat → Addr} {fs : Nat → Option (List D → M D)} (hF : ∀ j F, fs j = some F → Held X.prog X.w X.K X.mg X.base k (adr j) (spD X.K T X.mg n F)) (hr : Room k X.A) (hN : X.N[i]? = some x) (hv : Vis X.env.scope x) (ha : PA X (e :: es) (taD (yx X T E) (evs fas))) (hn : fas.length = n := by rfl)
    (hdb : (x == ("__debug__" : Str)) = false := by decide) (hcd : (x == ("__classdict__" : Str)) = false := by decide)
    (he : starEach (e :: es) X.env = (false, eval e X.env) :: starEach es X.env := by rfl) (hpl : (backTo pos (starEach es X.env)).any (·.1) = false := by rfl) :
    PE X (.Call (.Name x p) (e :: es) [] pos) (tD (yx X T E) (eCallN adr fs i fas)) :=
  PE_imp (pe_callM hr hN hv ha hdb hcd he hpl) fun σ H Q h => by
    obtain ⟨g, ρ, z, st, a⟩ := h
    unfold eCallN at a
    cases e1 : ρ[i]? with
    | none => rw [e1] at a; exact a.elim
    | some o =>
      cases o with
      | none => rw [e1] at a; exact a.elim
      | some sl =>
        cases sl with
        | own d => rw [e1] at a; exact a.elim
        | val d =>
          cases d with
          | fn j ad =>
            rw [e1] at a
            simp only at a
            by_cases c : ad = adr j
            · rw [if_pos c] at a
              cases e2 : fs j with
              | none => rw [e2] at a; exact a.elim
              | some F =>
                rw [e2] at a
                simp only at a
                subst c
                obtain ⟨v, hs, rv⟩ := st.val i _ e1
                cases rv.fnv
                refine ⟨adr j, _, hs, hF j F e2, ?_⟩
                refine ta_mono (ta_bind (k := fun ds => mne (F ds)) ⟨g, ρ, z, st, a⟩) fun vs H1 ⟨hl, g2, ρ2, z2, ds, st2, r2, a2⟩ => ?_
                have a3 : After (yx X T (fun _ _ _ => False)) g2 (F ds z2) fun d z' => ∀ v H', StR (yx X T (fun _ _ _ => False)) g2 H' σ ρ2 z' → Ext g2.R H1 H' → R1 X.K H' g2.R (bad g2 σ ρ2) v d → Q v H' :=
                  (After.ne (Y' := yx X T (fun _ _ _ => False)) (g' := g2) a2).imp fun d z' _ q v H' st' ex r => q v H' st'.chE ex r
                exact spD_of (E := fun _ _ _ => False) (hl.trans hn) st2.chE r2 a3
            · rw [if_neg c] at a
              exact a.elim
          | _ => rw [e1] at a; exact a.elim
end
end DL
set_option Elab.async false
set_option linter.all false
set_option maxRecDepth 100000
set_option maxHeartbeats 1000000
/-! DL23: a dict of its own: laid, written, read. -/
namespace DL
open PySem PySem.Spec PyProof.Rows L2

section
variable {Y : Yx} {g : G} {H H' : Hp} {σ : L2.St} {ρ : EnD} {z : S} {i : Nat} {p a : Addr} {d : D}
theorem bad_own (hl : σ.length = ρ.length) (h : ownAt ρ i = false) (hi : i < ρ.length) : bad g (σ.set i (some (.ref p))) (ρ.set i (some (.own d))) = bad (gd g p) σ ρ := by
  funext a
  apply propext
  constructor
  · rintro (h1 | ⟨j, e, h1, h2⟩)
    · exact .inl (.inl h1)
    · by_cases c : i = j
      · subst c
        rw [List.getElem?_set_self (by rw [hl]; exact hi)] at h2
        cases h2
        exact .inl (.inr rfl)
      · rw [List.getElem?_set_ne c] at h1 h2
        exact .inr ⟨j, e, h1, h2⟩
  · rintro ((h1 | rfl) | ⟨j, e, h1, h2⟩)
    · exact .inl h1
    · exact .inr ⟨i, d, List.getElem?_set_self hi, List.getElem?_set_self (by rw [hl]; exact hi)⟩
    · have c : i ≠ j := fun c => by subst c; exact ownAt_not h e h1
      exact .inr ⟨j, e, by rw [List.getElem?_set_ne c]; exact h1, by rw [List.getElem?_set_ne c]; exact h2⟩
theorem StR.setOwn (st : StR Y (gd g p) H σ ρ z) (gR : g.B g.R) (h : ownAt ρ i = false) (hi : i < ρ.length) (n : ¬ g.B p) (h0 : g.H0 p = none) (hk : Y.K.lookup p = none) (o : OwnAt Y.K H g.R (bad (gd g p) σ ρ) p d) :
    StR Y g H (σ.set i (some (.ref p))) (ρ.set i (some (.own d))) z where
  wo := by unfold gb; rw [bad_own st.len h hi]; exact st.wo
  gR := gR
  len := by rw [List.length_set, List.length_set]; exact st.len
  val := fun j e hj => by
    rw [bad_own st.len h hi]
    rcases set_some hj with ⟨rfl, e1, hl⟩ | ⟨ne, hj⟩
    · cases e1
    · obtain ⟨v, h1, h2⟩ := st.val j e hj
      exact ⟨v, by rw [List.getElem?_set_ne ne]; exact h1, h2⟩
  own := fun j e hj => by
    rw [bad_own st.len h hi]
    rcases set_some hj with ⟨rfl, e1, hl⟩ | ⟨ne, hj⟩
    · cases e1
      exact ⟨p, List.getElem?_set_self (by rw [st.len]; exact hi), n, h0, hk, o⟩
    · obtain ⟨a, h1, h2, h3, h4, h5⟩ := st.own j e hj
      exact ⟨a, by rw [List.getElem?_set_ne ne]; exact h1, fun q => h2 (.inl q), h3, h4, h5⟩
  inj := fun j k e e' a hj hk' h1 h2 => by
    have key : ∀ (j : Nat) (e : D), i ≠ j → ρ[j]? = some (some (.own e)) → σ[j]? ≠ some (some (.ref p)) := fun j e ne hj q => by
      obtain ⟨a, q1, q2, _⟩ := st.own j e hj
      rw [q] at q1
      cases q1
      exact q2 (.inr rfl)
    rcases set_some hj with ⟨rfl, e1, hl⟩ | ⟨ne, hj⟩
    · rcases set_some hk' with ⟨rfl, e2, hl2⟩ | ⟨ne', hk'⟩
      · rfl
      · rw [List.getElem?_set_self (by rw [st.len]; exact hi)] at h1
        rw [List.getElem?_set_ne ne'] at h2
        cases h1
        exact absurd h2 (key k e' ne' hk')
    · rcases set_some hk' with ⟨rfl, e2, hl2⟩ | ⟨ne', hk'⟩
      · rw [List.getElem?_set_self (by rw [st.len]; exact hi)] at h2
        rw [List.getElem?_set_ne ne] at h1
        cases h2
        exact absurd h1 (key j e ne hj)
      · rw [List.getElem?_set_ne ne] at h1
        rw [List.getElem?_set_ne ne'] at h2
        exact st.inj j k e e' a hj hk' h1 h2
  ext := st.ext
theorem OwnAt.nx {K : PySem.W.Frag} {R b : Addr} {B : Addr → Prop} {e : D} {o : HO} (h : OwnAt K H R B b e) (q : H b = some o) : ∀ φ, o ≠ .ext φ := fun φ z => by
  subst z
  cases e <;> first | exact h.elim | (obtain ⟨x, e2, _⟩ := h; rw [q] at e2; cases e2)
/-- what is kept away from is changed -/
theorem StR.upB {o o' : HO} (st : StR Y g H σ ρ z) (hB : g.B p) (hR : p ≠ g.R) (ho : H p = some o) (hn : Stay o) (h0 : g.H0 p = none) (hc : ∀ φ, o ≠ .ext φ := by intro φ z; cases z) : StR Y g (upd H p o') σ ρ z where
  wo := st.wo.up (.inl hB) hR ho hn hc
  gR := st.gR
  len := st.len
  val := fun j e hj => by
    obtain ⟨v, h1, h2⟩ := st.val j e hj
    exact ⟨v, h1, h2.mono (RdLe.up (.inl hB))⟩
  own := fun j e hj => by
    obtain ⟨a, h1, h2, h3, h4, h5⟩ := st.own j e hj
    have ne : a ≠ p := fun q => h2 (by rw [q]; exact hB)
    exact ⟨a, h1, h2, h3, h4, h5.mono (RdLe.up (.inl hB)) fun u q _ => by rw [upd_ne ne]; exact q⟩
  inj := st.inj
  ext := ⟨fun a u q h1 h2 => by
    have ne : a ≠ p := fun e => by rw [e, h0] at q; cases q
    rw [upd_ne ne]
    exact st.ext.keep a u q h1 h2, fun a q => by
    by_cases e : a = p
    · rw [e, upd_same]; exact fun z => by cases z
    · rw [upd_ne e]; exact st.ext.dom a q, fun x xs q => (st.ext.row x xs q).elim fun ys e => ⟨ys, by rw [upd_ne (Ne.symm hR)]; exact e⟩⟩
/-- an own dict is written -/
theorem bad_put (hρ : ∃ e, ρ[i]? = some (some (.own e))) : bad g σ (ρ.set i (some (.own d))) = bad g σ ρ := by
  obtain ⟨e0, hρ⟩ := hρ
  have hi : i < ρ.length := (List.getElem?_eq_some_iff.mp hρ).1
  funext a
  apply propext
  constructor
  · rintro (h1 | ⟨j, e, h1, h2⟩)
    · exact .inl h1
    · by_cases c : i = j
      · subst c
        exact .inr ⟨i, e0, hρ, h2⟩
      · rw [List.getElem?_set_ne c] at h1
        exact .inr ⟨j, e, h1, h2⟩
  · rintro (h1 | ⟨j, e, h1, h2⟩)
    · exact .inl h1
    · by_cases c : i = j
      · subst c
        exact .inr ⟨i, d, List.getElem?_set_self hi, h2⟩
      · exact .inr ⟨j, e, by rw [List.getElem?_set_ne c]; exact h1, h2⟩
theorem StR.put {e0 : D} {o' : HO} (st : StR Y g H σ ρ z) (hρ : ρ[i]? = some (some (.own e0))) (hσ : σ[i]? = some (some (.ref a))) (ho : OwnAt Y.K (upd H a o') g.R (bad g σ ρ) a d) : StR Y g (upd H a o') σ (ρ.set i (some (.own d))) z := by
  have hi : i < ρ.length := (List.getElem?_eq_some_iff.mp hρ).1
  obtain ⟨a', s1, s2, s3, s4, s5⟩ := st.own i e0 hρ
  rw [hσ] at s1
  cases s1
  obtain ⟨u, hu, _, hnt⟩ := s5.there
  have hB : bad g σ ρ a := .inr ⟨i, e0, hρ, hσ⟩
  have hR : a ≠ g.R := st.ownNe ⟨i, e0, hρ, hσ⟩
  have be := bad_put (g := g) (σ := σ) (d := d) ⟨e0, hρ⟩
  refine ⟨by unfold gb; rw [be]; exact st.wo.up hB hR hu hnt (s5.nx hu), st.gR, by rw [List.length_set]; exact st.len, fun j e hj => ?_, fun j e hj => ?_, fun j k e e' b hj hk h1 h2 => ?_, ?_⟩
  · rw [be]
    rcases set_some hj with ⟨rfl, e1, hl⟩ | ⟨ne, hj⟩
    · cases e1
    · obtain ⟨v, h1, h2⟩ := st.val j e hj
      exact ⟨v, h1, h2.mono (RdLe.up hB)⟩
  · rw [be]
    rcases set_some hj with ⟨rfl, e1, hl⟩ | ⟨ne, hj⟩
    · cases e1
      exact ⟨a, hσ, s2, s3, s4, ho⟩
    · obtain ⟨b, h1, h2, h3, h4, h5⟩ := st.own j e hj
      have nb : b ≠ a := fun q => ne (st.inj i j e0 e a hρ hj hσ (by rw [← q]; exact h1))
      exact ⟨b, h1, h2, h3, h4, h5.mono (RdLe.up hB) fun u q _ => by rw [upd_ne nb]; exact q⟩
  · have orig : ∀ (j : Nat) (e : D), (ρ.set i (some (.own d)))[j]? = some (some (.own e)) → ∃ e', ρ[j]? = some (some (.own e')) := fun j e hj => by
      rcases set_some hj with ⟨rfl, _, _⟩ | ⟨ne, hj⟩
      · exact ⟨e0, hρ⟩
      · exact ⟨e, hj⟩
    obtain ⟨x1, y1⟩ := orig j e hj
    obtain ⟨x2, y2⟩ := orig k e' hk
    exact st.inj j k x1 x2 b y1 y2 h1 h2
  · refine ⟨fun b u' q h1 h2 => ?_, fun b q => ?_, fun x xs q => ?_⟩
    · have ne : b ≠ a := fun e => by rw [e, s3] at q; cases q
      rw [upd_ne ne]
      exact st.ext.keep b u' q h1 h2
    · by_cases e : b = a
      · rw [e, upd_same]; exact fun z => by cases z
      · rw [upd_ne e]; exact st.ext.dom b q
    · exact (st.ext.row x xs q).elim fun ys e => ⟨ys, by rw [upd_ne (Ne.symm hR)]; exact e⟩
end
def ownD (ρ : EnD) (i : Nat) : Option (List (List Nat × D)) := match ρ[i]? with
  | some (some (.own (.dS es))) => some es
  | _ => none
/-- x[k] = v, x an own dict -/
def sPutO (i : Nat) (fk fv : EnD → M D) : SM := fun ρ z => match ownD ρ i with
  | none => .bad
  | some es => obind (fv ρ z) fun d z1 => obind (fk ρ z1) fun k z2 => match asS k with
    | some w => if es.length < 100000 then .nx (ρ.set i (some (.own (.dS (putS es w d))))) z2 else .bad
    | none => .bad
/-- x[k], x an own dict -/
def eIxO (i : Nat) (fk : EnD → M D) : EnD → M D := fun ρ => mbind (mopt (ownD ρ i)) fun es => mbind (fk ρ) fun k => mopt ((asS k).bind fun w => getS es w)
section
variable {X : L2.Cx} {T : Tb} {E : XK} {b e : Expr} {fb fv : EnD → M D} {pos p px pos' : Pos} {σ : L2.St} {H : Hp} {Q : VK} {x : Str} {i k : Nat}
theorem ownD_some {ρ : EnD} {es : List (List Nat × D)} (h : ownD ρ i = some es) : ρ[i]? = some (some (.own (.dS es))) := by
  unfold ownD at h
  split at h
  · rename_i h1
    cases h
    exact h1
  · cases h
theorem pu_ixO (hr : Room k X.A) (hN : X.N[i]? = some x) (hv : Vis X.env.scope x) (hb : PE X b (tD (yx X T E) fb)) (hs : PlainIx b := by intro _ _; rfl) (hd : (x == ("__debug__" : Str)) = false := by decide) (hcd : (x == ("__classdict__" : Str)) = false := by decide) :
    PE X (.Subscript (.Name x px) b pos) (tD (yx X T E) (eIxO i fb)) := PE_imp (pe_ix (ix_dict (by have := hr.un; omega)) (pe_var hN hv hd hcd) hb hs) fun σ H Q h => by
  obtain ⟨g, ρ, z, st, h⟩ := h
  obtain ⟨es, ho, h⟩ := h.bind.opt
  obtain ⟨a, h1, _⟩ := st.own i _ (ownD_some ho)
  · refine ⟨_, h1, g, ρ, z, st, h.bind.imp fun d z1 _ h2 v H1 st1 e1 r1 => ?_⟩
    obtain ⟨r, hr', q⟩ := h2.opt
    obtain ⟨w, hw, hg⟩ := Option.bind_eq_some_iff.mp hr'
    obtain rfl : d = .str w := by cases d <;> simp_all [asS]
    cases r1.str
    obtain ⟨a', s1, s2, s3, s4, s5⟩ := st1.own i _ (ownD_some ho)
    rw [h1] at s1
    cases s1
    obtain ⟨kvs, hk, k1, k2⟩ := s5
    obtain ⟨u, g1, g2⟩ := ((DSR.mk k1 k2).get w).1 r hg
    exact ⟨a, u, rfl, .inl ⟨kvs, Sum.inr (ST w), .inl hk, rfl, g1.symm⟩, q _ H1 st1 e1 g2⟩
theorem DSR.rs {K : PySem.W.Frag} {H : Hp} {R : Addr} {B : Addr → Prop} {kvs : List (Key × V)} {es : List (List Nat × D)} (h : DSR K H R B kvs es) {a : Addr} (e : H a = some (.dK kvs)) : OwnAt K H R B a (.dS es) := ⟨kvs, e, h.out.1, h.out.2⟩
theorem pu_putO (hr : Room k X.A) (hN : X.N[i]? = some x) (hv : Vis X.env.scope x) (hb : PE X b (tD (yx X T E) fb)) (he : PE X e (tD (yx X T E) fv)) (hs : swapsWith e (some (.Subscript (.Name x px) b pos')) pos.line X.env = pure false := by rfl) (hd : (x == ("__debug__" : Str)) = false := by decide) (hcd : (x == ("__classdict__" : Str)) = false := by decide) :
    PS X (.Assign [.Subscript (.Name x px) b pos'] e pos) (sD (yx X T E) (sPutO i fb fv)) := PS_imp (ps_dput (by have := hr.un; omega) (pe_var hN hv hd hcd) hb he hs) fun Dn σ H h => by
  obtain ⟨g, ρ, z, st, o⟩ := h
  unfold sPutO at o
  cases ho : ownD ρ i with
  | none => rw [ho] at o; exact o.elim
  | some es =>
    rw [ho] at o
    have hρ := ownD_some ho
    refine ⟨g, ρ, z, st, o.bind.imp fun d z1 _ h1 v H1 st1 e1 r1 => ?_⟩
    obtain ⟨a, s1, _⟩ := st1.own i _ hρ
    refine ⟨_, s1, g, ρ, z1, st1, h1.bind.imp fun kd z2 _ h2 y H2 st2 e2 r2 => ?_⟩
    cases hw : asS kd with
    | none => simp only [hw] at h2; exact h2.elim
    | some w =>
      simp only [hw] at h2
      obtain rfl : kd = .str w := by cases kd <;> simp_all [asS]
      cases r2.str
      by_cases hl : es.length < 100000
      · rw [if_pos hl] at h2
        obtain ⟨a', t1, t2, t3, t4, t5⟩ := st2.own i _ hρ
        rw [s1] at t1
        cases t1
        obtain ⟨kvs, hk, k1, k2⟩ := t5
        have dsr := DSR.mk k1 k2
        have hB : bad g σ ρ a := .inr ⟨i, _, hρ, s1⟩
        have dsr2 := (dsr.put (k := w) (r1.mono (e2.rd st2.badR))).mono (RdLe.up (o := .dK (putK kvs (Sum.inr (ST w)) v)) hB)
        have s3 := st2.put hρ s1 (dsr2.rs upd_same)
        refine ⟨a, _, rfl, .inl ⟨kvs, Sum.inr (ST w), hk, rfl, ?_, rfl⟩, h2 _ _ s3 ⟨fun b u q h1 h3 h4 => ?_, fun b q => ?_, fun b q => .inl ?_⟩⟩
        · have := dsr.length
          rw [sizeLine_eq]
          omega
        · have nb : b ≠ a := fun e => h3 ⟨i, _, hρ, by rw [e]; exact s1⟩
          rw [upd_ne nb]
          exact e2.keep b u (e1.keep b u q h1 h4) h1 h4
        · by_cases c : b = a
          · rw [c, upd_same]; exact fun z => by cases z
          · rw [upd_ne c]; exact e2.dom b (e1.dom b q)
        · have be := bad_put (g := ⟨0, fun _ => False, fun _ => none⟩) (σ := σ) (d := .dS (putS es w d)) ⟨_, hρ⟩
          have q2 : bad (⟨0, fun _ => False, fun _ => none⟩ : G) σ (ρ.set i (some (.own (.dS (putS es w d))))) b := .inr q
          rw [be] at q2
          exact q2.elim False.elim id
      · rw [if_neg hl] at h2
        exact h2.elim
/-- x = {} : an own dict -/
def sNewO (i : Nat) : SM := fun ρ z => if ownAt ρ i = false ∧ i < ρ.length then .nx (ρ.set i (some (.own (.dS [])))) z else .bad
end
end DL
set_option Elab.async false
set_option linter.all false
set_option maxRecDepth 100000
set_option maxHeartbeats 1000000
/-! DL24: own dicts laid. -/
namespace DL
open PySem PySem.Spec PyProof.Rows L2

def sDispO (i : Nat) (ps : List (List Nat × (EnD → M D))) : SM := fun ρ z => obind (evsN (ps.map (·.2)) ρ z) fun ds z' =>
  if ownAt ρ i = false ∧ i < ρ.length then .nx (ρ.set i (some (.own (.dS (putAll [] ((ps.map (·.1)).zip ds)))))) z' else .bad
section
variable {X : L2.Cx} {T : Tb} {E : XK} {B : SM} {rest : List Stmt} {pos pos' dpos : Pos} {x : Str} {i : Nat}
theorem new_wo {Y : Yx} {g : G} {H : Hp} {σ : L2.St} {ρ : EnD} {z : S} {p : Addr} {o : HO} (st : StR Y g H σ ρ z) (hp : H p = none) (hK : Y.K.lookup p = none) : Wo Y.K Y.T (gb (gd g p) σ ρ) (upd H p o) z := by
  obtain ⟨⟨SA, s1, s2, s3⟩, ht, hb, hd, hk⟩ := st.wo
  have hS : SA ≠ p := fun e => by
    rcases s2 with s2 | ⟨o, its, nn, s2, _⟩
    · exact rd_some s2 (by rw [e]; exact hp)
    · rw [e, hK] at s2; cases s2
  have w := st.wo.new (o := o) hp
  obtain ⟨_, ht', hb', hd', hk', hl', hi', hz'⟩ := w
  refine ⟨⟨SA, fun q => ?_, ?_, by rw [upd_ne (ne_of_none s3 hp)]; exact s3⟩, ht', .inl (.inl st.gR), fun a ha => ?_, fun a ha => ?_, hl', hi', fun a fs e => (st.wo.dsk a fs e).guard hp hK st.badR fun b q => by have q : bad (gd g p) σ ρ b := q; rw [bad_gd] at q; exact q⟩
  · have q : bad (gd g p) σ ρ SA := q
    rw [bad_gd] at q
    exact q.elim s1 hS
  · rcases s2 with (q | ⟨ob, q⟩) | q
    · exact .inl (.inl (by rw [upd_ne hS]; exact q))
    · exact .inl (.inr ⟨ob, by rw [upd_ne hS]; exact q⟩)
    · exact .inr q
  · have ha : bad (gd g p) σ ρ a := ha
    rw [bad_gd] at ha
    rcases ha with ha | rfl
    · exact hd' a ha
    · rw [upd_same]; exact fun z => by cases z
  · have ha : bad (gd g p) σ ρ a := ha
    rw [bad_gd] at ha
    rcases ha with ha | rfl
    · exact hk' a ha
    · exact hK
theorem h0_none {Y : Yx} {g : G} {H : Hp} {σ : L2.St} {ρ : EnD} {z : S} {p : Addr} (st : StR Y g H σ ρ z) (hp : H p = none) : g.H0 p = none := by
  cases e : g.H0 p with
  | none => rfl
  | some o => exact absurd hp (st.ext.dom p (by rw [e]; exact fun z => by cases z))
theorem own_stp {R : Addr} {H H' : Hp} {σ : L2.St} {ρ : EnD} {p : Addr} {d : D} (hl : σ.length = ρ.length) (co : ownAt ρ i = false) (hi : i < ρ.length) (hp : H p = none) (ex : Ext R H H') : Stp R σ ρ H (σ.set i (some (.ref p))) (ρ.set i (some (.own d))) H' :=
  ⟨fun b u h1 h2 _ h4 => ex.keep b u h1 h2 h4, ex.dom, fun b q => by
    have be := bad_own (g := ⟨0, fun _ => False, fun _ => none⟩) (p := p) (d := d) hl co hi
    have q2 : bad (⟨0, fun _ => False, fun _ => none⟩ : G) (σ.set i (some (.ref p))) (ρ.set i (some (.own d))) b := .inr q
    rw [be, bad_gd] at q2
    rcases q2 with (h | h) | h
    · exact h.elim
    · exact .inl h
    · exact .inr (by rw [h]; exact hp)⟩
/-- x = {}, then the rest -/
theorem pu_newO (hN : X.N.Nodup) (hi : X.N[i]? = some x) (hx : Loc X.env.scope x) (h2 : PSs X rest (sD (yx X T E) B)) (hs : swapsWith (.Dict [] [] dpos) (some (.Name x pos')) pos.line X.env = pure false := by rfl) (hf : X.fn x = true ∨ X.env.scope.names.lookup x = some .local := by first | exact .inl rfl | exact .inr rfl) :
    PSs X (.Assign [.Name x pos'] (.Dict [] [] dpos) pos :: rest) (sD (yx X T E) (sSeq (sNewO i) B)) := PSs_imp (pss_cons (ps_set hN hi hx pe_dnewK hs hf) (PSs_kn h2)) fun Dn σ H h => by
  obtain ⟨g, ρ, z, st, o⟩ := h
  intro p hp kn
  have hK : X.K.lookup p = none := kn p (by rw [upd_same]; exact fun z => by cases z)
  unfold sSeq sNewO at o
  by_cases c : ownAt ρ i = false ∧ i < ρ.length
  · rw [if_pos c] at o
    have hpR : p ≠ g.R := fun e => st.badDom st.badR (by rw [← e]; exact hp)
    have sg := st.guard (H := upd H p (.dK [])) (z' := z) hp hK (.new hp) (new_wo st hp hK)
    have so := sg.setOwn (i := i) (d := .dS []) st.gR c.1 c.2 (fun q => st.badDom (.inl q) hp) (h0_none st hp) hK ⟨[], upd_same, rfl, .nil⟩
    exact ⟨g, _, z, so, OutOk.rebase o (own_stp st.len c.1 c.2 hp (.new hp))⟩
  · rw [if_neg c] at o
    exact o.elim
/-- x = {..}, a dict of its own -/
theorem pu_dispO {keys : List (Option Expr)} {vals : List Expr} {k0 : List Nat × (EnD → M D)} {ps : List (List Nat × (EnD → M D))} (hN : X.N.Nodup) (hi : X.N[i]? = some x) (hx : Loc X.env.scope x) (h : PPD X T dpos keys vals (k0 :: ps)) (h15 : (k0 :: ps).length ≤ 15 := by decide)
    (hs : swapsWith (.Dict keys vals dpos) (some (.Name x pos')) pos.line X.env = pure false := by rfl) (hf : X.fn x = true ∨ X.env.scope.names.lookup x = some .local := by first | exact .inl rfl | exact .inr rfl) :
    PS X (.Assign [.Name x pos'] (.Dict keys vals dpos) pos) (sD (yx X T E) (sDispO i (k0 :: ps))) :=
  PS_imp (ps_set hN hi hx (pe_disp h.run h.some (by rw [h.kl, h.vl]) (by intro e; have := h.kl; rw [e] at this; cases this) (by rw [h.kl]; exact h15)) hs hf) fun Dn σ H hh => by
    obtain ⟨g, ρ, z, st, o⟩ := hh
    intro p hp
    have hpR : p ≠ g.R := fun e => st.badDom st.badR (by rw [← e]; exact hp)
    obtain ⟨k, f⟩ := k0
    show tKy X k σ _ _
    intro kn
    have hK : X.K.lookup p = none := kn p (by rw [upd_same]; exact fun z => by cases z)
    have sg := (st.guard (H := upd H p (.dK [])) (z' := z) hp hK (.new hp) (new_wo st hp hK)).chE (E' := E0)
    have all := pairs_read (X := X) (T := T) (σ := σ) (p := p) (ps := (k, f) :: ps) (Q := fun pr H2 => H2 p = some (.dK []) ∧ ∃ kvs : List (Key × V), pr = kvs.map (fun kv => (kV kv.1, kv.2)) ∧ kvs.length ≤ 15 ∧ gName i (.ref p) σ (upd H2 p (.dK (mergeK [] kvs))) Dn.nx) sg ?_
    · exact all kn
    unfold sDispO at o
    have ne : ∀ {fs : List (EnD → M D)} {ρ : EnD} {z : S}, After (yx X T E0) (gd g p) (evsN fs ρ z) (fun _ _ => True) ∨ evsN fs ρ z = .bad := by
      intro fs
      induction fs with
      | nil => intro ρ z; exact .inl trivial
      | cons f fs ih =>
        intro ρ z
        unfold evsN mbind
        unfold mne
        cases e : f ρ z with
        | ok d z1 =>
          simp only
          rcases ih (ρ := ρ) (z := z1) with q | q
          · cases e2 : evsN fs ρ z1 with
            | ok ds z2 => left; simp only [mbind, e2, mpure]; trivial
            | exc x z2 =>
              rw [e2] at q
              left
              simp only [mbind, e2]
              exact q
            | bad => right; simp only [mbind, e2]
          · right; simp only [mbind, q]
        | exc x z1 => right; rfl
        | bad => right; rfl
    cases e : evsN (((k, f) :: ps).map (·.2)) ρ z with
    | bad => rw [e] at o; exact o.elim
    | exc x z' =>
      rcases ne (fs := ((k, f) :: ps).map (·.2)) (ρ := ρ) (z := z) with q | q
      · rw [e] at q; exact q
      · rw [e] at q; cases q
    | ok ds z' =>
      have hl := evsN_len e
      rw [e] at o
      have o : OutOk (yx X T E) g σ ρ H (if ownAt ρ i = false ∧ i < ρ.length then .nx (ρ.set i (some (.own (.dS (putAll [] ((((k, f) :: ps).map (·.1)).zip ds)))))) z' else .bad) Dn := o
      by_cases c : ownAt ρ i = false ∧ i < ρ.length
      · rw [if_pos c] at o
        intro vs H2 st2 ex2 r2
        have hD : H2 p = some (.dK []) := ex2.keep p _ upd_same hpR trivial
        refine ⟨hD, zipK (((k, f) :: ps).map (·.1)) vs, ?_, ?_, ?_⟩
        · rw [zipK_kv, List.map_map]; rfl
        · refine Nat.le_trans (zipK_len _ _) ?_
          rw [List.length_map]
          exact h15
        · have h0 := h0_none st hp
          have s3 := st2.upB (o' := .dK (mergeK [] (zipK (((k, f) :: ps).map (·.1)) vs))) (p := p) (.inr rfl) hpR hD trivial h0
          have bD : bad (gd g p) σ ρ p := .inl (.inr rfl)
          have r4 := Rs.mono (RdLe.up (o := .dK (mergeK [] (zipK (((k, f) :: ps).map (·.1)) vs))) bD) r2
          have dsr := merge_dsr (ks := ((k, f) :: ps).map (·.1)) (kvs := []) (es := []) (by rw [r2.length, hl, List.length_map, List.length_map]) r4 .nil
          have so := (s3.chE (E' := E)).setOwn (i := i) (d := .dS (putAll [] ((((k, f) :: ps).map (·.1)).zip ds))) st.gR c.1 c.2 (fun q => st.badDom (.inl q) hp) h0 hK (dsr.rs upd_same)
          exact o _ _ so (own_stp st.len c.1 c.2 hp (((Ext.new hp).trans ex2).upNew hp))
      · rw [if_neg c] at o
        exact o.elim
end
end DL
set_option Elab.async false
set_option linter.all false
set_option maxRecDepth 100000
set_option maxHeartbeats 2000000
/-! DL25: a tuple turned round. -/
namespace DL
open PySem PySem.Spec PyProof.Rows L2 HT

section
variable {prog : Program} {w : World} {A : Around} {E : Value → Shared → Prop} {s : Shared}
theorem adj_rev (n : Nat) : Builtin.Slice.sliceAdjust none none (-1) (n : Int) = ((n : Int) - 1, -1) := by
  unfold Builtin.Slice.sliceAdjust
  simp
theorem plc_rev (n : Nat) : Builtin.Slice.slicePlaces ((n : Int) - 1) (-1) (-1) = n := by
  unfold Builtin.Slice.slicePlaces
  simp
  omega
theorem fm_congr {α β : Type} {f g : α → Option β} : ∀ {l : List α}, (∀ x ∈ l, f x = g x) → l.filterMap f = l.filterMap g
  | [], _ => rfl
  | x :: l, h => by
    rw [List.filterMap_cons, List.filterMap_cons, h x (List.mem_cons_self ..), fm_congr fun y hy => h y (List.mem_cons_of_mem _ hy)]
theorem pick_rev (xs : Array Value) : ((List.range xs.size).filterMap fun (m : Nat) => xs[(((xs.size : Int) - 1) + (m : Int) * -1).toNat]?).toArray = xs.toList.reverse.toArray := by
  have e : (List.range xs.size).filterMap (fun (m : Nat) => xs[(((xs.size : Int) - 1) + (m : Int) * -1).toNat]?) = ((List.range xs.size).map fun k => xs.size - 1 - k).filterMap (xs[·]?) := by
    rw [List.filterMap_map]
    refine fm_congr fun m hm => ?_
    have := List.mem_range.mp hm
    show xs[(((xs.size : Int) - 1) + (m : Int) * -1).toNat]? = xs[xs.size - 1 - m]?
    rw [show (((xs.size : Int) - 1) + (m : Int) * -1).toNat = xs.size - 1 - m by omega]
  rw [e, PySem.W.krv_range, List.filterMap_reverse, PySem.W.krv_all]
theorem applied_rev {sl : Addr} {vl vu vs : Value} {n : Nat} {Q : Int × Int × Nat → Shared → Prop} (hs : s.heap.IsSliceOf sl vl vu vs) (pl : IsPart vl none) (pu : IsPart vu none) (ps : IsPart vs (some (-1)))
    (h : Q (((n : Int) - 1), -1, n) s) : wpAny (model prog w) A (Builtin.Slice.sliceApplied (.ref sl) (pure (n : Int))) Q E s := by
  obtain ⟨os, hos, hcs, hds⟩ := id hs
  unfold Builtin.Slice.sliceApplied Builtin.Slice.sliceFields
  refine wpAny_bind (wpAny_bind (wpAny_field hos hds (x := vl) rfl (wpAny_bind (wpAny_field hos hds (x := vu) rfl (wpAny_bind (wpAny_field hos hds (x := vs) rfl (wpAny_pure ?_)))))))
  refine wpAny_bind (slicePart_ ps ?_)
  show wpAny _ _ (if ((-1 : Int) == 0) = true then _ else _) _ _ s
  rw [if_neg (by decide)]
  refine wpAny_bind (slicePart_ pl (wpAny_bind (slicePart_ pu (wpAny_bind (wpAny_pure ?_)))))
  show wpAny _ _ (match Builtin.Slice.sliceAdjust none none (-1) (n : Int) with | (lo, hi) => pure (lo, (-1 : Int), Builtin.Slice.slicePlaces lo hi (-1))) _ _ s
  rw [adj_rev n]
  show wpAny _ _ (pure (((n : Int) - 1), (-1 : Int), Builtin.Slice.slicePlaces ((n : Int) - 1) (-1) (-1))) _ _ s
  rw [plc_rev]
  exact wpAny_pure h
theorem getItem_rev {t sl : Addr} {items : Array Value} {vl vu vs : Value} {Q : Value → Shared → Prop} (ht : IsTup s.heap t items) (hs : s.heap.IsSliceOf sl vl vu vs) (pl : IsPart vl none) (pu : IsPart vu none) (ps : IsPart vs (some (-1)))
    (h : Q (.ref s.heap.objs.size) { s with heap := s.heap.push { cls := .type "tuple", data := .seq items.toList.reverse.toArray } })
    (hsz : items.size ≤ sizeLine) : wpAny (model prog w) A (getItem (.ref t) (.ref sl)) Q E s := by
  have htake : sizeOk (.seq items.toList.reverse.toArray) := by
    show items.toList.reverse.toArray.size ≤ sizeLine
    rw [List.size_toArray, List.length_reverse, Array.length_toList]
    exact hsz
  obtain ⟨os, hos, hcs, hds⟩ := id hs
  have hTs : s.TypeIs (.ref sl) "slice" := ⟨os, hos, hcs⟩
  unfold getItem
  try with_reducible refine wpAny_holding ?_
  first | refine wpAny_bind (wpAny_pure ?_) | skip
  refine wpAny_bind (wpAny_sequenceKey ht.typeIs (by decide) ?_)
  refine wpAny_bind (wpAny_callSpecial?_slot (name := Str.ofString "__getitem__") ht.typeIs PyProof.Rows.slot_tuple_getitem
    (wpAny_call_entry PyProof.Rows.slot_tuple_getitem ht.typeIs entry_tuple_getitem ?_ (args_tuple_getitem _ _)))
  show wpAny _ _ (Builtin.Tuple.tupleItemsOf (.ref t) >>= _) _ _ s
  refine wpAny_bind (tupleItemsOf_ ht ?_)
  refine wpAny_bind (wpAny_typeOf hTs ?_)
  rw [if_pos (by decide)]
  refine wpAny_bind (applied_rev (n := items.size) hs pl pu ps ?_)
  show wpAny _ _ (if ((((items.size : Int) - 1)) == 0 && (-1 : Int) == 1 && items.size == items.size) = true then _ else _) _ _ s
  rw [if_neg (by simp), pick_rev]
  first
    | exact wpAny_bind (m := Builtin.Tuple.tupleExact _) (wpAny_newObj_type (wpAny_pure ⟨_, rfl, wpAny_pure h⟩) htake)
    | exact wpAny_bind (m := Builtin.Tuple.tupleExact _) (wpAny_newObj_type (wpAny_bind (wpAny_pure (wpAny_pure ⟨_, rfl, wpAny_pure h⟩))) htake)
    | exact wpAny_bind (wpAny_bind (m := Builtin.Tuple.tupleExact _) (wpAny_newObj_type (wpAny_pure (wpAny_pure ⟨_, rfl, wpAny_pure h⟩)) htake))
    | exact wpAny_bind (wpAny_bind (m := Builtin.Tuple.tupleExact _) (wpAny_newObj_type (wpAny_pure ⟨_, rfl, wpAny_pure h⟩) htake))
end
def tRevT (K : PySem.W.Frag) (te : TE) : TE := fun σ H Q => te σ H fun x H1 => ∃ a xs, x = .ref a ∧ SqT K H1 a xs ∧ NT H1 xs.reverse Q
theorem pe_revT {X : L2.Cx} {e : Expr} {te : TE} {k : Nat} {p1 p2 p3 pos : Pos} (he : PE X e te) : PE X (.Subscript e (.Slice none none (some (.UnaryOp .USub (.Constant (.int 1) k p1) p2)) p3) pos) (tRevT X.K te) := by
  refine ⟨fun pins s σ H Q I h => ?_⟩
  refine Subscript_ (thn (he.run pins s σ H _ I h) fun v s1 ⟨x, H1, I1, r1, q1⟩ => ?_)
  obtain ⟨a, xs, ex, hx, q⟩ := q1
  subst ex
  cases r1
  have hst : PO X (some (.UnaryOp .USub (.Constant (.int 1) k p1) p2)) (tPart (tUn (rU fun i => .int (-i)) (tC (.int 1)))) := po_some (pe_un un_neg pe_int)
  refine wpAny_Slice (thn (po_none.run pins s1 σ H1 (fun o H2 => o = none ∧ H2 = H1) I1 ⟨rfl, rfl⟩) fun vl s2 ⟨l, H2, I2, pl, el, e2⟩ => ?_)
  subst el e2
  refine thn (po_none.run pins s2 σ H2 (fun o H3 => o = none ∧ H3 = H2) I2 ⟨rfl, rfl⟩) fun vu s3 ⟨u, H3, I3, pu, eu, e3⟩ => ?_
  subst eu e3
  refine thn (hst.run pins s3 σ H3 (fun o H4 => o = some (-1) ∧ H4 = H3) I3 ⟨1, rfl, -1, rfl, rfl, rfl⟩) fun vs s4 ⟨o, H4, I4, ps, eo, e4⟩ => ?_
  subst eo e4
  have I5 : Inv X pins σ H4 { s4 with heap := s4.heap.push { cls := .type "slice", data := .fields #[vl, vu, vs] } } := I4.kept (t' := s4.toks) fun b ob q => Heap.get?_push_of_some _ q
  obtain ⟨its, r, ht, hz⟩ := I5.tuple hx
  have hlen := r.length
  show wpAny (model X.prog X.w) X.A (subscriptTail e (.Slice none none (some (.UnaryOp .USub (.Constant (.int 1) k p1) p2)) p3) (.ref a) (.ref s4.heap.objs.size)) (EP X pins σ Q) X.xe { s4 with heap := s4.heap.push { cls := .type "slice", data := .fields #[vl, vu, vs] } }
  refine tail_any (ops := [.ref a, .ref s4.heap.objs.size]) ht.typeIs (PyProof.Rows.slot_tuple_getitem.lookup) ?_ (by with_unfolding_all rfl)
  refine getItem_rev ht (Heap.IsSliceOf.new _ vl vu vs) pl pu ps ?_ (by rw [List.size_toArray]; omega)
  exact laidT (t' := s4.toks) I5 r.reverse (by rw [List.length_reverse]; exact hz) (fun _ _ e => e) (Nat.le_refl _) q
def revD : D → Option D
  | .tup xs => some (.tup xs.reverse)
  | _ => none
theorem Rs.reverse {K : PySem.W.Frag} {H : Hp} {R : Addr} {B : Addr → Prop} : ∀ {vs : List V} {ds : List D}, Rs K H R B vs ds → Rs K H R B vs.reverse ds.reverse
  | [], _, h => by cases h; exact .nil
  | v :: vs, [], h => by cases h
  | v :: vs, d :: ds, h => by
    rw [List.reverse_cons, List.reverse_cons]
    exact (Rs.reverse h.split.2).append h.split.1
theorem pu_rev {X : L2.Cx} {T : Tb} {E : XK} {e : Expr} {f : EnD → M D} {k : Nat} {p1 p2 p3 pos : Pos} (he : PE X e (tD (yx X T E) f)) : PE X (.Subscript e (.Slice none none (some (.UnaryOp .USub (.Constant (.int 1) k p1) p2)) p3) pos) (tD (yx X T E) (e1 (op1 revD) f)) :=
  PE_imp (pe_revT he) fun σ H Q h => by
    obtain ⟨g, ρ, z, st, a⟩ := tD_bind (k := fun _ => op1 revD) h
    refine ⟨g, ρ, z, st, a.imp fun d z1 _ h1 v H1 st1 e1 r1 => ?_⟩
    obtain ⟨g2, ρ2, z2, d2, st2, r2, a2⟩ := h1 v H1 st1 e1 r1
    obtain ⟨r, hr, q⟩ := a2.opt
    cases d2 <;> simp only [revD, reduceCtorEq, Option.some.injEq] at hr
    subst hr
    obtain ⟨a, us, rfl, hq, n, rs⟩ := r2.tupl
    exact ⟨a, us, rfl, hq.sq, fun p ob hp hd => q _ _ (st2.new hp) (.new hp) (st2.tup hp hd rs.reverse)⟩
end DL
set_option Elab.async false
set_option linter.all false
set_option maxRecDepth 100000
set_option maxHeartbeats 1000000
/-! SUT: sum of a tuple of ints. -/
namespace SUT
open PySem PySem.Spec PyProof.Rows L2
section
variable {prog : Program} {w : World} {A : Around} {E : Value → Shared → Prop} {s : Shared} {l : Addr} {xs : Array (Int × Tok)}
theorem sum_intTup {Q : Value → Shared → Prop} (hh : A.handled = none) (hl : s.heap.IsTuple l (intItems xs))
    (h : ∀ h' tk t', (∀ b o, s.heap.get? b = some o → h'.get? b = some o) → Q (.int (preSum (numAt xs) xs.size) t') { s with heap := h', toks := tk }) :
    wpAny (model prog w) A (call (.builtin "sum") [.ref l]) Q E s := by
  have hlt : l < s.heap.objs.size := by obtain ⟨_, e, _⟩ := hl; exact Heap.lt_size e
  refine call_sum_walkG (wpAny_pyIter_tuple hl ?_)
  refine ⟨_, [_, l], [_], _, _, _, numAt xs, rfl, Walks.tuple (A := A.in1) hh _ l (Nat.ne_of_lt hlt) (intItems xs), ⟨⟨_, Heap.get?_push_size _ rfl, rfl, rfl⟩, hl.push _⟩, fun c hc => ?_, (fun _ _ => intItems_at), fun h' tk t' hk => ?_⟩
  · show c < (s.heap.push _).objs.size
    rw [Heap.size_push]
    rcases List.mem_cons.mp hc with rfl | hc
    · exact Nat.lt_succ_self _
    · rcases List.mem_cons.mp hc with rfl | hc
      · exact Nat.lt_succ_of_lt hlt
      · cases hc
  · have := h h' tk t' fun b o e => by
      refine hk b o (fun hm => ?_) (Heap.get?_push_of_some _ e)
      rcases List.mem_cons.mp hm with e1 | hm
      · exact absurd (e1 ▸ Heap.lt_size e) (Nat.lt_irrefl _)
      · cases hm
    simpa [intItems] using this
end
section
variable {X : Cx}
def rSumT (K : PySem.W.Frag) : List V → Hp → VK → Prop := fun vs H Q => ∃ (a : Addr) (ns : List Int), vs = [V.ref a] ∧ SqT K H a (ns.map V.int) ∧ Q (.int ns.sum) H
theorem cr_sumT (hc : X.calm = true) : CallR X (.builtin "sum") (rSumT X.K) := by
  intro pins s σ H vs us Q I r h
  obtain ⟨a, ns, rfl, hs, q⟩ := h
  obtain ⟨its, rv, p, hz⟩ := I.tuple hs
  rw [Vals.ref1 r]
  have hi := rv.ints
  obtain ⟨xs, e⟩ := hi.allInts.items
  have hn : numsOf (intItems xs).toList = ns := by rw [← e]; exact hi.numsOf
  rw [nums_intItems] at hn
  have hp : s.heap.IsTuple a its.toArray := p
  rw [e] at hp
  refine sum_intTup (I.ok.hd hc) hp fun h' tk t' hk => ⟨.int ns.sum, H, I.kept hk, ⟨t', ?_⟩, q⟩
  rw [preSum_eq, List.take_of_length_le (by simp), hn]
end
end SUT
set_option Elab.async false
set_option linter.all false
set_option maxRecDepth 100000
set_option maxHeartbeats 1000000
/-! DL26: sums and orders of lists of ints; get of an own dict; three names at once. -/
namespace DL
open PySem PySem.Spec PyProof.Rows L2

def intsD : List D → Option (List Int)
  | [] => some []
  | .int i :: r => (intsD r).map fun is => i :: is
  | _ => none
theorem intsRs {K : PySem.W.Frag} {H : Hp} {R : Addr} {B : Addr → Prop} : ∀ {ds : List D} {vs : List V} {is : List Int}, Rs K H R B vs ds → intsD ds = some is → vs = is.map V.int ∧ ds = is.map .int
  | [], vs, is, r, h => by
    cases r
    simp [intsD] at h
    subst h
    exact ⟨rfl, rfl⟩
  | d :: ds, vs, is, r, h => by
    cases vs with
    | nil => cases r
    | cons v vs =>
      obtain ⟨r1, r2⟩ := r.split
      cases d <;> simp only [intsD, reduceCtorEq, Option.map_eq_some_iff] at h
      obtain ⟨is', h1, rfl⟩ := h
      cases r1.int
      obtain ⟨e1, e2⟩ := intsRs r2 h1
      rw [e1, e2]
      exact ⟨rfl, rfl⟩
theorem ints_rs {K : PySem.W.Frag} {H : Hp} {R : Addr} {B : Addr → Prop} : ∀ is : List Int, Rs K H R B (is.map V.int) (is.map .int)
  | [] => .nil
  | i :: is => .atom .int (ints_rs is)
def sumD : D → Option D
  | .lst ds => (intsD ds).map fun is => .int is.sum
  | .tup ds => (intsD ds).map fun is => .int is.sum
  | _ => none
def insI (x : Int) : List Int → List Int
  | [] => [x]
  | y :: r => if x ≤ y then x :: y :: r else y :: insI x r
def sortI : List Int → List Int
  | [] => []
  | x :: r => insI x (sortI r)
def sortD : D → Option D
  | .lst ds => (intsD ds).map fun is => .lst ((sortI is).map .int)
  | _ => none
theorem insI_perm (x : Int) : ∀ l : List Int, (insI x l).Perm (x :: l)
  | [] => .refl _
  | y :: r => by
    unfold insI
    split
    · exact .refl _
    · exact ((insI_perm x r).cons y).trans (.swap x y r)
theorem sortI_perm : ∀ l : List Int, (sortI l).Perm l
  | [] => .refl _
  | x :: r => (insI_perm x (sortI r)).trans ((sortI_perm r).cons x)
theorem insI_sorted (x : Int) : ∀ l : List Int, l.Pairwise (· ≤ ·) → (insI x l).Pairwise (· ≤ ·)
  | [], _ => List.pairwise_singleton _ _
  | y :: r, h => by
    have h0 := List.pairwise_cons.mp h
    unfold insI
    split
    · rename_i c
      exact List.pairwise_cons.mpr ⟨fun z hz => by
        rcases List.mem_cons.mp hz with rfl | hz
        · exact c
        · exact Int.le_trans c (h0.1 z hz), h⟩
    · rename_i c
      refine List.pairwise_cons.mpr ⟨fun z hz => ?_, insI_sorted x r h0.2⟩
      rcases List.mem_cons.mp ((insI_perm x r).mem_iff.mp hz) with rfl | hz
      · omega
      · exact h0.1 z hz
theorem sortI_sorted : ∀ l : List Int, (sortI l).Pairwise (· ≤ ·)
  | [] => .nil
  | x :: r => insI_sorted x _ (sortI_sorted r)
theorem sorted_uniq : ∀ {a b : List Int}, a.Perm b → a.Pairwise (· ≤ ·) → b.Pairwise (· ≤ ·) → a = b
  | [], b, p, _, _ => (List.nil_perm.mp p).symm ▸ rfl
  | x :: a, [], p, _, _ => absurd p.length_eq (by simp)
  | x :: a, y :: b, p, ha, hb => by
    have h1 := List.pairwise_cons.mp ha
    have h2 := List.pairwise_cons.mp hb
    have e : x = y := by
      have m1 : x ∈ y :: b := p.mem_iff.mp (List.mem_cons_self ..)
      have m2 : y ∈ x :: a := p.mem_iff.mpr (List.mem_cons_self ..)
      rcases List.mem_cons.mp m1 with e | m1
      · exact e
      · rcases List.mem_cons.mp m2 with e | m2
        · exact e.symm
        · exact Int.le_antisymm (h1.1 y m2) (h2.1 x m1)
    subst e
    rw [sorted_uniq (List.Perm.cons_inv p) h1.2 h2.2]
def eGetO1 (i : Nat) (fk : EnD → M D) : EnD → M D := fun ρ => mbind (mopt (ownD ρ i)) fun es => mbind (fk ρ) fun k => mopt ((asS k).map fun w => (getS es w).getD .non)
def eGetO2 (i : Nat) (fk fd : EnD → M D) : EnD → M D := fun ρ => mbind (mopt (ownD ρ i)) fun es => mbind (fk ρ) fun k => mbind (fd ρ) fun d => mopt ((asS k).map fun w => (getS es w).getD d)
section
variable {X : L2.Cx} {T : Tb} {E : XK} {b c e : Expr} {fb fc fv : EnD → M D} {pos p px apos : Pos} {σ : L2.St} {H : Hp} {Q : VK} {x : Str} {i k : Nat}
theorem cd_sum (hc : X.calm = true) : CallD1 X T E (.builtin "sum") (op1 sumD) := callD1_of fun g H σ ρ z v d r Q st rv h q => by
  cases d <;> simp only [sumD, reduceCtorEq, Option.map_eq_some_iff] at h
  case tup =>
    obtain ⟨is, h1, rfl⟩ := h
    obtain ⟨a, us, rfl, hq, n, rs⟩ := rv.tupl
    obtain ⟨rfl, _⟩ := intsRs rs h1
    exact ⟨_, SUT.cr_sumT hc, a, is, rfl, hq.sq, q _ H st .refl (.atom .int .nil)⟩
  case lst =>
    obtain ⟨is, h1, rfl⟩ := h
    obtain ⟨a, us, rfl, hq, n, rs⟩ := rv.list
    obtain ⟨rfl, _⟩ := intsRs rs h1
    exact ⟨_, cr_sum hc, a, is, rfl, .inl (.inl hq), q _ H st .refl (.atom .int .nil)⟩
theorem cd_sorted : CallD1 X T E (.builtin "sorted") (op1 sortD) := callD1_of fun g H σ ρ z v d r Q st rv h q => by
  cases d <;> simp only [sortD, reduceCtorEq, Option.map_eq_some_iff] at h
  obtain ⟨is, h1, rfl⟩ := h
  obtain ⟨a, us, rfl, hq, n, rs⟩ := rv.list
  obtain ⟨rfl, _⟩ := intsRs rs h1
  refine ⟨_, cr_sortedI, a, is, rfl, .inl (.inl hq), fun ns' p hp hs hn => ?_⟩
  obtain rfl := sorted_uniq (hp.trans (sortI_perm is).symm) hs (sortI_sorted is)
  exact q _ _ (st.new hn) (.new hn) (st.lst hn (ints_rs _))
theorem pu_getO1 (hr : Room k X.A) (hN : X.N[i]? = some x) (hv : Vis X.env.scope x) (hb : PE X b (tD (yx X T E) fb)) (m : M1 X (.Name x px) "get" apos b pos) (hd : (x == ("__debug__" : Str)) = false := by decide) (hcd : (x == ("__classdict__" : Str)) = false := by decide) :
    PE X (.Call (.Attribute (.Name x px) "get" apos) [b] [] pos) (tD (yx X T E) (eGetO1 i fb)) := PE_imp (pe_dget1 (by have := hr.un; omega) (pe_var hN hv hd hcd) hb m) fun σ H Q h => by
  obtain ⟨g, ρ, z, st, h⟩ := h
  obtain ⟨es, ho, h⟩ := h.bind.opt
  obtain ⟨a, h1, _, _, _, kvs0, hk0, _⟩ := st.own i _ (ownD_some ho)
  refine ⟨_, h1, a, rfl, .inl ⟨kvs0, .inl hk0⟩, g, ρ, z, st, h.bind.imp fun d z1 _ h2 v H1 st1 e1 r1 => ?_⟩
  obtain ⟨r, hr', q⟩ := h2.opt
  obtain ⟨w, hw, rfl⟩ := Option.map_eq_some_iff.mp hr'
  obtain rfl : d = .str w := by cases d <;> simp_all [asS]
  cases r1.str
  obtain ⟨a', s1, s2, s3, s4, s5⟩ := st1.own i _ (ownD_some ho)
  rw [h1] at s1
  cases s1
  obtain ⟨kvs, hk, k1, k2⟩ := s5
  have dg := (DSR.mk k1 k2).get w
  refine ⟨_, .inl ⟨kvs, Sum.inr (ST w), .inl hk, rfl, rfl⟩, ?_⟩
  cases e : getS es w with
  | none =>
    rw [dg.2 e]
    rw [e] at q
    exact q _ H1 st1 e1 (.atom .non .nil)
  | some d =>
    obtain ⟨u, g1, g2⟩ := dg.1 d e
    rw [g1]
    rw [e] at q
    exact q _ H1 st1 e1 g2
theorem pu_getO2 (hr : Room k X.A) (hN : X.N[i]? = some x) (hv : Vis X.env.scope x) (hb : PE X b (tD (yx X T E) fb)) (hc : PE X c (tD (yx X T E) fc)) (m : M2 X (.Name x px) "get" apos b c pos) (hd : (x == ("__debug__" : Str)) = false := by decide) (hcd : (x == ("__classdict__" : Str)) = false := by decide) :
    PE X (.Call (.Attribute (.Name x px) "get" apos) [b, c] [] pos) (tD (yx X T E) (eGetO2 i fb fc)) := PE_imp (pe_dget2 (by have := hr.un; omega) (pe_var hN hv hd hcd) hb hc m) fun σ H Q h => by
  obtain ⟨g, ρ, z, st, h⟩ := h
  obtain ⟨es, ho, h⟩ := h.bind.opt
  obtain ⟨a, h1, _, _, _, kvs0, hk0, _⟩ := st.own i _ (ownD_some ho)
  refine ⟨_, h1, a, rfl, .inl ⟨kvs0, .inl hk0⟩, g, ρ, z, st, h.bind.imp fun d z1 _ h2 v H1 st1 e1 r1 => ⟨g, ρ, z1, st1, h2.bind.imp fun dd z2 _ h3 u2 H2 st2 e2 r2 => ?_⟩⟩
  obtain ⟨r, hr', q⟩ := h3.opt
  obtain ⟨w, hw, rfl⟩ := Option.map_eq_some_iff.mp hr'
  obtain rfl : d = .str w := by cases d <;> simp_all [asS]
  cases r1.str
  obtain ⟨a', s1, s2, s3, s4, s5⟩ := st2.own i _ (ownD_some ho)
  rw [h1] at s1
  cases s1
  obtain ⟨kvs, hk, k1, k2⟩ := s5
  have dg := (DSR.mk k1 k2).get w
  refine ⟨_, .inl ⟨kvs, Sum.inr (ST w), .inl hk, rfl, rfl⟩, ?_⟩
  cases e : getS es w with
  | none =>
    rw [dg.2 e]
    rw [e] at q
    exact q _ H2 st2 (e1.trans e2) r2
  | some d =>
    obtain ⟨u, g1, g2⟩ := dg.1 d e
    rw [g1]
    rw [e] at q
    exact q _ H2 st2 (e1.trans e2) g2
end
end DL
set_option Elab.async false
set_option linter.all false
set_option maxRecDepth 100000
set_option maxHeartbeats 1000000
/-! DL27: three names at once; two stores into an own dict at once. -/
namespace DL
open PySem PySem.Spec PyProof.Rows L2

def sPar3 (i j l : Nat) (fa fb fc : EnD → M D) : SM := fun ρ z => obind (evs [fa, fb, fc] ρ z) fun ds z' => match ds with
  | [a, b, c] => if ownAt ρ i || ownAt ρ j || ownAt ρ l then .bad else .nx (((ρ.set i (some (.val a))).set j (some (.val b))).set l (some (.val c))) z'
  | _ => .bad
/-- x[k1], x[k2] = .., x an own dict -/
def sPut2O (i : Nat) (k1 k2 : List Nat) (fa fb : EnD → M D) : SM := fun ρ z => match ownD ρ i with
  | none => .bad
  | some es => obind (evs [fa, fb] ρ z) fun ds z' => match ds with
    | [a, b] => if es.length < 1000 then .nx ((ρ.set i (some (.own (.dS (putS es k1 a))))).set i (some (.own (.dS (putS (putS es k1 a) k2 b))))) z' else .bad
    | _ => .bad
theorem putS_len (es : List (List Nat × D)) (k : List Nat) (d : D) : (putS es k d).length ≤ es.length + 1 := by
  unfold putS
  split
  · rw [List.length_map]; omega
  · simp
section
variable {X : L2.Cx} {T : Tb} {E : XK} {a b c : Expr} {fa fb fc : EnD → M D} {pos p px py pz pt pt2 : Pos} {σ : L2.St} {x y u : Str} {i j l k : Nat}
theorem own_put {Y : Yx} {g : G} {H : Hp} {ρ : EnD} {z : S} {es : List (List Nat × D)} {w : List Nat} {v : V} {d : D} (st : StR Y g H σ ρ z) (hρ : ρ[i]? = some (some (.own (.dS es)))) (r : R1 Y.K H g.R (bad g σ ρ) v d) (hl : es.length < 100000) :
    ∃ a H', σ[i]? = some (some (.ref a)) ∧ DPut H a (.str (ST w)) v H' ∧ StR Y g H' σ (ρ.set i (some (.own (.dS (putS es w d))))) z ∧ Stp g.R σ ρ H σ (ρ.set i (some (.own (.dS (putS es w d))))) H' ∧ RdLe (bad g σ ρ) H H' := by
  obtain ⟨a, s1, t2, t3, t4, t5⟩ := st.own i _ hρ
  obtain ⟨kvs, hk, k1, k2⟩ := t5
  have dsr := DSR.mk k1 k2
  have hB : bad g σ ρ a := .inr ⟨i, _, hρ, s1⟩
  have dsr2 := (dsr.put (k := w) r).mono (RdLe.up (o := .dK (putK kvs (Sum.inr (ST w)) v)) hB)
  refine ⟨a, _, s1, .inl ⟨kvs, Sum.inr (ST w), hk, rfl, ?_, rfl⟩, st.put hρ s1 (dsr2.rs upd_same), ⟨fun b u h1 h2 h3 h4 => ?_, fun b q => ?_, fun b q => .inl ?_⟩, RdLe.up hB⟩
  · have := dsr.length
    rw [sizeLine_eq]
    omega
  · have nb : b ≠ a := fun e => h3 ⟨i, _, hρ, by rw [e]; exact s1⟩
    rw [upd_ne nb]
    exact h1
  · by_cases c : b = a
    · rw [c, upd_same]; exact fun z => by cases z
    · rw [upd_ne c]; exact q
  · have be := bad_put (g := ⟨0, fun _ => False, fun _ => none⟩) (σ := σ) (d := .dS (putS es w d)) ⟨_, hρ⟩
    have q2 : bad (⟨0, fun _ => False, fun _ => none⟩ : G) σ (ρ.set i (some (.own (.dS (putS es w d))))) b := .inr q
    rw [be] at q2
    exact q2.elim False.elim id
theorem pu_put2O {k1 k2 : Str} {z1 z2 : List Nat} {j1 j2 kt : Nat} {k3} {q1 q2 q3 q4 q5 q6 : Pos} (hk1 : k1 = ST z1) (hk2 : k2 = ST z2) (hr : Room k X.A) (hc : X.calm = true) (hN : X.N[i]? = some x) (hv : Vis X.env.scope x) (ha : PA X [a, b] (taD (yx X T E) (evs [fa, fb])))
    (hw : swappedStores [.Tuple [.Subscript (.Name x q1) (.Constant (.str k1) j1 q2) q3, .Subscript (.Name x q4) (.Constant (.str k2) j2 q5) q6] kt pt] (.Tuple [a, b] k3 pt2) X.env = pure none := by rfl)
    (hs : swapsWithSole [.Tuple [.Subscript (.Name x q1) (.Constant (.str k1) j1 q2) q3, .Subscript (.Name x q4) (.Constant (.str k2) j2 q5) q6] kt pt] (.Tuple [a, b] k3 pt2) pos.line X.env = pure false := by rfl)
    (hd : (x == ("__debug__" : Str)) = false := by decide) (hcd : (x == ("__classdict__" : Str)) = false := by decide) :
    PS X (.Assign [.Tuple [.Subscript (.Name x q1) (.Constant (.str k1) j1 q2) q3, .Subscript (.Name x q4) (.Constant (.str k2) j2 q5) q6] kt pt] (.Tuple [a, b] k3 pt2) pos) (sD (yx X T E) (sPut2O i z1 z2 fa fb)) := by
  subst hk1 hk2
  have hu : X.A.units + 1 < cLine := by have := hr.un; omega
  refine PS_imp (ps_asg (pe_tupF ha) (pg_tup (n := 2) hc (pgs_cons (pg_sub (pe_var hN hv hd hcd) pe_str (set_dict hu)) (pgs_cons (pg_sub (pe_var hN hv hd hcd) pe_str (set_dict hu)) pgs_nil))) hs hw) fun Dn σ H h => ?_
  obtain ⟨g, ρ, z, st, o⟩ := h
  unfold sPut2O at o
  cases ho : ownD ρ i with
  | none => rw [ho] at o; exact o.elim
  | some es =>
    rw [ho] at o
    have hρ := ownD_some ho
    have hi : i < ρ.length := (List.getElem?_eq_some_iff.mp hρ).1
    refine ⟨g, ρ, z, st, o.bind.imp fun ds z1' he h1 vs H1 st1 e1 r1 => ⟨by rw [r1.length, evs_length he]; exact small_len (n := 2) (by decide), fun p ob hp hd' => ?_⟩⟩
    have hl := evs_length he
    obtain ⟨d, e, rfl⟩ : ∃ d e, ds = [d, e] := by
      match ds, hl with
      | [d, e], _ => exact ⟨d, e, rfl⟩
    obtain ⟨v, w, rfl⟩ : ∃ v w, vs = [v, w] := by
      have := r1.length
      match vs, this with
      | [v, w], _ => exact ⟨v, w, rfl⟩
    simp only at h1
    by_cases c : es.length < 1000
    · rw [if_pos c] at h1
      have st2 := st1.new (o := .frz ob (.tup [v, w])) hp
      have rd := (Ext.new (R := g.R) (o := .frz ob (.tup [v, w])) hp).rd st1.badR
      obtain ⟨a1, H3, s1, dp1, st3, sp1, rd1⟩ := own_put (w := z1) st2 hρ (r1.split.1.mono rd) (by omega)
      have hρ3 : (ρ.set i (some (.own (.dS (putS es z1 d)))))[i]? = some (some (.own (.dS (putS es z1 d)))) := List.getElem?_set_self hi
      have be := bad_put (g := g) (σ := σ) (d := .dS (putS es z1 d)) ⟨_, hρ⟩
      have r2 : R1 X.K H3 g.R (bad g σ (ρ.set i (some (.own (.dS (putS es z1 d)))))) w e := by
        rw [be]
        exact (r1.split.2.mono rd).mono rd1
      obtain ⟨a2, H4, s2, dp2, st4, sp2, _⟩ := own_put (w := z2) st3 hρ3 r2 (by have := putS_len es z1 d; omega)
      refine ⟨p, [v, w], rfl, .inl (.inr ⟨ob, upd_same⟩), rfl, v, [w], rfl, ?_⟩
      refine ⟨_, s1, a1, H3, rfl, dp1, w, [], rfl, _, s2, a2, H4, rfl, dp2, rfl, ?_⟩
      exact h1 _ _ st4 ((Stp.ext (e1.trans (.new hp))).trans (sp1.trans sp2))
    · rw [if_neg c] at h1
      exact h1.elim
theorem par3_read {D' : Ends} {H : Hp} (h : sD (yx X T E) (sPar3 i j l fa fb fc) D' σ H) : taD (yx X T E) (evs [fa, fb, fc]) σ H fun vs H1 => ∃ v w t g ρ d e f z', vs = [v, w, t] ∧ StR (yx X T E) g H1 σ ρ z' ∧ R1 X.K H1 g.R (bad g σ ρ) v d ∧ R1 X.K H1 g.R (bad g σ ρ) w e ∧ R1 X.K H1 g.R (bad g σ ρ) t f ∧ ownAt ρ i = false ∧ ownAt ρ j = false ∧ ownAt ρ l = false ∧
    ∀ σ' H', StR (yx X T E) g H' σ' (((ρ.set i (some (.val d))).set j (some (.val e))).set l (some (.val f))) z' → Stp g.R σ ρ H1 σ' (((ρ.set i (some (.val d))).set j (some (.val e))).set l (some (.val f))) H' → D'.nx σ' H' := by
  obtain ⟨g, ρ, z, st, o⟩ := h
  refine ⟨g, ρ, z, st, o.bind.imp fun ds z1 he h1 vs H1 st1 e1 r1 => ?_⟩
  have hl := evs_length he
  obtain ⟨d, e, f, rfl⟩ : ∃ d e f, ds = [d, e, f] := by
    match ds, hl with
    | [d, e, f], _ => exact ⟨d, e, f, rfl⟩
  simp only at h1
  obtain ⟨v, w, t, rfl⟩ : ∃ v w t, vs = [v, w, t] := by
    have := r1.length
    match vs, this with
    | [v, w, t], _ => exact ⟨v, w, t, rfl⟩
  by_cases c : (ownAt ρ i || ownAt ρ j || ownAt ρ l) = true
  · rw [if_pos c] at h1; exact h1.elim
  · rw [if_neg c] at h1
    simp only [Bool.or_eq_true, not_or, Bool.not_eq_true] at c
    exact ⟨v, w, t, g, ρ, d, e, f, z1, rfl, st1, r1.split.1, r1.split.2.split.1, r1.split.2.split.2, c.1.1, c.1.2, c.2, fun σ' H' s sp => h1 σ' H' s ((Stp.ext e1).trans sp)⟩
theorem set3 {g : G} {ρ : EnD} {z : S} {v w t : V} {d e f : D} {H : Hp} (st : StR (yx X T E) g H σ ρ z) (c1 : ownAt ρ i = false) (c2 : ownAt ρ j = false) (c3 : ownAt ρ l = false) (rv : R1 X.K H g.R (bad g σ ρ) v d) (rw' : R1 X.K H g.R (bad g σ ρ) w e) (rt : R1 X.K H g.R (bad g σ ρ) t f) :
    StR (yx X T E) g H (((σ.set i (some v)).set j (some w)).set l (some t)) (((ρ.set i (some (.val d))).set j (some (.val e))).set l (some (.val f))) z ∧ Stp g.R σ ρ H (((σ.set i (some v)).set j (some w)).set l (some t)) (((ρ.set i (some (.val d))).set j (some (.val e))).set l (some (.val f))) H := by
  obtain ⟨s2, sp⟩ := set2 (i := i) (j := j) st c1 c2 rv rw'
  have c4 : ownAt (ρ.set i (some (.val d))) j = false := by rw [ownAt_set c1 (y := some (.val d)) trivial]; exact c2
  have c5 : ownAt ((ρ.set i (some (.val d))).set j (some (.val e))) l = false := by
    rw [ownAt_set c4 (y := some (.val e)) trivial, ownAt_set c1 (y := some (.val d)) trivial]; exact c3
  exact ⟨s2.setv c5 (by rw [bad_setv c4, bad_setv c1]; exact rt), sp.trans (.setv c5 trivial)⟩
theorem pu_unp3 {kt : Nat} {k2} (hc : X.calm = true) (gi : PG X (.Name x px) (gName i)) (gj : PG X (.Name y py) (gName j)) (gl : PG X (.Name u pz) (gName l)) (ha : PA X [a, b, c] (taD (yx X T E) (evs [fa, fb, fc])))
    (hw : swappedStores [.Tuple [.Name x px, .Name y py, .Name u pz] kt pt] (.Tuple [a, b, c] k2 pt2) X.env = pure none := by rfl)
    (hs : swapsWithSole [.Tuple [.Name x px, .Name y py, .Name u pz] kt pt] (.Tuple [a, b, c] k2 pt2) pos.line X.env = pure false := by rfl) :
    PS X (.Assign [.Tuple [.Name x px, .Name y py, .Name u pz] kt pt] (.Tuple [a, b, c] k2 pt2) pos) (sD (yx X T E) (sPar3 i j l fa fb fc)) := PS_imp (ps_asg (pe_tupF ha) (pg_tup (n := 3) hc (pgs_cons gi (pgs_cons gj (pgs_cons gl pgs_nil)))) hs hw) fun D' σ H h => ta_mono (par3_read h) fun vs H1 ⟨v, w, t, g, ρ, d, e, f, z', ev, st, rv, rw', rt, c1, c2, c3, q⟩ => by
  subst ev
  refine ⟨small_len (n := 3) (by decide), fun p ob hp hd => ?_⟩
  have rd := (Ext.new (R := g.R) (o := .frz ob (.tup [v, w, t])) hp).rd st.badR
  obtain ⟨s2, sp⟩ := set3 (st.new hp) c1 c2 c3 (rv.mono rd) (rw'.mono rd) (rt.mono rd)
  exact ⟨p, [v, w, t], rfl, .inl (.inr ⟨ob, upd_same⟩), rfl, v, [w, t], rfl, w, [t], rfl, t, [], rfl, rfl, q _ _ s2 ((Stp.ext (.new hp)).trans sp)⟩
theorem pu_par3 {kt k2} (hc : X.calm = true) (hN : X.N.Nodup) (hi : X.N[i]? = some x) (hj : X.N[j]? = some y) (hl : X.N[l]? = some u) (hij : i ≠ j) (hil : i ≠ l) (hjl : j ≠ l)
    (hx : X.env.scope.names.lookup x = some .local) (hy : X.env.scope.names.lookup y = some .local) (hz : X.env.scope.names.lookup u = some .local) (ha : PA X [a, b, c] (taD (yx X T E) (evs [fa, fb, fc])))
    (hw : swappedStores [.Tuple [.Name x px, .Name y py, .Name u pz] kt pt] (.Tuple [a, b, c] k2 pt2) X.env = pure (some [x, y, u]))
    (hs : swapsWithSole [.Tuple [.Name x px, .Name y py, .Name u pz] kt pt] (.Tuple [a, b, c] k2 pt2) pos.line X.env = pure false := by rfl) :
    PS X (.Assign [.Tuple [.Name x px, .Name y py, .Name u pz] kt pt] (.Tuple [a, b, c] k2 pt2) pos) (sD (yx X T E) (sPar3 i j l fa fb fc)) := PS_imp (ps_par3 hc hN hi hj hl hij hil hjl hx hy hz ha hw hs) fun D' σ H h => ta_mono (par3_read h) fun vs H1 ⟨v, w, t, g, ρ, d, e, f, z', ev, st, rv, rw', rt, c1, c2, c3, q⟩ => by
  obtain ⟨s2, sp⟩ := set3 st c1 c2 c3 rv rw' rt
  exact ⟨v, w, t, ev, q _ H1 s2 sp⟩
end
end DL
set_option Elab.async false
set_option linter.all false
set_option maxRecDepth 100000
set_option maxHeartbeats 1000000
/-! DL28: what the later words give. -/
namespace DL
open PySem PySem.Spec PyProof.Rows L2

section
variable {α β : Type} {z : S} {ρ : EnD} {i j l : Nat} {d : D} {Qn : EnD → S → Prop} {Qr : D → S → Prop}
theorem eCallN_ev {A : Nat → Addr} {fs : Nat → Option (List D → M D)} {as : List (EnD → M D)} {F : List D → M D} {Q : D → S → Prop} (h : ρ[i]? = some (some (.val (.fn j (A j))))) (hf : fs j = some F) : WP (eCallN A fs i as ρ) z Q = WP (evs as ρ) z fun ds z' => WP (F ds) z' Q := by
  unfold eCallN
  rw [h]
  simp only [if_true, hf]
  rw [WP_bind]
  congr; funext ds z'
  exact WP_ne
@[simp] theorem revD_tup {xs : List D} : revD (.tup xs) = some (.tup xs.reverse) := rfl
@[simp] theorem tblD_str {tbl : List (List Nat × D)} {w : List Nat} : tblD tbl (.str w) = getS tbl w := rfl
@[simp] theorem shlD_int {a b : Int} : shlD (.int a) (.int b) = if 0 ≤ b ∧ b ≤ 1000000 ∧ a.natAbs < 2 ^ 64 then some (.int (a * 2 ^ b.toNat)) else none := rfl
@[simp] theorem combD_int {a b : Int} : combD (.int a) (.int b) = if 0 ≤ a ∧ 0 ≤ b ∧ a ≤ 1000 then some (.int (PySem.W.mcComb a b)) else none := rfl
@[simp] theorem mulI_int {a b : Int} : mulI (.int a) (.int b) = if (-(2 ^ 64) < a ∧ a < 2 ^ 64) ∨ (-(2 ^ 64) < b ∧ b < 2 ^ 64) then some (.int (a * b)) else none := rfl
theorem ints_back : ∀ is : List Int, intsD (is.map .int) = some is
  | [] => rfl
  | i :: is => by
    show intsD (D.int i :: is.map .int) = _
    unfold intsD
    rw [ints_back is]
    rfl
@[simp] theorem sortD_ints {is : List Int} : sortD (.lst (is.map .int)) = some (.lst ((sortI is).map .int)) := by
  show (intsD (is.map .int)).map _ = _
  rw [ints_back]
  rfl
@[simp] theorem sumD_ints {is : List Int} : sumD (.lst (is.map .int)) = some (.int is.sum) := by
  show (intsD (is.map .int)).map _ = _
  rw [ints_back]
  rfl
@[simp] theorem sumD_tints {is : List Int} : sumD (.tup (is.map .int)) = some (.int is.sum) := by
  show (intsD (is.map .int)).map _ = _
  rw [ints_back]
  rfl
@[simp] theorem sPar3_ev {f g h : EnD → M D} : WS (sPar3 i j l f g h ρ z) Qn Qr = WP (f ρ) z fun a z1 => WP (g ρ) z1 fun b z2 => WP (h ρ) z2 fun c z3 => if ownAt ρ i || ownAt ρ j || ownAt ρ l then False else Qn (((ρ.set i (some (.val a))).set j (some (.val b))).set l (some (.val c))) z3 := by
  unfold sPar3; rw [ob_ev]
  have e1 : (WP (f ρ) z fun a z1 => WP (g ρ) z1 fun b z2 => WP (h ρ) z2 fun c z3 => if ownAt ρ i || ownAt ρ j || ownAt ρ l then False else Qn (((ρ.set i (some (.val a))).set j (some (.val b))).set l (some (.val c))) z3) =
      WP (evs [f, g, h] ρ) z (fun ds z' => match ds with | [a, b, c] => if ownAt ρ i || ownAt ρ j || ownAt ρ l then False else Qn (((ρ.set i (some (.val a))).set j (some (.val b))).set l (some (.val c))) z' | _ => False) := by
    rw [evs_cons]; congr; funext a z'; rw [evs_cons]; congr; funext b z''; rw [evs_cons]; congr
  rw [e1]
  unfold WP
  cases evs [f, g, h] ρ z <;> (try rfl)
  rename_i ds z'
  match ds with
  | [] => rfl
  | [a] => rfl
  | [a, b] => rfl
  | [a, b, c] => simp only; split <;> rfl
  | a :: b :: c :: d :: r => rfl
@[simp] theorem sDispO_ev {ps : List (List Nat × (EnD → M D))} : WS (sDispO i ps ρ z) Qn Qr = WP (evsN (ps.map (·.2)) ρ) z fun ds z' => if ownAt ρ i = false ∧ i < ρ.length then Qn (ρ.set i (some (.own (.dS (putAll [] ((ps.map (·.1)).zip ds)))))) z' else False := by
  unfold sDispO; rw [ob_ev]; unfold WP; cases evsN (ps.map (·.2)) ρ z <;> (try rfl); simp only; split <;> rfl
@[simp] theorem sNewO_ev : WS (sNewO i ρ z) Qn Qr = if ownAt ρ i = false ∧ i < ρ.length then Qn (ρ.set i (some (.own (.dS [])))) z else False := by
  unfold sNewO; split <;> rfl
theorem sPutO_ev {es : List (List Nat × D)} {fk fv : EnD → M D} (h : ownD ρ i = some es) : WS (sPutO i fk fv ρ z) Qn Qr = WP (fv ρ) z fun d z1 => WP (fk ρ) z1 fun k z2 => WP (mopt (asS k)) z2 fun w z3 => if es.length < 100000 then Qn (ρ.set i (some (.own (.dS (putS es w d))))) z3 else False := by
  unfold sPutO
  rw [h]
  simp only
  rw [ob_ev]
  unfold WP
  cases fv ρ z <;> (try rfl)
  rename_i d z1
  simp only
  rw [ob_ev]
  cases fk ρ z1 <;> (try rfl)
  rename_i k z2
  cases k <;> (try rfl)
  simp only [asS, mopt]
  split <;> rfl
theorem sPut2O_ev {es : List (List Nat × D)} {k1 k2 : List Nat} {f g : EnD → M D} (h : ownD ρ i = some es) : WS (sPut2O i k1 k2 f g ρ z) Qn Qr = WP (f ρ) z fun a z1 => WP (g ρ) z1 fun b z2 => if es.length < 1000 then Qn ((ρ.set i (some (.own (.dS (putS es k1 a))))).set i (some (.own (.dS (putS (putS es k1 a) k2 b))))) z2 else False := by
  unfold sPut2O
  rw [h]
  simp only
  rw [ob_ev]
  have e1 : (WP (f ρ) z fun a z1 => WP (g ρ) z1 fun b z2 => if es.length < 1000 then Qn ((ρ.set i (some (.own (.dS (putS es k1 a))))).set i (some (.own (.dS (putS (putS es k1 a) k2 b))))) z2 else False) =
      WP (evs [f, g] ρ) z (fun ds z' => match ds with | [a, b] => if es.length < 1000 then Qn ((ρ.set i (some (.own (.dS (putS es k1 a))))).set i (some (.own (.dS (putS (putS es k1 a) k2 b))))) z' else False | _ => False) := by
    rw [evs_cons]; congr; funext a z'; rw [evs_cons]; congr
  rw [e1]
  unfold WP
  cases evs [f, g] ρ z <;> (try rfl)
  rename_i ds z'
  match ds with
  | [] => rfl
  | [a] => rfl
  | [a, b] => simp only; split <;> rfl
  | a :: b :: c :: r => rfl
theorem eIxO_ev {es : List (List Nat × D)} {fk : EnD → M D} {Q : D → S → Prop} (h : ownD ρ i = some es) : WP (eIxO i fk ρ) z Q = WP (fk ρ) z fun k z1 => WP (mopt ((asS k).bind fun w => getS es w)) z1 Q := by
  unfold eIxO; rw [WP_bind, h, WP_some, WP_bind]
theorem eGetO1_ev {es : List (List Nat × D)} {fk : EnD → M D} {Q : D → S → Prop} (h : ownD ρ i = some es) : WP (eGetO1 i fk ρ) z Q = WP (fk ρ) z fun k z1 => WP (mopt ((asS k).map fun w => (getS es w).getD .non)) z1 Q := by
  unfold eGetO1; rw [WP_bind, h, WP_some, WP_bind]
theorem eGetO2_ev {es : List (List Nat × D)} {fk fd : EnD → M D} {Q : D → S → Prop} (h : ownD ρ i = some es) : WP (eGetO2 i fk fd ρ) z Q = WP (fk ρ) z fun k z1 => WP (fd ρ) z1 fun d z2 => WP (mopt ((asS k).map fun w => (getS es w).getD d)) z2 Q := by
  unfold eGetO2; rw [WP_bind, h, WP_some, WP_bind]; congr; funext k z1; rw [WP_bind]
@[simp] theorem ownD_zero {es : List (List Nat × D)} : ownD (some (.own (.dS es)) :: ρ) 0 = some es := rfl
@[simp] theorem ownD_succ {x : Option Sl} : ownD (x :: ρ) (i + 1) = ownD ρ i := rfl
@[simp] theorem ownAt_zo : ownAt (some (.own d) :: ρ) 0 = true := rfl
@[simp] theorem eSumG_ev {xs : EnD → M (List D)} {t : EnD → M Bool} {f : EnD → M D} {Q : D → S → Prop} : WP (eSumG i xs t f ρ) z Q = WP (xs ρ) z fun l z' => if ownAt ρ i = false then WP (sumL i t f l ρ) z' fun n z'' => Q (.int n) z'' else False := by
  unfold eSumG; rw [WP_bind]; congr; funext x z1; rw [WP_ite, WP_bind]; rfl
theorem sumL_cons {t : EnD → M Bool} {f : EnD → M D} {x : D} {xs : List D} {Q : Int → S → Prop} : WP (sumL i t f (x :: xs) ρ) z Q = WP (t ((ρ.set i none).set i (some (.val x)))) z fun b z' =>
    if b then WP (f ((ρ.set i none).set i (some (.val x)))) z' fun d z2 => WP (mopt (asI d)) z2 fun k z3 => WP (sumL i t f xs ρ) z3 fun n z4 => Q (k + n) z4 else WP (sumL i t f xs ρ) z' Q := by
  show WP (mbind _ _) z Q = _
  rw [WP_bind, WP_ne]; congr; funext b z'
  rw [WP_ite, WP_bind, WP_ne]
  congr; funext d z2; rw [WP_bind]; congr; funext k z3; rw [WP_bind]; rfl
/-- a sum over a range, without a state -/
theorem sumL_range {f : EnD → M D} {fb : Nat → Int} {lo : Int} {n : Nat} (h : ∀ k, k < n → f ((ρ.set i none).set i (some (.val (.int (lo + (k : Int)))))) = mpure (.int (fb k))) : sumL i tYesD f (rangeD lo n) ρ = mpure (((List.range n).map fb).sum) := by
  have gen : ∀ ks : List Nat, (∀ k ∈ ks, k < n) → sumL i tYesD f (ks.map fun (k : Nat) => D.int (lo + (k : Int))) ρ = mpure ((ks.map fb).sum) := by
    intro ks
    induction ks with
    | nil => intro _; rfl
    | cons k ks ih =>
      intro hk
      apply WP_pure_of
      intro z
      rw [List.map_cons, sumL_cons, tYes_ev, if_pos rfl, h k (hk k (List.mem_cons_self ..)), WP_pure, asI_int, WP_some, ih fun y hy => hk y (List.mem_cons_of_mem _ hy), WP_pure, List.map_cons, List.sum_cons]
      exact ⟨rfl, rfl⟩
  exact gen _ fun k hk => List.mem_range.mp hk
end
end DL
set_option Elab.async false
set_option linter.all false
set_option maxRecDepth 100000
set_option maxHeartbeats 1000000
/-! DL29: an own dict read as a value; an own thing handed back; a slot set anew. -/
namespace DL
open PySem PySem.Spec PyProof.Rows L2

def eFrz (i : Nat) (f : EnD → M D) : EnD → M D := fun ρ => mbind (mopt (ownD ρ i)) fun es => mbind (f (ρ.set i (some (.val (.dS es))))) fun r => if noS r then mpure r else mbad
/-- an own thing is a value from here on -/
def unO (i : Nat) (ρ : EnD) : EnD := match ρ[i]? with
  | some (some (.own d)) => ρ.set i (some (.val d))
  | _ => ρ
def sUn (i : Nat) : SM := fun ρ z => .nx (unO i ρ) z
section
variable {Y : Yx} {g : G} {H H' : Hp} {σ : L2.St} {ρ : EnD} {z z' : S} {i : Nat} {a : Addr} {d : D} {es : List (List Nat × D)}
theorem OwnAt.r1 {K : PySem.W.Frag} {R a : Addr} {B : Addr → Prop} {ds : List D} (n : ¬ B a) (h : OwnAt K H R B a (.lst ds)) : R1 K H R B (.ref a) (.lst ds) := by
  first
    | (obtain ⟨x, e, q⟩ := h; exact .lst e n q .nil)
theorem own_frz (q : Own σ (ρ.set i (some (.val d))) a) : ∃ j e, i ≠ j ∧ ρ[j]? = some (some (.own e)) ∧ σ[j]? = some (some (.ref a)) := by
  obtain ⟨j, e, h1, h2⟩ := q
  rcases set_some h1 with ⟨rfl, e1, hl⟩ | ⟨ne, hj⟩
  · cases e1
  · exact ⟨j, e, ne, hj, h2⟩
theorem bad_frz (q : bad g σ (ρ.set i (some (.val d))) a) : bad g σ ρ a := q.elim .inl fun q => by
  obtain ⟨j, e, _, h1, h2⟩ := own_frz q
  exact .inr ⟨j, e, h1, h2⟩
theorem bad_unfrz (h : ρ[i]? = some (some (.own d))) {b : Addr} (q : bad g σ ρ b) (h1 : σ[i]? = some (some (.ref a))) : bad g σ (ρ.set i (some (.val d))) b ∨ b = a := by
  rcases q with q | ⟨j, e, h2, h3⟩
  · exact .inl (.inl q)
  · by_cases c : i = j
    · subst c
      rw [h1] at h3
      cases h3
      exact .inr rfl
    · exact .inl (.inr ⟨j, e, by rw [List.getElem?_set_ne c]; exact h2, h3⟩)
/-- its own address is none that is kept away from any more -/
theorem StR.unbad (st : StR Y g H σ ρ z) (h : ρ[i]? = some (some (.own d))) (h1 : σ[i]? = some (some (.ref a))) (nb : ¬ g.B a) : ¬ bad g σ (ρ.set i (some (.val d))) a := fun q => by
  rcases q with q | q
  · exact nb q
  · obtain ⟨j, e, ne, h2, h3⟩ := own_frz q
    exact ne (st.inj i j _ e a h h2 h1 h3)
/-- an own list is a value -/
theorem StR.frzL {ds : List D} (st : StR Y g H σ ρ z) (h : ρ[i]? = some (some (.own (.lst ds)))) : StR Y g H σ (ρ.set i (some (.val (.lst ds)))) z where
  wo := st.wo.less (fun a q => bad_frz q) (.inl st.gR)
  gR := st.gR
  len := by rw [List.length_set]; exact st.len
  val := fun j e hj => by
    rcases set_some hj with ⟨rfl, e1, hl⟩ | ⟨ne, hj⟩
    · cases e1
      obtain ⟨a, h1, nb, h0, hk, oa⟩ := st.own i _ h
      exact ⟨.ref a, h1, (oa.less fun a q => bad_frz q).r1 (st.unbad h h1 nb)⟩
    · obtain ⟨v, h1, h2⟩ := st.val j e hj
      exact ⟨v, h1, h2.less fun a q => bad_frz q⟩
  own := fun j e hj => by
    rcases set_some hj with ⟨rfl, e1, hl⟩ | ⟨ne, hj⟩
    · cases e1
    · obtain ⟨a, h1, h2, h3, h4, h5⟩ := st.own j e hj
      exact ⟨a, h1, h2, h3, h4, h5.less fun a q => bad_frz q⟩
  inj := fun j k e e' a hj hk h1 h2 => by
    rcases set_some hj with ⟨rfl, e1, hl⟩ | ⟨ne, hj⟩
    · cases e1
    · rcases set_some hk with ⟨rfl, e2, hl⟩ | ⟨ne', hk⟩
      · cases e2
      · exact st.inj j k e e' a hj hk h1 h2
  ext := st.ext
/-- an own dict, locked, is a value -/
theorem StR.frzD {kvs : List (Key × V)} (st : StR Y g H σ ρ z) (h : ρ[i]? = some (some (.own (.dS es)))) (h1 : σ[i]? = some (some (.ref a))) (hd : H a = some (.dK kvs)) (k1 : kvs.map (·.1) = es.map kS) (k2 : Rs Y.K H g.R (bad g σ ρ) (kvs.map (·.2)) (es.map (·.2))) (od : Obj) :
    StR Y g (upd H a (.frz od (.dK kvs))) σ (ρ.set i (some (.val (.dS es)))) z := by
  have hB : bad g σ ρ a := .inr ⟨i, _, h, h1⟩
  have hne : a ≠ g.R := st.ownNe ⟨i, _, h, h1⟩
  obtain ⟨a', h1', nb, h0, hk, _⟩ := st.own i _ h
  rw [h1] at h1'
  cases h1'
  refine ⟨(st.wo.up hB hne hd trivial).less (fun a q => bad_frz q) (.inl st.gR), st.gR, by rw [List.length_set]; exact st.len, fun j e hj => ?_, fun j e hj => ?_, fun j k e e' b hj hk h1 h2 => ?_, ?_⟩
  · rcases set_some hj with ⟨rfl, e1, hl⟩ | ⟨ne, hj⟩
    · cases e1
      exact ⟨.ref a, h1, .dS upd_same (st.unbad h h1 nb) k1 ((k2.mono (RdLe.up hB)).less fun a q => bad_frz q) .nil⟩
    · obtain ⟨v, h1, h2⟩ := st.val j e hj
      exact ⟨v, h1, (h2.mono (RdLe.up hB)).less fun a q => bad_frz q⟩
  · rcases set_some hj with ⟨rfl, e1, hl⟩ | ⟨ne, hj⟩
    · cases e1
    · obtain ⟨b, h1b, h2, h3, h4, h5⟩ := st.own j e hj
      have nb : b ≠ a := fun q => ne (st.inj i j _ e a h hj h1 (by rw [← q]; exact h1b))
      exact ⟨b, h1b, h2, h3, h4, (h5.mono (RdLe.up hB) fun u q _ => by rw [upd_ne nb]; exact q).less fun a q => bad_frz q⟩
  · rcases set_some hj with ⟨rfl, e1, hl⟩ | ⟨ne, hj⟩
    · cases e1
    · rcases set_some hk with ⟨rfl, e2, hl⟩ | ⟨ne', hk⟩
      · cases e2
      · exact st.inj j k e e' b hj hk h1 h2
  · refine ⟨fun b u' q h1 h2 => ?_, fun b q => ?_, fun x xs q => ?_⟩
    · have ne : b ≠ a := fun e => by rw [e, h0] at q; cases q
      rw [upd_ne ne]
      exact st.ext.keep b u' q h1 h2
    · by_cases e : b = a
      · rw [e, upd_same]; exact fun z => by cases z
      · rw [upd_ne e]; exact st.ext.dom b q
    · exact (st.ext.row x xs q).elim fun ys e => ⟨ys, by rw [upd_ne (fun c => by rw [c, h0] at q; cases q)]; exact e⟩
theorem ext_lock {R a : Addr} {u : HO} {od : Obj} (hd : H a = some u) (hne : a ≠ R) (e : Ext R (upd H a (.frz od u)) H') : Ext R H (upd H' a u) :=
  ⟨fun b o q h1 h2 => by
    by_cases c : b = a
    · subst c; rw [hd] at q; cases q; exact upd_same
    · rw [upd_ne c]; exact e.keep b o (by rw [upd_ne c]; exact q) h1 h2, fun b q => by
    by_cases c : b = a
    · rw [c, upd_same]; exact fun z => by cases z
    · rw [upd_ne c]; exact e.dom b (by rw [upd_ne c]; exact q), fun x xs q => (e.row x xs (by rw [upd_ne (Ne.symm hne)]; exact q)).elim fun ys e2 => ⟨ys, by rw [upd_ne (Ne.symm hne)]; exact e2⟩⟩
theorem Rs.unfrz {K : PySem.W.Frag} {R : Addr} {B B' : Addr → Prop} {kvs : List (Key × V)} {od : Obj} {u : HO} (hd : H a = some (.frz od (.dK kvs))) (hk : K.lookup a = none) (hb : ∀ b, B b → B' b ∨ b = a) {vs : List V} {ds : List D} (h : Rs K H R B' vs ds) (n : noSs ds = true) : Rs K (upd H a u) R B vs ds := by
  induction h with
  | nil => exact .nil
  | atom a _ ih =>
    simp only [noSs, Bool.and_eq_true] at n
    exact .atom a (ih n.2)
  | @tup b us vs es ds s nb _ _ ih1 ih2 =>
    simp only [noSs, noS, Bool.and_eq_true] at n
    have ne : b ≠ a := fun e => by
      subst e
      rcases s with ⟨o, s, _⟩ | ⟨o, its, m, s, _⟩
      · rw [hd] at s; cases s
      · rw [hk] at s; cases s
    refine .tup ?_ (fun q => (hb _ q).elim nb ne) (ih1 n.1) (ih2 n.2)
    rcases s with ⟨o, s, t⟩ | s
    · exact .inl ⟨o, by rw [upd_ne ne]; exact s, t⟩
    · exact .inr s
  | @wt b us vs es ds s nb _ _ ih1 ih2 =>
    simp only [noSs, noS, Bool.and_eq_true] at n
    have ne : b ≠ a := fun e => by
      subst e
      rcases s with (s | ⟨o, s⟩) | ⟨o, its, m, s, _⟩
      · rw [hd] at s; cases s
      · rw [hd] at s; cases s
      · rw [hk] at s; cases s
    refine .wt ?_ (fun q => (hb _ q).elim nb ne) (ih1 n.1) (ih2 n.2)
    rcases s with (s | ⟨o, s⟩) | s
    · exact .inl (.inl (by rw [upd_ne ne]; exact s))
    · exact .inl (.inr ⟨o, by rw [upd_ne ne]; exact s⟩)
    · exact .inr s
  | @lst b us vs es ds s nb _ _ ih1 ih2 =>
    simp only [noSs, noS, Bool.and_eq_true] at n
    have ne : b ≠ a := fun e => by
      subst e
      rw [hd] at s; cases s
    exact .lst (by rw [upd_ne ne]; exact s) (fun q => (hb _ q).elim nb ne) (ih1 n.1) (ih2 n.2)
  | dS _ _ _ _ _ => simp [noSs, noS] at n
  | dT _ _ _ _ _ _ => simp [noSs, noS] at n
  | st _ _ _ _ _ => simp [noSs, noS] at n
theorem StR.unfrz {kvs : List (Key × V)} {od : Obj} (st : StR Y g H σ ρ z) (h : ρ[i]? = some (some (.own (.dS es)))) (h1 : σ[i]? = some (some (.ref a))) (hd : H a = some (.dK kvs)) (hk : Y.K.lookup a = none) (hd' : H' a = some (.frz od (.dK kvs))) (st' : StR Y g H' σ (ρ.set i (some (.val (.dS es)))) z') (e : Ext g.R H (upd H' a (.dK kvs))) : StR Y g (upd H' a (.dK kvs)) σ ρ z' := by
  obtain ⟨⟨SA, s1, s2, s3⟩, ht, hb, hdm, hkn, hla, hdi, hdz⟩ := st'.wo
  have hS : SA ≠ a := fun c => by
    subst c
    rcases s2 with (q | ⟨ob, q⟩) | ⟨o, its, n, q, _⟩
    · rw [hd'] at q; cases q
    · rw [hd'] at q; cases q
    · rw [hk] at q; cases q
  have hne : a ≠ g.R := st.ownNe ⟨i, _, h, h1⟩
  refine st.step e ⟨⟨SA, fun q => ?_, ?_, by rw [upd_ne (Ne.symm hne)]; exact s3⟩, fun P hP => ?_, st.badR, fun b q => e.dom b (st.badDom q), fun b q => st.badK q, tabs_keep hla (fun q _ ps e => by rw [upd_ne (fun c => by rw [c, hd'] at e; cases e)]; exact e) (fun c φ e => by rw [upd_ne (fun c => by rw [c, hd'] at e; cases e)]; exact e), hdi, fun b fs e => ?_⟩
  · rcases bad_unfrz h q h1 with q | q
    · exact s1 q
    · exact hS q
  · rcases s2 with (q | ⟨ob, q⟩) | q
    · exact .inl (.inl (by rw [upd_ne hS]; exact q))
    · exact .inl (.inr ⟨ob, by rw [upd_ne hS]; exact q⟩)
    · exact .inr q
  · obtain ⟨ps, q, r⟩ := ht P hP
    have hP' : P ≠ a := fun c => by rw [c, hd'] at q; cases q
    exact ⟨ps, by rw [upd_ne hP']; exact q, r⟩
  · obtain ⟨dx, fv, d1, d2, d3, d4⟩ := hdz b fs e
    exact ⟨dx, fv, by rw [upd_ne (fun c => by rw [c, hd'] at d1; cases d1)]; exact d1, d2, d3.unfrz hd' hk (fun b q => bad_unfrz h q h1) d4, d4⟩
end
section
variable {X : L2.Cx} {T : Tb} {E : XK} {e : Expr} {f : EnD → M D} {t : EnD → M Bool} {i : Nat} {B : SM} {rest : List Stmt} {pos pos' : Pos} {x : Str}
theorem frz_read {σ : L2.St} {H : Hp} {Q : VK} (h : tD (yx X T E) (eFrz i f) σ H Q) : tLockE (tD (yx X T E) f) σ H Q := by
  obtain ⟨g, ρ, z, st, h⟩ := h
  obtain ⟨es, ho, h⟩ := h.bind.opt
  have hi := ownD_some ho
  obtain ⟨a, h1, nb, h0, hk, kvs, hd, k1, k2⟩ := st.own i _ hi
  have hne : a ≠ g.R := fun q => nb (by rw [q]; exact st.gR)
  refine ⟨a, .dK kvs, hd, trivial, fun od => ⟨g, _, z, st.frzD hi h1 hd k1 k2 od, h.bind.imp fun r z1 _ h2 v H1 st1 e1 r1 => ?_⟩⟩
  have hd1 := e1.keep a _ upd_same hne (trivial)
  cases c : noS r with
  | false => rw [c] at h2; exact h2.elim
  | true =>
    rw [c] at h2
    have ex := ext_lock hd hne e1
    exact ⟨hd1, h2 v _ (st.unfrz hi h1 hd hk hd1 st1 ex) ex (Rs.unfrz hd1 hk (fun b q => bad_unfrz hi q h1) r1 (by simp [noSs, c]))⟩
theorem pu_frz (he : PE X e (tD (yx X T E) f)) : PE X e (tD (yx X T E) (eFrz i f)) := PE_imp (pe_lock he) fun σ H Q h => frz_read h
theorem frz_stp {R : Addr} {σ : L2.St} {ρ : EnD} {H : Hp} {d : D} : Stp R σ ρ H σ (ρ.set i (some (.val d))) H :=
  ⟨fun _ _ h _ _ _ => h, fun _ h => h, fun a q => by
    obtain ⟨j, e, _, h1, h2⟩ := own_frz q
    exact .inl ⟨j, e, h1, h2⟩⟩
theorem frz_stpD {R a : Addr} {σ : L2.St} {ρ : EnD} {H : Hp} {d d0 : D} {u : HO} (hi : ρ[i]? = some (some (.own d0))) (h1 : σ[i]? = some (some (.ref a))) : Stp R σ ρ H σ (ρ.set i (some (.val d))) (upd H a u) :=
  ⟨fun b o h n1 n2 _ => by rw [upd_ne (fun c => n2 ⟨i, _, hi, by rw [c]; exact h1⟩)]; exact h, fun b q => by
    by_cases c : b = a
    · rw [c, upd_same]; exact fun z => by cases z
    · rw [upd_ne c]; exact q, fun a q => by
    obtain ⟨j, e, _, h1, h2⟩ := own_frz q
    exact .inl ⟨j, e, h1, h2⟩⟩
theorem PSs_lockO {t : TS} (h : PSs X rest t) : PSs X rest fun D σ H => t D σ H ∨ ∃ d u, H d = some u ∧ Mut (some u) ∧ ∀ od, t D σ (upd H d (.frz od u)) := ⟨fun pins s σ H D I q => by
  rcases q with q | ⟨d, u, hd, mu, q⟩
  · exact h.run pins s σ H D I q
  · obtain ⟨od, I1⟩ := I.lock hd mu
    exact h.run pins s σ _ D I1 (q od)⟩
theorem pu_sun (h : PSs X rest (sD (yx X T E) B)) : PSs X rest (sD (yx X T E) (sSeq (sUn i) B)) := PSs_imp (PSs_lockO h) fun Dn σ H h => by
  obtain ⟨g, ρ, z, st, o⟩ := h
  have o : OutOk (yx X T E) g σ ρ H (B (unO i ρ) z) Dn := o
  unfold unO at o
  split at o
  · rename_i d hr
    obtain ⟨a, h1, nb, h0, hk, oa⟩ := st.own i _ hr
    cases d with
    | lst ds => exact .inl ⟨g, _, z, st.frzL hr, OutOk.rebase o frz_stp⟩
    | dS es =>
      obtain ⟨kvs, hd, k1, k2⟩ := oa
      exact .inr ⟨a, .dK kvs, hd, trivial, fun od => ⟨g, _, z, st.frzD hr h1 hd k1 k2 od, OutOk.rebase o (frz_stpD hr h1)⟩⟩
    | _ => exact oa.elim
  · exact .inl ⟨g, _, z, st, o⟩
end
end DL
set_option Elab.async false
set_option linter.all false
set_option maxRecDepth 100000
set_option maxHeartbeats 1000000
/-! DL30: own lists; a new dict beside another value; get of a dict. -/
namespace DL
open PySem PySem.Spec PyProof.Rows L2

/-- x = [] : an own list -/
def sNewL (i : Nat) : SM := fun ρ z => if ownAt ρ i = false ∧ i < ρ.length then .nx (ρ.set i (some (.own (.lst [])))) z else .bad
def ownL (ρ : EnD) (i : Nat) : Option (List D) := match ρ[i]? with
  | some (some (.own (.lst ds))) => some ds
  | _ => none
/-- x.append(e), x an own list -/
def sAppO (i : Nat) (f : EnD → M D) : SM := fun ρ z => match ownL ρ i with
  | none => .bad
  | some ds => obind (f ρ z) fun d z1 => if ds.length < 1000000 then .nx (ρ.set i (some (.own (.lst (ds ++ [d]))))) z1 else .bad
/-- x, y = {}, e -/
def sNewP (i j : Nat) (f : EnD → M D) : SM := fun ρ z => obind (mne (f ρ) z) fun d z' => if ownAt ρ i = false ∧ i < ρ.length ∧ ownAt ρ j = false ∧ i ≠ j then .nx ((ρ.set i (some (.own (.dS [])))).set j (some (.val d))) z' else .bad
def asDS : D → Option (List (List Nat × D))
  | .dS es => some es
  | _ => none
def eGet1 (i : Nat) (fk : EnD → M D) : EnD → M D := fun ρ => mbind (eV i ρ) fun t => mbind (mopt (asDS t)) fun es => mbind (fk ρ) fun k => mopt ((asS k).map fun w => (getS es w).getD .non)
def eGet2 (i : Nat) (fk fd : EnD → M D) : EnD → M D := fun ρ => mbind (eV i ρ) fun t => mbind (mopt (asDS t)) fun es => mbind (fk ρ) fun k => mbind (fd ρ) fun d => mopt ((asS k).map fun w => (getS es w).getD d)
section
variable {X : L2.Cx} {T : Tb} {E : XK} {e b c : Expr} {f fb fc : EnD → M D} {i j k : Nat} {B : SM} {rest : List Stmt} {pos pos' apos px py pt dpos : Pos} {x y : Str}
theorem ownL_some {ρ : EnD} {ds : List D} (h : ownL ρ i = some ds) : ρ[i]? = some (some (.own (.lst ds))) := by
  unfold ownL at h
  split at h
  · rename_i h1
    cases h
    exact h1
  · cases h
theorem pu_newL (hN : X.N.Nodup) (hi : X.N[i]? = some x) (hx : Loc X.env.scope x) (h2 : PSs X rest (sD (yx X T E) B)) (hs : swapsWith (.List [] dpos) (some (.Name x pos')) pos.line X.env = pure false := by rfl) (hf : X.fn x = true ∨ X.env.scope.names.lookup x = some .local := by first | exact .inl rfl | exact .inr rfl) :
    PSs X (.Assign [.Name x pos'] (.List [] dpos) pos :: rest) (sD (yx X T E) (sSeq (sNewL i) B)) := PSs_imp (pss_cons (ps_set hN hi hx (pe_lst pa_nil) hs hf) (PSs_kn h2)) fun Dn σ H h => by
  obtain ⟨g, ρ, z, st, o⟩ := h
  refine ⟨small_len (n := 0) (by decide), fun p hp kn => ?_⟩
  have hK : X.K.lookup p = none := kn p (by rw [upd_same]; exact fun z => by cases z)
  unfold sSeq sNewL at o
  by_cases c : ownAt ρ i = false ∧ i < ρ.length
  · rw [if_pos c] at o
    have sg := st.guard (H := upd H p (.lst [])) (z' := z) hp hK (.new hp) (new_wo st hp hK)
    have so := sg.setOwn (i := i) (d := .lst []) st.gR c.1 c.2 (fun q => st.badDom (.inl q) hp) (h0_none st hp) hK ⟨[], upd_same, .nil⟩
    exact ⟨g, _, z, so, OutOk.rebase o (own_stp st.len c.1 c.2 hp (.new hp))⟩
  · rw [if_neg c] at o
    exact o.elim
theorem put_stp {g : G} {σ : L2.St} {ρ : EnD} {H H1 : Hp} {a : Addr} {d0 d : D} {u : HO} (e1 : Ext g.R H H1) (hρ : ρ[i]? = some (some (.own d0))) (s1 : σ[i]? = some (some (.ref a))) : Stp g.R σ ρ H σ (ρ.set i (some (.own d))) (upd H1 a u) :=
  ⟨fun b u q h1 h3 h4 => by
    have nb : b ≠ a := fun e => h3 ⟨i, _, hρ, by rw [e]; exact s1⟩
    rw [upd_ne nb]
    exact e1.keep b u q h1 h4, fun b q => by
    by_cases c : b = a
    · rw [c, upd_same]; exact fun z => by cases z
    · rw [upd_ne c]; exact e1.dom b q, fun b q => .inl (by
    have be := bad_put (g := ⟨0, fun _ => False, fun _ => none⟩) (σ := σ) (d := d) ⟨_, hρ⟩
    have q2 : bad (⟨0, fun _ => False, fun _ => none⟩ : G) σ (ρ.set i (some (.own d))) b := .inr q
    rw [be] at q2
    exact q2.elim False.elim id)⟩
theorem pu_appO (hr : Room k X.A) (hN : X.N[i]? = some x) (hv : Vis X.env.scope x) (he : PE X e (tD (yx X T E) f)) (hd : (x == ("__debug__" : Str)) = false := by decide) (hcd : (x == ("__classdict__" : Str)) = false := by decide)
    (hbase : attributeBase (.Name x px) "append" X.env (eval (.Name x px) X.env) = eval (.Name x px) X.env := by rfl)
    (hfew : ((backTo pos (starEach [e] X.env)).all (fun x => !x.1) && (backToKw pos (keywordEach [] X.env)).all (fun x => x.1.isSome)
      && decide (([e] : List Expr).length + ([] : List Keyword).length + (if ([] : List Keyword).isEmpty then 0 else 1) < 30)) = true := by rfl)
    (hline : (apos.endLine == pos.line) = true := by rfl) (hst : starEach [e] X.env = (false, eval e X.env) :: starEach [] X.env := by rfl) (hplain : (backTo pos (starEach [] X.env)).any (·.1) = false := by rfl)
    (hs : swapsWith (.Call (.Attribute (.Name x px) "append" apos) [e] [] pos) none pos'.line X.env = pure false := by rfl) :
    PS X (.Expr (.Call (.Attribute (.Name x px) "append" apos) [e] [] pos) pos') (sD (yx X T E) (sAppO i f)) :=
  PS_imp (ps_expr (pe_bm F.plainAttrs_list F.slot_list_append F.type_list_append mt_append (pe_var hN hv hd hcd) (pa_cons he pa_nil hst) hbase hfew hline hst hplain) hs) fun Dn σ H h => by
    obtain ⟨g, ρ, z, st, o⟩ := h
    unfold sAppO at o
    cases ho : ownL ρ i with
    | none => rw [ho] at o; exact o.elim
    | some ds =>
      rw [ho] at o
      have hρ := ownL_some ho
      obtain ⟨a, s1, _, _, _, vs0, h0, _⟩ := st.own i _ hρ
      refine ⟨_, s1, .inl ⟨rfl, vs0, .inl (.inl h0)⟩, g, ρ, z, st, o.bind.imp fun d z1 _ h1 v H1 st1 e1 r1 => ?_⟩
      by_cases hl : ds.length < 1000000
      · rw [if_pos hl] at h1
        obtain ⟨a', t1, t2, t3, t4, us, t5, t6⟩ := st1.own i _ hρ
        rw [s1] at t1
        cases t1
        have hB : bad g σ ρ a := .inr ⟨i, _, hρ, s1⟩
        refine ⟨a, us, v, rfl, rfl, t5, by rw [t6.length, sizeLine_eq]; omega, h1 σ _ (st1.put hρ s1 ⟨us ++ [v], upd_same, ?_⟩) (put_stp e1 hρ s1)⟩
        exact Rs.mono (RdLe.up hB) (t6.append r1)
      · rw [if_neg hl] at h1
        exact h1.elim
theorem pu_newP {kt : Nat} {k2} {pt2 : Pos} (hN : X.N.Nodup) (hi : X.N[i]? = some x) (hj : X.N[j]? = some y) (hx : X.env.scope.names.lookup x = some .local) (hy : X.env.scope.names.lookup y = some .local) (hij : i ≠ j) (he : PE X e (tD (yx X T E) f)) (h2 : PSs X rest (sD (yx X T E) B))
    (hc : X.calm = true := by rfl) (hw : swappedStores [.Tuple [.Name x px, .Name y py] kt pt] (.Tuple [.Dict [] [] dpos, e] k2 pt2) X.env = pure (some [x, y]) := by rfl)
    (hst : starEach [.Dict [] [] dpos, e] X.env = (false, eval (.Dict [] [] dpos) X.env) :: starEach [e] X.env := by rfl) (hst2 : starEach [e] X.env = (false, eval e X.env) :: starEach [] X.env := by rfl)
    (hs : swapsWithSole [.Tuple [.Name x px, .Name y py] kt pt] (.Tuple [.Dict [] [] dpos, e] k2 pt2) pos.line X.env = pure false := by rfl) :
    PSs X (.Assign [.Tuple [.Name x px, .Name y py] kt pt] (.Tuple [.Dict [] [] dpos, e] k2 pt2) pos :: rest) (sD (yx X T E) (sSeq (sNewP i j f) B)) :=
  PSs_imp (pss_cons (ps_par hc hN hi hj hij hx hy (pa_cons pe_dnewK (pa_cons (PE_kn he) pa_nil hst2) hst) hw hs) h2) fun Dn σ H h => by
    obtain ⟨g, ρ, z, st, o⟩ := h
    intro p hp kn
    have hK : X.K.lookup p = none := kn p (by rw [upd_same]; exact fun z => by cases z)
    have hpR : p ≠ g.R := fun e => st.badDom st.badR (by rw [← e]; exact hp)
    have sg := st.guard (H := upd H p (.dK [])) (z' := z) hp hK (.new hp) (new_wo st hp hK)
    refine ⟨gd g p, ρ, z, sg, ?_⟩
    unfold sSeq sNewP mne at o
    cases ef : f ρ z with
    | bad => rw [ef] at o; exact o.elim
    | exc x z' => rw [ef] at o; exact o.elim
    | ok d z1 =>
      rw [ef] at o
      simp only [obind] at o
      by_cases c : ownAt ρ i = false ∧ i < ρ.length ∧ ownAt ρ j = false ∧ i ≠ j
      · rw [if_pos c] at o
        intro v H2 st2 e2 r2
        have hD : H2 p = some (.dK []) := e2.keep p _ upd_same hpR trivial
        have so := st2.setOwn (i := i) (d := .dS []) st.gR c.1 c.2.1 (fun q => st.badDom (.inl q) hp) (h0_none st hp) hK ⟨[], hD, rfl, .nil⟩
        have co : ownAt (ρ.set i (some (.own (.dS [])))) j = false := by
          have := c.2.2.1
          unfold ownAt at this ⊢
          rw [List.getElem?_set_ne c.2.2.2]
          exact this
        have s3 := so.setv (i := j) (v := v) (d := d) co (by rw [bad_own st.len c.1 c.2.1]; exact r2)
        refine ⟨.ref p, v, rfl, g, _, z1, s3, OutOk.rebase o ((own_stp st.len c.1 c.2.1 hp ((Ext.new hp).trans e2)).trans (.setv co trivial))⟩
      · rw [if_neg c] at o
        exact o.elim
end
section
variable {X : L2.Cx} {T : Tb} {E : XK} {elt tg iter : Expr} {ifs : List Expr} {f : EnD → M D} {t : EnD → M Bool} {fi : EnD → M (List D)} {i j k : Nat} {scope : Scope} {pos spos py : Pos} {x y : Str}
theorem pu_setLcF (k : Nat) (hc : X.calm = true) (hN : X.N.Nodup) (hy : X.N[j]? = some y) (hyl : X.env.scope.names.lookup y = some .local) (hsw : swapsWith (.ListComp elt [⟨tg, iter, ifs, 0⟩] scope pos) (some (.Name y py)) spos.line X.env = pure true)
    (hi : PI X tg iter (tiD (yx X T E) fi)) (ok : BlkOk X.N X.env.scope scope [(x, i)])
    (hg : ∀ (s : Shared) (H : Hp) (C : Addr) (cl : List (Str × Addr)) (fp : List Addr), PG (X.blk s H scope (compEnvC scope cl C X.env) fp) tg (gName i)) (ht : ∀ (s : Shared) (H : Hp) (C : Addr) (cl : List (Str × Addr)) (fp : List Addr), PTs (X.blk s H scope (compEnvC scope cl C X.env) fp) ifs (ttD (yx X T E0) t))
    (he : ∀ (s : Shared) (H : Hp) (C : Addr) (cl : List (Str × Addr)) (fp : List Addr), PE (X.blk s H scope (compEnvC scope cl C X.env) fp) elt (tD (yx X T E0) f)) (hs : ∀ x, foldedSetIterable iter X.env x = pure x := by intro _; rfl) :
    PS X (.Assign [.Name y py] (.ListComp elt [⟨tg, iter, ifs, 0⟩] scope pos) spos) (sD (yx X T E) (sSet j (eFrz k (eLc i fi t f)))) :=
  PS_imp (ps_lock (ps_setLc (own := [(x, i)]) hc hN hy hyl hsw hi ok hg (fun s H C cl fp => PTs_kn (ht s H C cl fp)) (fun s H C cl fp => PE_kn (he s H C cl fp)) hs)) fun D σ H h => by
    obtain ⟨g, ρ, z, st, o⟩ := h
    have hq : tLockE (tD (yx X T E) (eLc i fi t f)) σ H (fun x H1 => gName j x σ H1 D.nx) := by
      refine frz_read (i := k) ⟨g, ρ, z, st, o.bind.imp fun d z1 _ h1 v H1 st1 e1 r1 => ?_⟩
      cases co : ownAt ρ j with
      | true => rw [co] at h1; exact h1.elim
      | false =>
        rw [co] at h1
        exact h1 _ H1 (st1.setv co r1) ((Stp.ext e1).trans (.setv co trivial))
    obtain ⟨d, u, hd, mu, q⟩ := hq
    exact ⟨d, u, hd, mu, fun od => lc_read (q od)⟩
end
end DL
set_option Elab.async false
set_option linter.all false
set_option maxRecDepth 100000
set_option maxHeartbeats 1000000
/-! DL31: what the words of DL29, DL30 give. -/
namespace DL
open PySem PySem.Spec PyProof.Rows L2
section
variable {α β : Type} {z : S} {ρ : EnD} {i j : Nat} {d : D} {es : List (List Nat × D)} {Qn : EnD → S → Prop} {Qr : D → S → Prop}
theorem eFrz_ev {f : EnD → M D} {Q : D → S → Prop} (h : ownD ρ i = some es) : WP (eFrz i f ρ) z Q = WP (f (ρ.set i (some (.val (.dS es))))) z fun r z' => if noS r then Q r z' else False := by
  unfold eFrz; rw [WP_bind, h, WP_some, WP_bind]; congr; funext r z1; rw [WP_ite]; rfl
@[simp] theorem sUn_ev : WS (sUn i ρ z) Qn Qr = Qn (unO i ρ) z := rfl
@[simp] theorem unO_succ {x : Option Sl} : unO (i + 1) (x :: ρ) = x :: unO i ρ := by
  unfold unO
  rw [List.getElem?_cons_succ]
  rcases ρ[i]? with _ | _ | (_ | _) <;> rfl
@[simp] theorem unO_own : unO 0 (some (.own d) :: ρ) = some (.val d) :: ρ := rfl
@[simp] theorem unO_val : unO 0 (some (.val d) :: ρ) = some (.val d) :: ρ := rfl
@[simp] theorem unO_none : unO 0 (none :: ρ) = none :: ρ := rfl
theorem unO_map {o : Option D} : unO 0 (o.map Sl.val :: ρ) = o.map Sl.val :: ρ := by cases o <;> rfl
@[simp] theorem sNewL_ev : WS (sNewL i ρ z) Qn Qr = if ownAt ρ i = false ∧ i < ρ.length then Qn (ρ.set i (some (.own (.lst [])))) z else False := by
  unfold sNewL; split <;> rfl
theorem sAppO_ev {ds : List D} {f : EnD → M D} (h : ownL ρ i = some ds) : WS (sAppO i f ρ z) Qn Qr = WP (f ρ) z fun d z1 => if ds.length < 1000000 then Qn (ρ.set i (some (.own (.lst (ds ++ [d]))))) z1 else False := by
  unfold sAppO; rw [h]; simp only; rw [ob_ev]; unfold WP; cases f ρ z <;> (try rfl); simp only; split <;> rfl
@[simp] theorem sNewP_ev {f : EnD → M D} : WS (sNewP i j f ρ z) Qn Qr = WP (f ρ) z fun d z' => if ownAt ρ i = false ∧ i < ρ.length ∧ ownAt ρ j = false ∧ i ≠ j then Qn ((ρ.set i (some (.own (.dS [])))).set j (some (.val d))) z' else False := by
  unfold sNewP; rw [ob_ev]; unfold WP mne; cases f ρ z <;> (try rfl); simp only; split <;> rfl
@[simp] theorem eGet1_ev {fk : EnD → M D} {Q : D → S → Prop} : WP (eGet1 i fk ρ) z Q = WP (eV i ρ) z fun t z0 => WP (mopt (asDS t)) z0 fun es z1 => WP (fk ρ) z1 fun k z2 => WP (mopt ((asS k).map fun w => (getS es w).getD .non)) z2 Q := by
  unfold eGet1; rw [WP_bind]; congr; funext t z0; rw [WP_bind]; congr; funext es z1; rw [WP_bind]
@[simp] theorem eGet2_ev {fk fd : EnD → M D} {Q : D → S → Prop} : WP (eGet2 i fk fd ρ) z Q = WP (eV i ρ) z fun t z0 => WP (mopt (asDS t)) z0 fun es z1 => WP (fk ρ) z1 fun k z2 => WP (fd ρ) z2 fun d z3 => WP (mopt ((asS k).map fun w => (getS es w).getD d)) z3 Q := by
  unfold eGet2; rw [WP_bind]; congr; funext t z0; rw [WP_bind]; congr; funext es z1; rw [WP_bind]; congr; funext k z2; rw [WP_bind]
@[simp] theorem asDS_dS : asDS (.dS es) = some es := rfl
@[simp] theorem iPr_ev {f : EnD → M D} {Q : List (D × D) → S → Prop} : WP (iPr f ρ) z Q = WP (f ρ) z fun d z' => WP (mopt ((items d).bind fun xs => xs.mapM pairOf)) z' Q := WP_bind
@[simp] theorem ownL_zero {ds : List D} : ownL (some (.own (.lst ds)) :: ρ) 0 = some ds := rfl
@[simp] theorem ownL_succ {x : Option Sl} : ownL (x :: ρ) (i + 1) = ownL ρ i := rfl
end
section
variable {X : L2.Cx} {T : Tb} {E : XK} {b c : Expr} {fb fc : EnD → M D} {i k : Nat} {pos apos px : Pos} {x : Str}
theorem evA {Y : Yx} {g : G} {ρ : EnD} {z : S} {α : Type} {k : D → M α} {P : α → S → Prop} (h : After Y g (mbind (eV i ρ) k z) P) : ∃ t, ρ[i]? = some (some (.val t)) ∧ After Y g (k t z) P := by
  unfold eV at h
  rcases hr : ρ[i]? with _ | _ | (d | d)
  · rw [hr] at h; exact h.elim
  · rw [hr] at h; exact h.elim
  · rw [hr] at h; exact ⟨d, rfl, h⟩
  · rw [hr] at h; exact h.elim
theorem pu_get1 (hr : Room k X.A) (hN : X.N[i]? = some x) (hv : Vis X.env.scope x) (hb : PE X b (tD (yx X T E) fb)) (m : M1 X (.Name x px) "get" apos b pos) (hd : (x == ("__debug__" : Str)) = false := by decide) (hcd : (x == ("__classdict__" : Str)) = false := by decide) :
    PE X (.Call (.Attribute (.Name x px) "get" apos) [b] [] pos) (tD (yx X T E) (eGet1 i fb)) := PE_imp (pe_dget1 (by have := hr.un; omega) (pe_var hN hv hd hcd) hb m) fun σ H Q h => by
  obtain ⟨g, ρ, z, st, h⟩ := h
  obtain ⟨t, et, hA⟩ := evA h
  obtain ⟨es, ho, hB⟩ := hA.bind.opt
  obtain rfl : t = .dS es := by cases t <;> simp_all [asDS]
  obtain ⟨u, h1, r0⟩ := st.val i _ et
  obtain ⟨a, kvs, rfl, hk, nb, dsr⟩ := r0.dictS
  refine ⟨_, h1, a, rfl, ?_, g, ρ, z, st, hB.bind.imp fun d z1 _ h2 v H1 st1 e1 r1 => ?_⟩
  · rcases hk with hk | ⟨o, hk⟩
    · exact .inl ⟨kvs, .inl hk⟩
    · exact .inl ⟨kvs, .inr ⟨o, hk⟩⟩
  obtain ⟨r, hr', q⟩ := h2.opt
  obtain ⟨w, hw, rfl⟩ := Option.map_eq_some_iff.mp hr'
  obtain rfl : d = .str w := by cases d <;> simp_all [asS]
  cases r1.str
  have rd := e1.rd st.badR
  have hk1 := rd.1 a (.dK kvs) nb trivial hk
  have dsr1 := dsr.mono rd
  have dg := dsr1.get w
  refine ⟨_, .inl ⟨kvs, Sum.inr (ST w), hk1, rfl, rfl⟩, ?_⟩
  cases e : getS es w with
  | none =>
    rw [dg.2 e]
    rw [e] at q
    exact q _ H1 st1 e1 (.atom .non .nil)
  | some d =>
    obtain ⟨u, g1, g2⟩ := dg.1 d e
    rw [g1]
    rw [e] at q
    exact q _ H1 st1 e1 g2
theorem pu_get2 (hr : Room k X.A) (hN : X.N[i]? = some x) (hv : Vis X.env.scope x) (hb : PE X b (tD (yx X T E) fb)) (hc : PE X c (tD (yx X T E) fc)) (m : M2 X (.Name x px) "get" apos b c pos) (hd : (x == ("__debug__" : Str)) = false := by decide) (hcd : (x == ("__classdict__" : Str)) = false := by decide) :
    PE X (.Call (.Attribute (.Name x px) "get" apos) [b, c] [] pos) (tD (yx X T E) (eGet2 i fb fc)) := PE_imp (pe_dget2 (by have := hr.un; omega) (pe_var hN hv hd hcd) hb hc m) fun σ H Q h => by
  obtain ⟨g, ρ, z, st, h⟩ := h
  obtain ⟨t, et, hA⟩ := evA h
  obtain ⟨es, ho, hB⟩ := hA.bind.opt
  obtain rfl : t = .dS es := by cases t <;> simp_all [asDS]
  obtain ⟨u, h1, r0⟩ := st.val i _ et
  obtain ⟨a, kvs, rfl, hk, nb, dsr⟩ := r0.dictS
  refine ⟨_, h1, a, rfl, ?_, g, ρ, z, st, hB.bind.imp fun d z1 _ h2 v H1 st1 e1 r1 => ⟨g, ρ, z1, st1, h2.bind.imp fun dd z2 _ h3 u2 H2 st2 e2 r2 => ?_⟩⟩
  · rcases hk with hk | ⟨o, hk⟩
    · exact .inl ⟨kvs, .inl hk⟩
    · exact .inl ⟨kvs, .inr ⟨o, hk⟩⟩
  obtain ⟨r, hr', q⟩ := h3.opt
  obtain ⟨w, hw, rfl⟩ := Option.map_eq_some_iff.mp hr'
  obtain rfl : d = .str w := by cases d <;> simp_all [asS]
  cases r1.str
  have rd := (e1.trans e2).rd st.badR
  have hk1 := rd.1 a (.dK kvs) nb trivial hk
  have dsr1 := dsr.mono rd
  have dg := dsr1.get w
  refine ⟨_, .inl ⟨kvs, Sum.inr (ST w), hk1, rfl, rfl⟩, ?_⟩
  cases e : getS es w with
  | none =>
    rw [dg.2 e]
    rw [e] at q
    exact q _ H2 st2 (e1.trans e2) r2
  | some d =>
    obtain ⟨u, g1, g2⟩ := dg.1 d e
    rw [g1]
    rw [e] at q
    exact q _ H2 st2 (e1.trans e2) g2
end
end DL
set_option Elab.async false
set_option linter.all false
set_option maxRecDepth 100000
set_option maxHeartbeats 1000000
/-! DE1: defs that raise, their calls. -/
namespace DL
open PySem PySem.Spec PyProof.Rows L2

/-- raise of a class that has no __init__ of its own -/
def sRaise (x : Str) : SM := fun _ z => .exc ⟨x, none⟩ z
/-- what is known of such a class -/
structure XCls (K : PySem.W.Frag) (mg : Str → Option Value) (x : Str) (C : Addr) : Prop where
  exc : ∃ (B newId initId : String) (bmB : List Value), ExcBaseFacts B newId initId bmB ∧ PySem.W.excIn K C bmB newId = true
  glob : mg x = some (.ref C)
  keep : PySem.W.keepIn K (.ref C) = true
  sub : PySem.W.subIn K (.ref C) (.type "BaseException") = some true
  ty : PySem.W.typeIn K (.ref C) = some (.type "type")
section
variable {X : L2.Cx} {T : Tb} {E : XK} {x m : Str} {C : Addr} {j : Nat} {p p2 pos pos' : Pos}
theorem pu_raise (hc : X.calm = true) (tk : Takes X fun cls d _ H => E cls d H) (F : XCls X.K X.mg x C) (hg : Gl X x) (hdb : (x == ("__debug__" : Str)) = false := by decide) :
    PS X (.Raise (some (.Call (.Name x p) [.Constant (.str m) j p2] [] pos)) none pos') (sD (yx X T E) (sRaise x)) := by
  obtain ⟨B, newId, initId, bmB, F1, F2⟩ := F.exc
  refine PS_imp (ps_raise hc tk (pmk_own F1 F2 F.glob F.keep (raises_own F.sub F.ty) hg hdb)) fun D σ H h => ?_
  obtain ⟨g, ρ, z, st, o⟩ := h
  exact o H (.ref C) none st.wog st.ext ⟨C, F.glob, rfl, rfl⟩
end
section
variable {P : Program} {w : World} {K : PySem.W.Frag} {mg : Str → Option Value} {base : Heap} {T : Tb} {N : List Str} {qual : Str} {scope : Scope} {f : Addr} {cd : Value} {A : Around} {outer : List Env} {s : Shared} {H : Hp} {E : XK}
theorem takesX : Takes (cxOf (L2.CX P w) P w K mg base N qual scope f cd A outer s H E) fun cls d _ H => E cls d H := takes_of rfl rfl rfl rfl
theorem passX : Passes (L2.CX P w) (cxOf (L2.CX P w) P w K mg base N qual scope f cd A outer s H E) E := passes_call takesX fun _ _ _ _ h => h
theorem ownsX : PassesOwn (model P w) (cxOf (L2.CX P w) P w K mg base N qual scope f cd A outer s H E).A (cxOf (L2.CX P w) P w K mg base N qual scope f cd A outer s H E).env (cxOf (L2.CX P w) P w K mg base N qual scope f cd A outer s H E).xe :=
  passes_of (K := fun e s'' => L2.CX P w outer H s E e s'') rfl
/-- a call that lets nothing out -/
theorem passF {X : L2.Cx} : Passes (L2.CX P w) X fun _ _ _ => False := fun _ _ _ _ _ _ _ h => by
  obtain ⟨_, _, _, _, _, _, _, _, _, _, _, _, z⟩ := h
  exact z.elim
/-- a def that may raise, by its body -/
theorem okX {x qual : Str} {st : Stmt} {f : Addr} {fd : FuncData} {N ps : List Str} {k : Nat} {B : SM} (F : Fun K x qual st f fd) (S : FnScope N ps (defScope st))
    (der : ∀ (cdv : Value) (A : Around) (outer : List Env) (s : Shared) (H : Hp) (E : XK), Room k (A.deeper (envOfC qual (defScope st) s.heap.objs.size f cdv)) → fd.code = cdv →
      PSs (cxOf (L2.CX P w) P w K mg base N qual (defScope st) f cdv A outer s H E) (defBody st) (sD ⟨K, T, mg, E⟩ B)) :
    FnOk P w K mg base (L2.CX P w) (k + 1) f fd ps (spD K T mg ps.length (runD N.length B)) := by
  obtain ⟨oc, od, kV, doc, pm, an, cdv, ct, osl, rfl, lk, hcd⟩ := F.ex
  refine fn_of lk hcd S (fun vs H Q E h => h.1) fun A outer s H vs Q E hr hsp => ?_
  exact ⟨_, der cdv A outer s H E hr rfl, run_read hsp⟩
end
end DL
set_option Elab.async false
set_option linter.all false
set_option maxRecDepth 100000
set_option maxHeartbeats 2000000
/-! DE2: a lambda, with parameters that have defaults or without, made and called. -/
namespace DL
open PySem PySem.Spec PyProof.Rows L2 LamX

/-- the lambda's names: its parameters (not known to the def around), captured ones, globals -/
structure LamD (N : List Str) (sc scope : Scope) (bs : List Str) : Prop where
  kind : scope.kind = .function
  co : scope.isCoroutine = false
  gen : scope.isGenerator = false
  cell : ∀ y ∈ scope.names, y.2 ≠ .cell
  own : ∀ y ∈ scope.names, y.2 = .local → y.1 ∉ N
  free : ∀ y ∈ scope.names, y.2 = .free → sc.names.lookup y.1 = some .cell ∨ sc.names.lookup y.1 = some .free
  loc : ∀ b ∈ bs, scope.names.lookup b = some .local
theorem LamD.has {X : L2.Cx} {scope : Scope} {bs : List Str} (L : LamD X.N X.env.scope scope bs) (ok : X.Ok) : ∀ y ∈ scope.names, y.2 = .free → ∃ c, X.env.cells.lookup y.1 = some c := fun y hy e => by
  rcases L.free y hy e with k | k
  · exact ok.has _ (.inl k)
  · exact ok.has _ (.inr k)
abbrev lamO (X : L2.Cx) (params : Arguments) (body : Expr) (scope : Scope) (dV doc pm : Value) (c' : Addr) (ctv : Value) : Obj := PySem.W.kdv_obj "<lambda>" (X.env.qual ++ "<lambda>") params (.expr body) scope (cloFrom X.env.cells scope.names []) dV doc pm c' ctv
abbrev lamF (X : L2.Cx) (params : Arguments) (body : Expr) (scope : Scope) (dV doc pm : Value) (c' : Addr) (ctv : Value) : FuncData := PySem.W.kdv_fn "<lambda>" (X.env.qual ++ "<lambda>") params (.expr body) scope (cloFrom X.env.cells scope.names []) dV doc pm (.ref c') ctv
section
variable {X : L2.Cx} {pins : List (Addr × Obj)} {σ : L2.St} {H HZ : Hp} {s s1 : Shared}
/-- the function object is made -/
theorem lam_tail {T : List (Addr × Str)} {c P : Addr} {params : Arguments} {body : Expr} {scope : Scope} {pos : Pos} {dV : Value} {E : Value → Shared → Prop} {Q : Value → Shared → Prop} (I : Inv X pins σ H s) (TB : TabB X.base X.mg c P) (hcode : X.env.code = .ref c)
    (hm : (P, X.env.qual ++ "<lambda>") ∈ T) (hu : ∀ p ∈ T, p.1 = P → p.2 = X.env.qual ++ "<lambda>") (hT : Tabs T H) (hfree : ∀ y ∈ scope.names, y.2 = .free → ∃ c, X.env.cells.lookup y.1 = some c)
    (h : ∀ (f c' : Addr) (doc pm ctv : Value) (H1 : Hp) (s' : Shared), Inv X pins σ H1 s' → (∀ b o, b ≠ P → H b = some o → H1 b = some o) → (∃ ps, H1 P = some (.tbl ps)) → Tabs T H1 → (∀ b o, b ≠ P → s.heap.get? b = some o → s'.heap.get? b = some o) → (∀ b, b < s.heap.objs.size → H b = none → H1 b = none) →
      s'.heap.get? f = some (lamO X params body scope dV doc pm c' ctv) → H1 f = none → f ∉ frs X.stack → H1 c' = some (CodeO c' (X.env.qual ++ "<lambda>")) → Q (.ref f) s') :
    wpAny (model X.prog X.w) X.A (makeTail "<lambda>" (X.env.qual ++ "<lambda>") params (.expr body) scope X.env dV .none none pos pos.line) Q E s := by
  obtain ⟨ps, hP, ht, ha⟩ := hT _ hm
  have bP : s.heap.BuiltinsAt X.mg P := TB.bm.keeps I.bk
  have hP' : s.heap.get? P = some { cls := .none, data := .fields ps } := I.hok P _ hP
  have nofr : ∀ f, s.heap.objs.size ≤ f → f ∉ frs X.stack := fun f hf z => by
    rcases List.mem_cons.mp (I.stkSub _ z) with e | e
    · have h1 := I.lt
      rw [← e] at h1
      exact Nat.lt_irrefl _ (Nat.lt_of_lt_of_le h1 hf)
    · exact I.nofs hf e
  cases hc : codeAmong pos ps.toList with
  | none =>
    refine PySem.W.kdv_makeTail (mg := X.mg) (c := c) (P := P) (ps := ps) (closure_ok hfree) I.ok.glob (I.mod.glob.keeps I.bk) hcode (TB.code.keeps I.bk) hP' ht hc TB.gP bP fun c' ctv doc h' tk hx hge hlt hrec htb => ?_
    obtain ⟨c2, oc, vs, t, e2, hoc, hd, hv⟩ := hrec
    cases e2
    have hsz : s.heap.objs.size ≤ h'.objs.size := Nat.le_trans hge (Nat.le_of_lt hlt)
    have nC : H c' = none := I.hok.fresh hge
    have I1 := inv_table (t' := tk) (more := #[rawInt pos.line, rawInt pos.col, .ref c']) (h' := h'.push (lamO X params body scope dV doc ((X.mg "__name__").getD .none) c' ctv)) I hP
      (fun b o hb e => Heap.get?_push_of_some _ (hx b o hb e)) (Heap.get?_push_of_some _ htb) hge ⟨oc, vs, t, Heap.get?_push_of_some _ hoc, hd, hv⟩
    have at1 : ∀ b, b ≠ P → b ≠ c' → upd (upd H P (.tbl (ps ++ #[rawInt pos.line, rawInt pos.col, .ref c']))) c' (CodeO c' (X.env.qual ++ "<lambda>")) b = H b := fun b h1 h2 => by rw [upd_ne h2, upd_ne h1]
    have hE : ExtN H (upd (upd H P (.tbl (ps ++ #[rawInt pos.line, rawInt pos.col, .ref c']))) c' (CodeO c' (X.env.qual ++ "<lambda>"))) := fun b o e n => by
      rw [upd_ne (ne_of_none e nC), upd_ne (fun z => n ps (Option.some.inj (e.symm.trans (by rw [z]; exact hP))))]
      exact e
    have eL : (ps ++ #[rawInt pos.line, rawInt pos.col, .ref c']).toList = ps.toList ++ [rawInt pos.line, rawInt pos.col, .ref c'] := by simp
    refine h h'.objs.size c' doc ((X.mg "__name__").getD .none) ctv _ _ I1 (fun b o hb e => by rw [at1 b hb (ne_of_none e nC)]; exact e) ⟨_, by rw [upd_ne (ne_of_none hP nC), upd_same]⟩ (fun p hp => ?_)
      (fun b o hb e => Heap.get?_push_of_some _ (hx b o hb e)) (fun b hb e => ?_) (Heap.get?_push_size _ rfl) ?_ (nofr _ hsz) upd_same
    · by_cases hb : p.1 = P
      · rw [hu p hp hb, hb]
        refine ⟨_, by rw [upd_ne (ne_of_none hP nC), upd_same], by rw [eL]; exact PySem.TriplesOk_snoc _ _ _ _ ht, fun p' cv hcv => ?_⟩
        rw [eL] at hcv
        rcases among_app _ ht hcv with z | z
        · obtain ⟨c0, e1, e2⟩ := ha p' cv z
          exact ⟨c0, e1, hE _ _ e2 codeO_ne⟩
        · exact ⟨c', z, upd_same⟩
      · obtain ⟨ps', a1, a2, a3⟩ := hT p hp
        refine ⟨ps', by rw [upd_ne (ne_of_none a1 nC), upd_ne hb]; exact a1, a2, fun p' cv hcv => ?_⟩
        obtain ⟨c0, e1, e2⟩ := a3 p' cv hcv
        exact ⟨c0, e1, hE _ _ e2 codeO_ne⟩
    · have n1 : b ≠ c' := Nat.ne_of_lt (Nat.lt_of_lt_of_le hb hge)
      have n2 : b ≠ P := fun z => by rw [z, hP] at e; cases e
      rw [at1 b n2 n1]
      exact e
    · have n1 : h'.objs.size ≠ c' := Nat.ne_of_gt hlt
      have n2 : h'.objs.size ≠ P := Nat.ne_of_gt (Nat.lt_of_lt_of_le (Heap.lt_size hP') hsz)
      rw [upd_ne n1, upd_ne n2]
      exact I.hok.fresh hsz
  | some cv =>
    obtain ⟨c', e, hco⟩ := ha pos cv hc
    subst e
    refine PySem.W.kdv_makeTailHit (mg := X.mg) (c := c) (P := P) (ps := ps) (closure_ok hfree) I.ok.glob (I.mod.glob.keeps I.bk) hcode (TB.code.keeps I.bk) hP' ht hc bP fun ctv doc h' tk hx hsz => ?_
    have I1 : Inv X pins σ H { s with heap := h'.push (lamO X params body scope dV doc ((X.mg "__name__").getD .none) c' ctv), toks := tk } := I.kept fun b o e => Heap.get?_push_of_some _ (hx b o e)
    exact h h'.objs.size c' doc ((X.mg "__name__").getD .none) ctv H _ I1 (fun b o _ e => e) ⟨_, hP⟩ hT (fun b o _ e => Heap.get?_push_of_some _ (hx b o e)) (fun b _ e => e) (Heap.get?_push_size _ rfl) (I.hok.fresh hsz) (nofr _ hsz) hco
end
end DL
set_option Elab.async false
set_option linter.all false
set_option maxRecDepth 100000
set_option maxHeartbeats 2000000
/-! DE3: a lambda made, its defaults bound; entered. -/
namespace DL
open PySem PySem.Spec PyProof.Rows L2 LamX

/-- its parameters: none, or one with a number for default -/
inductive DefK (X : L2.Cx) (params : Arguments) (body : Expr) (scope : Scope) : List Str → Prop
  | no (hdef : defaultsOf params X.env = ([], [])) (hb : ∀ (doc pm : Value) (c' : Addr) (ctv : Value), bindArgs (lamF X params body scope .none doc pm c' ctv) ⟨[], []⟩ = pure []) : DefK X params body scope []
  | one (a : Str) (i : Int) (j : Nat) (p : Pos) (hd : params.defaults = [.Constant (.int i) j p]) (hk : params.kw_defaults = [])
      (hb : ∀ (t : Addr) (doc pm : Value) (c' : Addr) (ctv u : Value), ∃ k, bindArgs (lamF X params body scope (.ref t) doc pm c' ctv) ⟨[], []⟩ = seqItems? (.ref t) >>= k ∧ k (some [u].toArray) = pure [(a, u)]) : DefK X params body scope [a]
section
variable {X : L2.Cx} {pins : List (Addr × Obj)} {σ : L2.St} {H HZ : Hp} {s s1 : Shared}
theorem lam_made {T : List (Addr × Str)} {c P : Addr} {params : Arguments} {body : Expr} {scope : Scope} {bs : List Str} {pos : Pos} {E : Value → Shared → Prop} {Q : Value → Shared → Prop} (I : Inv X pins σ H s) (DK : DefK X params body scope bs) (TB : TabB X.base X.mg c P) (hcode : X.env.code = .ref c)
    (hm : (P, X.env.qual ++ "<lambda>") ∈ T) (hu : ∀ p ∈ T, p.1 = P → p.2 = X.env.qual ++ "<lambda>") (hT : Tabs T H) (hfree : ∀ y ∈ scope.names, y.2 = .free → ∃ c, X.env.cells.lookup y.1 = some c)
    (hE : X.xe = E)
    (h : ∀ (f c' : Addr) (dV doc pm ctv : Value) (binds : List (Str × Value)) (H1 : Hp) (s' : Shared), Inv X pins σ H1 s' → (∀ b o, b ≠ P → H b = some o → H1 b = some o) → (∃ ps, H1 P = some (.tbl ps)) → Tabs T H1 →
      s'.heap.get? f = some (lamO X params body scope dV doc pm c' ctv) → H1 f = none → f ∉ frs X.stack → H1 c' = some (CodeO c' (X.env.qual ++ "<lambda>")) → binds.map (·.1) = bs →
      (∀ s1 : Shared, (∀ b o, s'.heap.get? b = some o → H1 b = none → b ∉ frs X.stack → s1.heap.get? b = some o) → BindsTo s1 (lamF X params body scope dV doc pm c' ctv) ⟨[], []⟩ binds) → Q (.ref f) s') :
    wpAny (model X.prog X.w) X.A (eval (.Lambda params body scope pos) X.env) Q E s := by
  subst hE
  cases DK with
  | no hdef hb =>
    refine PySem.W.kla_eval hdef ?_
    rw [makeFunction_eq]
    simp only [List.zip_nil_right, List.filterMap_nil, List.isEmpty_nil, if_true, pure_bind]
    exact lam_tail I TB hcode hm hu hT hfree fun f c' doc pm ctv H1 s' I1 e1 e2 T1 _ _ hf hn hs hc => h f c' .none doc pm ctv [] H1 s' I1 e1 e2 T1 hf hn hs hc rfl fun s1 _ => BindsTo.of_eq (hb doc pm c' ctv)
  | one a i j p hd hk hb =>
    refine PySem.W.kdv_lam (by rw [hd]; rfl) hk ?_
    rw [hd]
    refine PySem.W.kdv_all1 (thn ((pe_int (X := X) (i := i) (j := j) (pos := p)).run pins s σ H (fun v H1 => H1 = H) I rfl) fun u s1 ⟨v, H1, I1, r1, q1⟩ => ?_)
    subst q1
    refine PySem.W.kdv_all0 ?_
    rw [makeFunction_eq]
    simp only [List.zip_nil_right, List.filterMap_nil, List.isEmpty_nil, if_true, pure_bind, List.isEmpty_cons, Bool.false_eq_true, if_false]
    refine wpAny_bind (wpAny_newTextTuple ?_)
    have I2 : Inv X pins σ H1 { s1 with heap := s1.heap.push { cls := .type "tuple", data := .seq [u].toArray } } := I1.kept (t' := s1.toks) fun b o e => Heap.get?_push_of_some _ e
    have nT : H1 s1.heap.objs.size = none := I1.hok.fresh (Nat.le_refl _)
    have nofr : s1.heap.objs.size ∉ frs X.stack := fun z => by
      rcases List.mem_cons.mp (I1.stkSub _ z) with e | e
      · have h1 := I1.lt
        rw [← e] at h1
        exact Nat.lt_irrefl _ h1
      · exact I1.nofs (Nat.le_refl _) e
    have ht : (s1.heap.push { cls := .type "tuple", data := .seq [u].toArray }).get? s1.heap.objs.size = some { cls := .type "tuple", data := .seq [u].toArray } := Heap.get?_push_size _ rfl
    have sz : s1.heap.objs.size < (s1.heap.push { cls := .type "tuple", data := .seq [u].toArray }).objs.size := Heap.lt_size ht
    refine lam_tail I2 TB hcode hm hu hT hfree fun f c' doc pm ctv H2 s' I3 e1 e2 T1 k1 k2 hf hn hs hc => h f c' (.ref s1.heap.objs.size) doc pm ctv [(a, u)] H2 s' I3 e1 e2 T1 hf hn hs hc rfl fun s2 kp => ?_
    obtain ⟨k, b1, b2⟩ := hb s1.heap.objs.size doc pm c' ctv u
    have nP : s1.heap.objs.size ≠ P := fun z => by
      obtain ⟨ps, hP, _⟩ := hT _ hm
      rw [z] at nT
      rw [show H1 P = _ from hP] at nT
      cases nT
    exact BindsTo.of_defaults rfl (kp _ _ (k1 _ _ nP ht) (k2 _ sz nT) nofr) rfl b1 b2
abbrev lamE (X : L2.Cx) (scope : Scope) (L f c' : Addr) : Env := PySem.W.envX (X.env.qual ++ "<lambda>") scope L f (.ref c') (cloFrom X.env.cells scope.names [])
/-- its frame, as it is entered -/
theorem lam_start3 {A : Around} {outer : List Env} {E : XK} {scope : Scope} {bs : List Str} {f c' : Addr} {h₁ : Heap} {tk : Nat} {binds : List (Str × Value)} (I : Inv X pins σ H s) (L : LamD X.N X.env.scope scope bs) (e0 : Env0 X.prog X.w X.K X.mg X.base A outer s1 HZ) (hd : A.handled = none)
    (un : Un (frs X.stack) [] H HZ s.heap s1.heap) (hns : h₁.Ns s1.heap.objs.size fun y => binds.reverse.lookup y) (kp : ∀ b o, s1.heap.get? b = some o → h₁.get? b = some o) :
    Inv (lamCx X A outer s1 HZ E scope f c') [] σ HZ { s1 with heap := h₁, toks := tk } := by
  have hfree := L.has I.ok
  have cm : ∀ {y c}, (cloFrom X.env.cells scope.names []).lookup y = some c → X.env.cells.lookup y = some c := fun {y c} e => by
    rcases cloFrom_mem (PySem.mem_of_lookup e) with hm | ⟨h1, h2⟩
    · cases hm
    · obtain ⟨c1, hc⟩ := hfree _ h1 rfl
      have hc : X.env.cells.lookup y = some c1 := hc
      have e2 : c = c1 := by
        rw [h2, hc] <;> rfl
      rw [e2]
      exact hc
  have look : ∀ {y}, scope.names.lookup y = some .free → ∃ c, (cloFrom X.env.cells scope.names []).lookup y = some c := fun {y} hl => by
    have hy : (y, NameKind.free) ∈ scope.names := PySem.mem_of_lookup hl
    exact mem_lookup (cloFrom_has (cells := X.env.cells) (acc := []) hy)
  have cellK : ∀ {c : Addr} {v : Option Value}, H c = none → s.heap.IsCell c v → h₁.IsCell c v := fun {c v} n ⟨o, ho, hd⟩ => by
    obtain ⟨sl, q⟩ := un.any ho n (by simp)
    exact ⟨_, kp _ _ q, hd⟩
  have noA : ∀ b : Addr, b ∉ (lamCx X A outer s1 HZ E scope f c').ex := fun b z => absurd (show b ∈ ([] : List Addr) from z) (by simp)
  refine ⟨⟨e0.mod, L.kind, rfl, rfl, Nat.le_refl _, fun y z c e1 e2 => I.ok.inj y z c (cm e1) (cm e2), fun y hy => ?_, fun y c z _ => ?_, fun _ => hd, Around.frames_deeper e0.frames, .inr ⟨rfl, rfl⟩, fun b z => absurd z (noA b), e0.bs, e0.bsz, fun b _ _ => noA b,
      fun b z => absurd z (noA b), e0.funs, e0.frf⟩,
    rfl, e0.bare, Un.kept kp, ⟨_, hns, fun i y v e1 e2 e3 => ?_⟩, fun y c e => ?_, e0.hok.fresh (Nat.le_refl _), fun y c e => ?_, fun q hq => absurd (show q ∈ ([] : List (Addr × Obj)) ++ [] from hq) (by simp), e0.hok.kept kp, I.len⟩
  · have hy : scope.names.lookup y = some .cell ∨ scope.names.lookup y = some .free := hy
    rcases hy with hy | hy
    · exact absurd rfl (L.cell _ (PySem.mem_of_lookup hy))
    · exact look hy
  · have z : false = true := z
    cases z
  · have e3 : Vis scope y := e3
    have e1 : X.N[i]? = some y := e1
    rcases e3 with k | k | k
    · exact absurd (List.mem_of_getElem? e1) (L.own _ (PySem.mem_of_lookup k) rfl)
    · exact absurd rfl (L.cell _ (PySem.mem_of_lookup k))
    · obtain ⟨m, hn, hl⟩ := I.loc
      have hvis : Vis X.env.scope y := (L.free _ (PySem.mem_of_lookup k) rfl).elim (fun k => .inr (.inl k)) (fun k => .inr (.inr k))
      obtain ⟨w', r, q⟩ := hl i y v e1 e2 hvis
      obtain ⟨c2, h2⟩ := look k
      refine ⟨w', r, .inr ⟨.inr k, c2, h2, ?_⟩⟩
      have c1 := cm h2
      rcases q with ⟨k', _⟩ | ⟨_, c3, e', z⟩
      · have k' : X.env.scope.names.lookup y = some .local := k'
        rcases L.free _ (PySem.mem_of_lookup k) rfl with k2 | k2 <;> rw [show X.env.scope.names.lookup y = _ from k2] at k' <;> cases k'
      · rw [c1] at e'
        cases e'
        exact cellK (I.freeC y _ c1) z
  · obtain ⟨w', z⟩ := I.cell y c (cm e)
    exact ⟨w', cellK (I.freeC y c (cm e)) z⟩
  · obtain ⟨v, o, ho, hd⟩ := I.cell y c (cm e)
    exact un.free c o ho (I.freeC y c (cm e)) (by simp)
end
end DL
set_option Elab.async false
set_option linter.all false
set_option maxRecDepth 100000
set_option maxHeartbeats 2000000
/-! DE4: a lambda handed to a def that tells its error. -/
namespace DL
open PySem PySem.Spec PyProof.Rows L2 LamX

section
variable {X : L2.Cx} {pins : List (Addr × Obj)} {σ : L2.St} {H HZ : Hp} {s s1 : Shared}
/-- x(), in the def that got the lambda -/
theorem pe_act3 {CXg : CXT} {Eg : XK} {Ng : List Str} {qg : Str} {sg : Scope} {g f c' : Addr} {cdg dV doc pm ctv : Value} {params : Arguments} {body : Expr} {scope : Scope} {bs : List Str} {binds : List (Str × Value)} {k i : Nat} {a : Str} {pn : List (Addr × Obj)} {xe : Value → Shared → Prop} {W : WX} {E : XK} {tb : TE} {p1 p2 : Pos}
    (I : Inv X pins σ H s) (L : LamD X.N X.env.scope scope bs) (hf : s.heap.get? f = some (lamO X params body scope dV doc pm c' ctv)) (hfn : H f = none) (hfr : f ∉ frs X.stack)
    (hbs : binds.map (·.1) = bs) (hbind : ∀ s1 : Shared, (∀ b o, s.heap.get? b = some o → H b = none → b ∉ frs X.stack → s1.heap.get? b = some o) → BindsTo s1 (lamF X params body scope dV doc pm c' ctv) ⟨[], []⟩ binds)
    (tk : Takes ((cxOf CXg X.prog X.w X.K X.mg X.base Ng qg sg g cdg X.A X.stack s H Eg).tr pn xe) W) (hW : ∀ cls d σ' H', E cls d H' → W cls d σ' H') (hr : Room (k + 1) (X.A.deeper (envOfC qg sg s.heap.objs.size g cdg)))
    (hbody : ∀ (A : Around) (outer : List Env) (s : Shared) (H : Hp), Room k (A.deeper (lamEnv X scope s.heap.objs.size f c')) → PE (lamCx X A outer s H E scope f c') body tb)
    (hN : Ng[i]? = some a) (hv : Vis sg a) (hd : (a == ("__debug__" : Str)) = false := by decide) (hcd : (a == ("__classdict__" : Str)) = false := by decide) :
    PE ((cxOf CXg X.prog X.w X.K X.mg X.base Ng qg sg g cdg X.A X.stack s H Eg).tr pn xe) (.Call (.Name a p1) [] [] p2)
      (fun σZ HZ Q => σZ[i]? = some (some (.ref f)) ∧ HZ c' = some (CodeO c' (X.env.qual ++ "<lambda>")) ∧ tb σ HZ Q) := by
  refine ⟨fun pinsZ sZ σZ HZ Q IZ h => ?_⟩
  obtain ⟨hs, hc, ht⟩ := h
  refine wpAny_Call_Name_kw (thn ((pe_var (pos := p1) (i := i) hN hv hd hcd).run pinsZ sZ σZ HZ (fun v H1 => v = .ref f ∧ H1 = HZ) IZ ⟨.ref f, hs, rfl, rfl⟩) fun u s1 ⟨v, H1, I1, r1, q1⟩ => ?_)
  obtain ⟨ev, eH⟩ := q1
  subst ev
  rw [eH] at I1
  obtain rfl : u = Value.ref f := r1
  have un : Un (frs X.stack) [] H HZ s.heap s1.heap := I1.base
  have kpU : ∀ b o, s.heap.get? b = some o → H b = none → b ∉ frs X.stack → s1.heap.get? b = some o := fun b o e n nf => un.keep b o e n nf (by simp)
  have of1 : s1.heap.get? f = some (lamO X params body scope dV doc pm c' ctv) := kpU f _ hf hfn hfr
  refine PySem.W.callWith_F0 ⟨_, _, _, _, of1⟩ ?_
  obtain ⟨⟨oc, vs, t, hoc, hdc, hvc⟩, _, _⟩ := I1.hok c' _ hc
  have rc : codeAny (model X.prog X.w) (X.A.deeper (envOfC qg sg s.heap.objs.size g cdg)) (.call (.ref f) ⟨[], []⟩) (CR (L2.CX X.prog X.w) (envOfC qg sg s.heap.objs.size g cdg :: X.stack) X.prog X.w HZ s1 Q E) s1 := by
    refine PySem.W.kla_callFunE hr.depth of1 rfl L.co L.gen rfl ⟨c', oc, vs, t, rfl, hoc, hdc, hvc⟩ ?_
    refine hbind s1 kpU _ _ _ _ (wpAny_newFunctionEnv (fun y hy => L.cell y hy) (fun y hy => L.loc _ (by rw [← hbs]; exact List.mem_map_of_mem hy)) (fun h₁ hns hsb => ⟨I1.nolimit.fresh _ hsb, ?_⟩) L.kind)
    show codeAny _ _ (.expr body (lamEnv X scope s1.heap.objs.size f c')) _ _
    have kp : ∀ b o, s1.heap.get? b = some o → h₁.get? b = some o := fun b o e => hsb.extBut b o (Nat.ne_of_lt (Heap.lt_size e)) (Heap.get?_push_of_some _ e)
    have J : Inv (lamCx X (X.A.deeper (envOfC qg sg s.heap.objs.size g cdg)) (envOfC qg sg s.heap.objs.size g cdg :: X.stack) s1 HZ E scope f c') [] σ HZ { s1 with heap := h₁, toks := s1.toks + binds.length } :=
      lam_start3 I L I1.env0 hr.hd un hns kp
    refine PySem.W.kla_codeExpr (wpAny_mono ((hbody _ _ s1 HZ (hr.deeper _)).run [] _ _ HZ Q J ht) (fun v s' hq => ?_) fun e s' hq => hq)
    obtain ⟨w', H', J', rv, q⟩ := hq
    exact ⟨w', H', J'.os, J'.bare, J'.base, J'.hok, rv, q⟩
  have hx : Passes (L2.CX X.prog X.w) ((cxOf CXg X.prog X.w X.K X.mg X.base Ng qg sg g cdg X.A X.stack s H Eg).tr pn xe) E := passes_call tk hW
  refine wpAny_call (codeAny_mono rc fun r s' hq => ?_)
  cases r with
  | error e => exact hx pinsZ σZ HZ s1 e s' I1 hq
  | ok fl =>
    cases fl with
    | ret u => exact I1.after hq
    | next => exact False.elim hq
    | brk => exact False.elim hq
    | cont => exact False.elim hq
/-- x(lambda: body) -/
def tLam3 (T : List (Addr × Str)) (P : Addr) (TT : (XK → Hp → VK → Prop) → Hp → VK → Prop) (t : XK → TE) : TE := fun σ H Q => Tabs T H ∧ ∀ H1, (∀ b o, b ≠ P → H b = some o → H1 b = some o) → (∃ ps, H1 P = some (.tbl ps)) → Tabs T H1 → TT (fun E H' Q' => t E σ H' Q') H1 Q
theorem pe_lamcall3 {T : List (Addr × Str)} {TT : (XK → Hp → VK → Prop) → Hp → VK → Prop} {x a : Str} {g c P : Addr} {k : Nat} {pg : Arguments} {bg : List Stmt} {sg : Scope} {dV kV doc pm cdv ct oc : Value} {an od : Option Addr} {osl : Array (Option Value)} {Ng : List Str}
    {params : Arguments} {body : Expr} {scope : Scope} {bs : List Str} {t : XK → TE} {p lpos pos : Pos} (hg : Gl X x) (hm : X.mg x = some (.ref g)) (hk : PySem.W.keepIn X.K (.ref g) = true)
    (lk : X.K.lookup g = some ⟨oc, od, .func (PySem.W.fnOf x x pg bg sg dV kV doc pm an cdv ct), osl⟩) (hcg : PySem.W.codeIn X.K cdv x = true) (hb : L2.Binds X.K (PySem.W.fnOf x x pg bg sg dV kV doc pm an cdv ct) [a] []) (Sg : FnScope Ng [a] sg) (hNg : Ng[0]? = some a) (hva : Vis sg a)
    (hG : GivesTo X Ng x sg g cdv bg a (X.env.qual ++ "<lambda>") TT)
    (TB : TabB X.base X.mg c P) (hcode : X.env.code = .ref c) (hmT : (P, X.env.qual ++ "<lambda>") ∈ T) (hu : ∀ p ∈ T, p.1 = P → p.2 = X.env.qual ++ "<lambda>") (hr : Room (k + 2) X.A) (L : LamD X.N X.env.scope scope bs) (DK : DefK X params body scope bs)
    (hbody : ∀ (A : Around) (outer : List Env) (s : Shared) (H : Hp) (E : XK) (f c' : Addr), Room k (A.deeper (lamEnv X scope s.heap.objs.size f c')) → PE (lamCx X A outer s H E scope f c') body (t E))
    (hdb : (x == ("__debug__" : Str)) = false := by decide) (hd : (a == ("__debug__" : Str)) = false := by decide) (hcd : (a == ("__classdict__" : Str)) = false := by decide) :
    PE X (.Call (.Name x p) [.Lambda params body scope lpos] [] pos) (tLam3 T P TT t) := by
  refine ⟨fun pins s σ H Q I h => ?_⟩
  obtain ⟨hT, h⟩ := h
  refine wpAny_Call_Name_kw (ld_glob I hg hm ?_ hdb)
  refine PySem.W.callWith_K (h₀ := X.base) I.ok.mod.kin hk ?_ (by rfl) (by rfl)
  show wpAny _ _ (spliced ((false, eval (.Lambda params body scope lpos) X.env) :: backTo pos (starEach [] X.env))) _ _ s
  refine Calls.spliced_cons (lam_made I DK TB hcode hmT hu hT (L.has I.ok) rfl fun f c' dV' doc' pm' ctv binds H1 s' I1 e1 e2 T1 hf hfn hfr hco hbs hbd => ?_)
  refine Calls.spliced_nil ⟨I1.kIn, ?_⟩
  have rc : codeAny (model X.prog X.w) X.A (.call (.ref g) ⟨[.ref f], []⟩) (CR C8.CX0 X.stack X.prog X.w H1 s' Q C8.E0) s' := by
    refine run_ofS (N := Ng) (ps := [a]) (us := [.ref f]) (vs := [.ref f]) lk hcg Sg hr I1.env0 (hb s' [.ref f] I1.kIn rfl) (.cons rfl .nil) rfl fun hr' => ?_
    obtain ⟨t', ht', hq'⟩ := hG f c' s' H1 Q (fun E H' Q' => t E σ H' Q') (fun W pn xe E p1 p2 tk hW => pe_act3 (i := 0) I1 L hf hfn hfr hbs hbd tk hW hr' (fun A outer s H hr2 => hbody A outer s H E f c' hr2) hNg hva hd hcd) hco (h H1 e1 e2 T1)
    exact ⟨t', ht'.nox, hq'⟩
  refine wpAny_call (codeAny_mono rc fun r s2 hq => ?_)
  cases r with
  | error e => exact (show False from hq).elim
  | ok fl =>
    cases fl with
    | ret u => exact I1.after hq
    | next => exact False.elim hq
    | brk => exact False.elim hq
    | cont => exact False.elim hq
end

/-! ### told -/
def noOwn (ρ : EnD) : Bool := ρ.all fun o => match o with
  | some (.own _) => false
  | _ => true
theorem noOwn_at {ρ : EnD} (h : noOwn ρ = true) (i : Nat) (d : D) : ρ[i]? ≠ some (some (.own d)) := fun e => by
  have := List.all_eq_true.mp h _ (List.mem_of_getElem? e)
  cases this
/-- the word of what was raised, or the empty word -/
def eTold (W : Str → Option (List Nat)) (f : EnD → M D) : EnD → M D := fun ρ z => if noOwn ρ then match f ρ z with
  | .ok _ z' => .ok (.str []) z'
  | .exc ⟨x, none⟩ z' => match W x with
    | some w => .ok (.str w) z'
    | none => .bad
  | _ => .bad else .bad
/-- what the def that tells does with the lambda -/
def TTell (mg : Str → Option Value) (W : Str → Option (List Nat)) : (XK → Hp → VK → Prop) → Hp → VK → Prop := fun tl H Q =>
  tl (fun cls d H' => d = none ∧ ∃ x c w, mg x = some (.ref c) ∧ cls = .ref c ∧ W x = some w ∧ Q (.str (ST w)) H') H fun _ H' => Q (.str (ST [])) H'
section
variable {X : L2.Cx} {T : Tb} {E : XK}
theorem pu_told {W : Str → Option (List Nat)} {f : EnD → M D} {x a : Str} {g c P : Addr} {k : Nat} {pg : Arguments} {bg : List Stmt} {sg : Scope} {dV kV doc pm cdv ct oc : Value} {an od : Option Addr} {osl : Array (Option Value)} {Ng : List Str}
    {params : Arguments} {body : Expr} {scope : Scope} {bs : List Str} {p lpos pos : Pos} (hg : Gl X x) (hm : X.mg x = some (.ref g)) (hk : PySem.W.keepIn X.K (.ref g) = true)
    (lk : X.K.lookup g = some ⟨oc, od, .func (PySem.W.fnOf x x pg bg sg dV kV doc pm an cdv ct), osl⟩) (hcg : PySem.W.codeIn X.K cdv x = true) (hb : L2.Binds X.K (PySem.W.fnOf x x pg bg sg dV kV doc pm an cdv ct) [a] []) (Sg : FnScope Ng [a] sg) (hNg : Ng[0]? = some a) (hva : Vis sg a)
    (hG : GivesTo X Ng x sg g cdv bg a (X.env.qual ++ "<lambda>") (TTell X.mg W))
    (TB : TabB X.base X.mg c P) (hcode : X.env.code = .ref c) (hmT : (P, X.env.qual ++ "<lambda>") ∈ T.ls) (hu : ∀ p ∈ T.ls, p.1 = P → p.2 = X.env.qual ++ "<lambda>") (hr : Room (k + 2) X.A) (L : LamD X.N X.env.scope scope bs) (DK : DefK X params body scope bs)
    (hbody : ∀ (A : Around) (outer : List Env) (s : Shared) (H : Hp) (E : XK) (f' c' : Addr), Room k (A.deeper (lamEnv X scope s.heap.objs.size f' c')) → PE (lamCx X A outer s H E scope f' c') body (tD (yx X T E) f))
    (hdb : (x == ("__debug__" : Str)) = false := by decide) (hd : (a == ("__debug__" : Str)) = false := by decide) (hcd : (a == ("__classdict__" : Str)) = false := by decide) :
    PE X (.Call (.Name x p) [.Lambda params body scope lpos] [] pos) (tD (yx X T E) (eTold W f)) :=
  PE_imp (pe_lamcall3 (t := fun E => tD (yx X T E) f) hg hm hk lk hcg hb Sg hNg hva hG TB hcode hmT hu hr L DK hbody hdb hd hcd) fun σ H Q h => by
    obtain ⟨g, ρ, z, st, a⟩ := h
    refine ⟨st.wo.lam, fun H1 e1 e2 T1 => ?_⟩
    unfold eTold at a
    cases no : noOwn ρ with
    | false => rw [no] at a; exact a.elim
    | true =>
    rw [no] at a
    simp only [if_true] at a
    obtain ⟨ps, hP, _⟩ := st.wo.lam _ hmT
    have hRP : g.R ≠ P := fun c => by
      obtain ⟨SA, _, _, s3⟩ := st.wo.row
      have s3 : H g.R = _ := s3
      have c : g.R = P := c
      rw [c, hP] at s3
      cases s3
    have ex : Ext g.R H H1 := ⟨fun b o q _ nt => e1 b o (fun c => nt.ne ps (Option.some.inj (by rw [← q, c]; exact hP))) q, fun b q => by
      by_cases c : b = P
      · obtain ⟨ps, e2⟩ := e2
        rw [c, e2]
        exact fun z => by cases z
      · cases e : H b with
        | none => exact absurd e q
        | some o => rw [e1 b o c e]; exact (fun z => by cases z), fun x xs q => ⟨xs, e1 g.R (HO.lst (x :: xs)) hRP q⟩⟩
    have wo1 : Wo X.K T (gb g σ ρ) H1 z := by
      obtain ⟨⟨SA, s1, s2, s3⟩, ht, hb, hd, hk, hl, hi, hz⟩ := st.wo
      refine ⟨⟨SA, s1, (ex.rd st.badR).sqL s1 s2, e1 _ _ (fun c => ?_) s3⟩, fun P' hP' => ?_, hb, fun b q => ex.dom b (hd b q), hk, T1, hi, fun a fs e => (hz a fs e).mono (ex.rd st.badR) fun C dx fv q => e1 _ _ (fun c => by rw [c, hP] at q; cases q) q⟩
      · have s3 : H g.R = _ := s3
        have c : g.R = P := c
        rw [c, hP] at s3
        cases s3
      · obtain ⟨ps', q, r⟩ := ht P' hP'
        exact ⟨ps', e1 _ _ (fun c => hi _ hmT (by rw [← c]; exact hP')) q, r⟩
    have st1 : StR (yx X T E) g H1 σ ρ z := st.step ex wo1
    have nb : ∀ b, bad g σ ρ b ↔ g.B b := fun b => ⟨fun q => q.elim id fun ⟨i, d, q, _⟩ => absurd q (noOwn_at no i d), .inl⟩
    have st2 : ∀ E', StR (yx X T E') ⟨g.R, g.B, H1⟩ H1 σ ρ z := fun E' => ⟨st1.wo.less (fun _ q => q) st1.badR, st1.gR, st1.len, st1.val, fun i d q => absurd q (noOwn_at no i d), fun i j d e b q => absurd q (noOwn_at no i d), .refl⟩
    refine ⟨⟨g.R, g.B, H1⟩, ρ, z, st2 _, ?_⟩
    cases e : f ρ z with
    | ok d z' =>
      rw [e] at a
      exact fun v H' s' e' r' => a (.str (ST [])) H' (st1.step e' (s'.wo.less (fun _ q => q) s'.badR)) (ex.trans e') (.atom .str .nil)
    | exc xx z' =>
      rw [e] at a
      obtain ⟨x, idx⟩ := xx
      cases idx with
      | some i => exact a.elim
      | none =>
        intro H' C d w' e' xr
        obtain ⟨c, h1, h2, h3⟩ := xr
        cases hW : W x with
        | none => simp only [hW] at a; exact a.elim
        | some w =>
          simp only [hW] at a
          refine ⟨h3, x, c, w, h1, h2, hW, ?_⟩
          exact a _ H' (st1.step e' (w'.less (fun b q => (nb b).mp q) (.inl st.gR))) (ex.trans e') (.atom .str .nil)
    | bad => rw [e] at a; exact a
end
end DL
set_option Elab.async false
set_option linter.all false
set_option maxRecDepth 100000
set_option maxHeartbeats 2000000
/-! DE5: the def that tells the word of an error. -/
namespace DL
open PySem PySem.Spec PyProof.Rows L2 LamX

theorem PSs_len {X : L2.Cx} {e : List Stmt} {t : TS} (h : PSs X e t) : PSs X e fun D σ H => σ.length = X.N.length → t D σ H := ⟨fun pins s σ H D I q => h.run pins s σ H D I (q I.len)⟩
/-- an own class whose errors are told: caught by CV; asked whether it is one of CN, CI -/
structure TCls (K : PySem.W.Frag) (CV CN CI c : Addr) (b1 b2 : Bool) : Prop where
  exc : ExcC K c
  caught : PySem.W.exmOne K (.ref c) (.ref CV) = some true
  one : PySem.W.kitOne K (.ref c) (.ref CN) = some b1
  two : PySem.W.kitOne K (.ref c) (.ref CI) = some b2
section
variable {X : L2.Cx}
theorem told_gives8 {Ng : List Str} {x a e cV cN cI q w1 w2 w3 : Str} {sg : Scope} {g CV CN CI : Addr} {cdg : Value} {j1 j2 j3 j4 : Nat} {p1 p2 p3 p4 p5 p6 p7 p8 p9 q1 q2 q3 q4 q5 q6 q7 q8 q9 q10 q11 q12 q13 : Pos} {W : Str → Option (List Nat)}
    (hN : Ng = [a, e]) (nd : Ng.Nodup) (hle : sg.names.lookup e = some .local)
    (hgV : sg.names.lookup cV = some .globalImplicit) (hgN : sg.names.lookup cN = some .globalImplicit) (hgI : sg.names.lookup cI = some .globalImplicit) (hgis : sg.names.lookup ("isinstance" : Str) = some .globalImplicit)
    (mV : X.mg cV = some (.ref CV)) (mN : X.mg cN = some (.ref CN)) (mI : X.mg cI = some (.ref CI)) (mis : X.mg "isinstance" = none)
    (dV : (cV == ("__debug__" : Str)) = false) (dN : (cN == ("__debug__" : Str)) = false) (dI : (cI == ("__debug__" : Str)) = false) (de : (e == ("__debug__" : Str)) = false) (ce : (e == ("__classdict__" : Str)) = false)
    (hW : ∀ y c w, W y = some w → X.mg y = some (.ref c) → ∃ b1 b2, TCls X.K CV CN CI c b1 b2 ∧ ST w = if b1 then w1 else if b2 then w2 else w3) :
    GivesTo X Ng x sg g cdg [.Try [.Expr (.Call (.Name a p1) [] [] p2) p3] [.ExceptHandler (some (.Name cV p4)) (some e) [.Return (some (.IfExp (.Call (.Name "isinstance" q1) [.Name e q2, .Name cN q3] [] q4) (.Constant (.str w1) j1 q5)
      (.IfExp (.Call (.Name "isinstance" q6) [.Name e q7, .Name cI q8] [] q9) (.Constant (.str w2) j2 q10) (.Constant (.str w3) j3 q11) q12) q13)) p5] p6] [] [] p7, .Return (some (.Constant (.str (ST [])) j4 p8)) p9] a q (TTell X.mg W) := by
  intro f c' s H Q tl act hc h
  subst hN
  have isE : ∀ (a' : Addr) (oe : Obj) (C Ck : Addr) (cK : Str) (pn : List (Addr × Obj)) (r1 r2 r3 r4 : Pos), ExcC X.K C → Zc (.ref C) none oe → (∃ vs, oe.data = .fields vs) → sg.names.lookup cK = some .globalImplicit → X.mg cK = some (.ref Ck) → (cK == ("__debug__" : Str)) = false →
      PE ((cxOf C8.CX0 X.prog X.w X.K X.mg X.base [a, e] x sg g cdg X.A X.stack s H C8.E0).nox.suite a' ((a', oe) :: pn)) (.Call (.Name "isinstance" r1) [.Name e r2, .Name cK r3] [] r4) (tCB (rIsE X.K C a') (tCons (tVar 1) (tCons (tC (.ref Ck)) tNil))) := by
    intro a' oe C Ck cK pn r1 r2 r3 r4 hC hz hf hgK mK dK
    exact pe_callB (call_isE (X := (cxOf C8.CX0 X.prog X.w X.K X.mg X.base [a, e] x sg g cdg X.A X.stack s H C8.E0).nox) hC hz hf) hgis mis PyProof.Rows.boot_isinstance (pa_cons (pe_var (i := 1) rfl (.inl hle) de ce) (pa_cons (pe_glob hgK mK rfl dK) pa_nil))
  refine ⟨_, pss_cons (ps_try_as (X := (cxOf C8.CX0 X.prog X.w X.K X.mg X.base [a, e] x sg g cdg X.A X.stack s H C8.E0).nox) (c := .ref CV) (i := 1) (Wout := fun _ _ _ _ => False)
      (tb := fun W D σ H => ∃ Ech : XK, (∀ cls d σ' H', Ech cls d H' → W cls d σ' H') ∧ σ[0]? = some (some (.ref f)) ∧ H c' = some (CodeO c' q) ∧ tl Ech H fun _ H' => D.nx σ H')
      (ts := fun a' cls d D σ H => σ.length = 2 → ∃ C b1 b2, cls = .ref C ∧ d = none ∧ TCls X.K CV CN CI C b1 b2 ∧ σ[1]? = some (some (.ref a')) ∧ D.rt (.str (if b1 then w1 else if b2 then w2 else w3)) H)
      rfl rfl nd rfl ?_ ⟨hgV, dV, .inl mV⟩ takes0 (fun W pn xe tk _ => ?_) (fun a' oe cls d pn hz hf => ?_)) (pss_one (ps_ret pe_str)), ?_⟩
  · exact hle
  · refine ⟨fun pins s' σ H' D I h' => ?_⟩
    obtain ⟨Ech, hW', h1, h2, h3⟩ := h'
    have hp := act W pn xe Ech p1 p2 tk hW'
    exact (pss_one (ps_expr (pos := p3) hp rfl)).run pins s' σ H' D I ⟨h1, h2, h3⟩
  · refine ⟨fun pins s' σ H' D I h' => ?_⟩
    obtain ⟨C, b1, b2, rfl, rfl, tc, hs, hq⟩ := h' I.len
    have he := pe_ifExp (pos := q13) (pt_val (isE a' oe C CN cN pn q1 q2 q3 q4 tc.exc hz hf hgN mN dN)) (pe_str (x := w1) (j := j1) (pos := q5)) (pe_ifExp (pos := q12) (pt_val (isE a' oe C CI cI pn q6 q7 q8 q9 tc.exc hz hf hgI mI dI)) (pe_str (x := w2) (j := j2) (pos := q10)) (pe_str (x := w3) (j := j3) (pos := q11)))
    refine (pss_one (ps_ret (pos := p5) he)).run pins s' σ H' D I ?_
    refine ⟨.ref a', hs, ⟨.ref CN, .ref CN, b1, rfl, fun u r => r, tc.one, b1, rfl, ?_⟩⟩
    cases b1 with
    | true => exact hq
    | false =>
      refine ⟨.ref a', hs, ⟨.ref CI, .ref CI, b2, rfl, fun u r => r, tc.two, b2, rfl, ?_⟩⟩
      cases b2 with
      | true => exact hq
      | false => exact hq
  · refine ⟨fun cls d H' => d = none ∧ ∃ x c w, X.mg x = some (.ref c) ∧ cls = .ref c ∧ W x = some w ∧ Q (.str (ST w)) H', fun cls d σ' H' ⟨ed, y, c, w, m1, ec, e3, e4⟩ => ?_, rfl, hc, h⟩
    obtain ⟨b1, b2, tc, ew⟩ := hW y c w e3 m1
    subst ec ed
    refine ⟨true, tc.caught, fun _ a' ha hl => ⟨c, b1, b2, rfl, rfl, tc, ?_, by rw [ew] at e4; exact e4⟩, fun z => by cases z⟩
    rw [List.length_set] at hl
    exact List.getElem?_set_self (by omega)
end
end DL
set_option Elab.async false
set_option linter.all false
set_option maxRecDepth 100000
set_option maxHeartbeats 2000000
/-! DE6: is a text a key of a module's dict; a text times a number; a lambda's call. -/
namespace DL
open PySem PySem.Spec PyProof.Rows L2 LamX

/-- the keys of a module's dict, all of them -/
structure KKeys (K : PySem.W.Frag) (w : World) (a : Addr) (ks : List (List Nat)) : Prop where
  ex : ∃ es n, KDict K w a es n ∧ ∀ z : List Nat, ∃ r, PySem.W.nsIn K a (ST z) = some r ∧ r.isSome = ks.any fun k => decide (k = z)
theorem st_eq {a b : List Nat} : (ST a == ST b) = decide (a = b) := by
  by_cases h : a = b
  · subst h; simp
  · rw [decide_eq_false h]
    exact beq_eq_false_iff_ne.mpr fun e => h (ST_inj e)
inductive KeysAre : List DictEntry → List (List Nat) → Prop
  | nil : KeysAre [] []
  | cons {e : DictEntry} {k : List Nat} {l : List DictEntry} {ks : List (List Nat)} : (∃ t, e.key = .str (ST k) t) → KeysAre l ks → KeysAre (e :: l) (k :: ks)
theorem flat_len (n : Nat) (a : List Nat) : (List.replicate n a).flatten.length = n * a.length := by
  induction n with
  | zero => simp
  | succ n ih => rw [List.replicate_succ, List.flatten_cons, List.length_append, ih, Nat.succ_mul, Nat.add_comm]
theorem kkeys_of {K : PySem.W.Frag} {w : World} {a : Addr} {es : Array DictEntry} {n : Nat} {ks : List (List Nat)} (hl : K.lookup a = some ⟨.type "dict", none, .dict es n, #[]⟩) (hk : PySem.W.KeysLit w.params es.toList) (hs : (a == sysModules) = false)
    (h : KeysAre es.toList ks) : KKeys K w a ks := by
  refine ⟨es, n, ⟨hl, hk, hs⟩, fun z => ?_⟩
  unfold PySem.W.nsIn
  rw [hl]
  simp only
  have all : (∃ e, es.toList.find? (fun e => e.key.isStr (ST z)) = some e ∧ (ks.any fun k => decide (k = z)) = true) ∨ (es.toList.find? (fun e => e.key.isStr (ST z)) = none ∧ (ks.any fun k => decide (k = z)) = false ∧ es.toList.any (·.refKey) = false) := by
    generalize es.toList = l at h
    induction h with
    | nil => exact .inr ⟨rfl, rfl, rfl⟩
    | @cons e k l ks he _ ih =>
      obtain ⟨t, he⟩ := he
      have h1 : e.key.isStr (ST z) = decide (k = z) := by
        rw [he]
        exact st_eq
      have h2 : e.refKey = false := by unfold DictEntry.refKey; rw [he]
      rw [List.find?_cons, h1, List.any_cons, List.any_cons, h2]
      by_cases c : k = z
      · rw [decide_eq_true c]; exact .inl ⟨e, rfl, rfl⟩
      · rw [decide_eq_false c]; simpa using ih
  rcases all with ⟨e, e1, e2⟩ | ⟨e1, e2, e3⟩
  · rw [e1, e2]; exact ⟨_, rfl, rfl⟩
  · rw [e1, e2, e3]; exact ⟨_, rfl, rfl⟩
def inK (ks : List (List Nat)) : D → Option D
  | .str z => some (.bl (ks.any fun k => decide (k = z)))
  | _ => none
def mulS : D → D → Option D
  | .str a, .int n => if 2 ≤ n ∧ n ≤ 1000 ∧ 1 ≤ a.length ∧ a.length ≤ 1000 then some (.str (List.replicate n.toNat a).flatten) else none
  | _, _ => none
section
variable {X : L2.Cx} {T : Tb} {E : XK} {b : Expr} {fb : EnD → M D} {pos p px : Pos} {x : Str} {σ : L2.St} {H : Hp} {Q : VK}
theorem pu_inK {ks : List (List Nat)} {ad : Addr} (hg : Gl X x) (hm : X.mg x = some (.ref ad)) (hT : KKeys X.K X.w ad ks) (hb : PE X b (tD (yx X T E) fb)) (hbm : behindInMarks .In (.Name x px) = false) (hd : (x == ("__debug__" : Str)) = false := by decide) :
    PE X (.Compare b [.In] [.Name x px] pos) (tD (yx X T E) (e1 (op1 (inK ks)) fb)) := by
  obtain ⟨es, n, kd, hk⟩ := hT.ex
  refine PE_imp (pe_cmpR (op_in_kd kd) hb (pe_glob hg hm (v := .ref ad) rfl hd) hbm) fun σ H Q h => ?_
  obtain ⟨g, ρ, z, st, a⟩ := tD_bind (k := fun _ => op1 (inK ks)) h
  refine ⟨g, ρ, z, st, a.imp fun d z1 _ h1 v H1 st1 e1 r1 => ?_⟩
  obtain ⟨g2, ρ2, z2, d2, st2, r2, a2⟩ := h1 v H1 st1 e1 r1
  obtain ⟨r, hr, q⟩ := a2.opt
  cases d2 <;> simp only [inK, reduceCtorEq] at hr
  cases hr
  cases r2.str
  obtain ⟨r, h3, h4⟩ := hk _
  refine ⟨_, r, rfl, rfl, h3, ?_⟩
  rw [h4]
  exact q _ H1 st2 .refl (.atom .bl .nil)
theorem fold_flat (n : Nat) (a : Array Nat) : ∀ acc : Array Nat, (List.replicate n a).foldl (· ++ ·) acc = acc ++ ((List.replicate n a.toList).flatten).toArray := by
  induction n with
  | zero => intro acc; simp
  | succ n ih =>
    intro acc
    rw [List.replicate_succ, List.foldl_cons, ih, List.replicate_succ, List.flatten_cons]
    apply Array.toList_inj.mp
    simp
theorem op_mulS : OpR X (binaryOp .Mult) (fun x y H Q => ∃ (a : List Nat) (n : Int), x = .str (ST a) ∧ y = .int n ∧ 2 ≤ n ∧ n ≤ 1000 ∧ 1 ≤ a.length ∧ a.length ≤ 1000 ∧ Q (.str (ST (List.replicate n.toNat a).flatten)) H) := by
  intro pins s σ H x y v u Q I rx ry h
  obtain ⟨a, n, rfl, rfl, n2, n3, a1, a2, q⟩ := h
  obtain ⟨t, rfl⟩ := rx
  obtain ⟨t2, rfl⟩ := ry
  have hl : (ST a).length = a.length := ST_len a
  have n1 : ¬ n < 1 := by omega
  have hz : (n == 1 || (ST a).length == 0) = false := by
    rw [hl, Bool.or_eq_false_iff]
    exact ⟨beq_eq_false_iff_ne.mpr (by omega), beq_eq_false_iff_ne.mpr (by omega)⟩
  have hsz : (ST a).length * n.toNat ≤ 1000000 := by
    rw [hl]
    exact Nat.le_trans (Nat.mul_le_mul a2 (show n.toNat ≤ 1000 by omega)) (by decide)
  refine P.mul_str ?_ (fun _ _ => ?_) (fun _ _ => ?_) ?_
  · rw [decide_eq_false (by omega), decide_eq_false (by omega)]; rfl
  · rw [hl]
    have : (a.length : Int) ≤ (2 ^ 63 - 1) / n := by
      rw [Int.le_ediv_iff_mul_le (by omega)]
      have : (a.length : Int) * n ≤ 1000 * 1000 := Int.mul_le_mul (by omega) n3 (by omega) (by omega)
      omega
    omega
  · unfold Builtin.Str.tooLong
    rw [decide_eq_false_iff_not, sizeLine_eq]
    omega
  · rw [if_neg n1, if_neg (by rw [hz]; simp)]
    have e : (⟨(List.replicate n.toNat (ST a).cps).foldl (· ++ ·) #[]⟩ : Str) = ST (List.replicate n.toNat a).flatten := by
      unfold ST
      rw [fold_flat]
      simp
    rw [e]
    refine ⟨?_, .str _, H, I.tok _, ⟨_, rfl⟩, q⟩
    rw [ST_len, sizeLine_eq, flat_len]
    rw [hl, Nat.mul_comm] at hsz
    omega
theorem od_mulS : OpD X T E (binaryOp .Mult) (op2 mulS) := opD_flat fun H R B v w d e r Q rv rw' h q => by
  unfold mulS at h
  split at h
  · split at h
    · rename_i c; cases h; cases rv.str; cases rw'.int; exact ⟨_, op_mulS, _, _, rfl, rfl, c.1, c.2.1, c.2.2.1, c.2.2.2, q _ .str⟩
    · cases h
  · cases h
/-- amid a lambda's body -/
theorem takesL {A : Around} {outer : List Env} {s : Shared} {scope : Scope} {f c' : Addr} : Takes (lamCx X A outer s H E scope f c') fun cls d _ H => E cls d H := takes_of rfl rfl rfl rfl
theorem passL {A : Around} {outer : List Env} {s : Shared} {scope : Scope} {f c' : Addr} : Passes (L2.CX X.prog X.w) (lamCx X A outer s H E scope f c') E := passes_call takesL fun _ _ _ _ h => h
theorem passL2 {A : Around} {outer : List Env} {s : Shared} {scope : Scope} {f c' : Addr} {P : Program} {w : World} (h1 : X.prog = P) (h2 : X.w = w) : Passes (L2.CX P w) (lamCx X A outer s H E scope f c') E := by
  subst h1 h2
  exact passL
/-- told, by what is known of the def -/
theorem pu_told2 {W : Str → Option (List Nat)} {f : EnD → M D} {x a : Str} {g c P : Addr} {k : Nat} {st : Stmt} {fd : FuncData} {Ng : List Str}
    {params : Arguments} {body : Expr} {scope : Scope} {bs : List Str} {p lpos pos : Pos} (hg : Gl X x) (hm : X.mg x = some (.ref g)) (F : Fun X.K x x st g fd) (hb : L2.Binds X.K fd [a] []) (Sg : FnScope Ng [a] (defScope st)) (hNg : Ng[0]? = some a) (hva : Vis (defScope st) a)
    (hG : ∀ cdv, GivesTo X Ng x (defScope st) g cdv (defBody st) a (X.env.qual ++ "<lambda>") (TTell X.mg W))
    (TB : TabB X.base X.mg c P) (hcode : X.env.code = .ref c) (hmT : (P, X.env.qual ++ "<lambda>") ∈ T.ls) (hu : ∀ p ∈ T.ls, p.1 = P → p.2 = X.env.qual ++ "<lambda>") (hr : Room (k + 2) X.A) (L : LamD X.N X.env.scope scope bs) (DK : DefK X params body scope bs)
    (hbody : ∀ (A : Around) (outer : List Env) (s : Shared) (H : Hp) (E : XK) (f' c' : Addr), Room k (A.deeper (lamEnv X scope s.heap.objs.size f' c')) → PE (lamCx X A outer s H E scope f' c') body (tD (yx X T E) f))
    (hdb : (x == ("__debug__" : Str)) = false := by decide) (hd : (a == ("__debug__" : Str)) = false := by decide) (hcd : (a == ("__classdict__" : Str)) = false := by decide) :
    PE X (.Call (.Name x p) [.Lambda params body scope lpos] [] pos) (tD (yx X T E) (eTold W f)) := by
  obtain ⟨oc, od, kV, doc, pm, an, cdv, ct, osl, rfl, lk, hcd'⟩ := F.ex
  exact pu_told hg hm F.kp lk hcd' hb Sg hNg hva (hG cdv) TB hcode hmT hu hr L DK hbody hdb hd hcd
end
end DL
set_option Elab.async false
set_option linter.all false
set_option maxRecDepth 100000
set_option maxHeartbeats 2000000
/-! TK1: list.count of flat things; isinstance of a caught error, a tuple of classes; which of four classes an error is. -/
namespace DL
open PySem PySem.Spec PyProof.Rows L2 LamX

section
variable {X : L2.Cx}
def rCntF (K : PySem.W.Frag) : V → List V → Hp → VK → Prop := fun x xs H Q => ∃ (p : Addr) (ys : List V) (y : V), x = .ref p ∧ xs = [y] ∧ SqL K H p ys ∧ flatV y = true ∧ ys.all flatV = true ∧ Q (.int (ys.countP (fun z => eqV z y) : Nat)) H
theorem mt_lcountF : MtR X "list.count" (rCntF X.K) := by
  intro pins s σ H x xs v us Q I rx rxs h
  obtain ⟨p, ys, y, rfl, rfl, hs, fy, fys, q⟩ := h
  cases rx
  obtain ⟨u, rfl, ru⟩ := rxs.one
  obtain ⟨its, rv, ⟨⟨cls, dd, data, sl⟩, n, ho, hc, hdn, hd⟩, hlen⟩ := I.list hs
  simp only at hc hd
  subst hc hd
  refine call_meets PySem.F.slot_list_count ⟨_, ho, rfl⟩ PySem.F.entry_list_count (PySem.F.args_list_count_2 _ _)
    (SeqAt.list_countAt p its.toArray n dd sl u (eqU y)) ⟨ho, fun u' hu' => mem_eqAt ru fy rv fys u' (by simpa using hu'), ?_⟩
  have ec : its.countP (eqU y) = ys.countP (fun z => eqV z y) := count_eqU rv fys
  refine ⟨.int (ys.countP (fun z => eqV z y) : Nat), H, I.tok _, ⟨s.toks, ?_⟩, q⟩
  show Value.int ((its.toArray.toList.countP (eqU y) : Nat) : Int) s.toks = Value.int ((ys.countP (fun z => eqV z y) : Nat) : Int) s.toks
  rw [← ec]
/-- the dict of the caught exception, if it has one, is known -/
def XdAt (H : Hp) (d : Option Addr) : Prop := ∀ dd, d = some dd → ∃ fs, H dd = some (.xd fs)
theorem pin_at {pins : List (Addr × Obj)} {σ : L2.St} {H : Hp} {s : Shared} {a D : Addr} {oe : Obj} {d : Option Addr} {pn : List (Addr × Obj)} (I : Inv (X.suite a ((a, oe) :: pn)) pins σ H s) (hz : Zc (.ref D) d oe) (hf : ∃ vs, oe.data = .fields vs) (hx : XdAt H d) : ∃ od, PySem.W.InstAt s.heap a oe D od := by
  obtain ⟨hget, _⟩ := I.pin (a, oe) (List.mem_append.mpr (.inl List.mem_cons_self))
  obtain ⟨vs, hv⟩ := hf
  cases d with
  | none =>
    refine ⟨none, hget, hz.1, by unfold PySem.W.notCls; rw [hv], by rw [hz.2]; trivial⟩
  | some dd =>
    obtain ⟨fs, ea⟩ := hx dd rfl
    have hx : ObjOk X.prog X.w H s.heap dd (.xd fs) := I.hok dd _ ea
    obtain ⟨mA, ⟨od, es, ep, ho, _⟩, _⟩ := hx
    exact ⟨some od, hget, hz.1, by unfold PySem.W.notCls; rw [hv], by rw [hz.2]; exact ho⟩
theorem excC_cls {K : PySem.W.Frag} {D : Addr} (C : ExcC K D) : (PySem.W.clsIn K D).isSome = true := by
  obtain ⟨cd, hc, _⟩ := PySem.W.any_some C.hd
  rw [hc] <;> rfl
/-- isinstance(e, c), e the exception that the suite holds -/
def rIsE1 (K : PySem.W.Frag) (D a : Addr) (d : Option Addr) : List V → Hp → VK → Prop := fun xs H Q => XdAt H d ∧ ∃ (c : V) (cv : Value) (b : Bool), xs = [.ref a, c] ∧ (∀ u, RelV c u → u = cv) ∧ PySem.W.kitOne K (.ref D) cv = some b ∧ Q (.bl b) H
theorem call_isE1 {a D : Addr} {oe : Obj} {d : Option Addr} {pn : List (Addr × Obj)} (C : ExcC X.K D) (hz : Zc (.ref D) d oe) (hf : ∃ vs, oe.data = .fields vs) : CallR (X.suite a ((a, oe) :: pn)) (.builtin "isinstance") (rIsE1 X.K D a d) := by
  intro pins s σ H xs us Q I r h
  obtain ⟨hx, c, cv, b, rfl, hcv, e, q⟩ := h
  obtain ⟨u1, u2, rfl, rx, rt⟩ := vals2 r
  cases rx
  have ec := hcv _ rt
  subst ec
  obtain ⟨od, J⟩ := pin_at I hz hf hx
  exact PySem.W.kia_one (PySem.W.kitx_exc (excC_cls C) C.hg C.hk C.hs C.ha C.hn C.ht C.hm) I.kIn J e (fun z => nomatch z) fun tk => ⟨.bl b, H, I.kept (t' := tk) fun _ _ z => z, rfl, q⟩
/-- isinstance(e, (c1, c2)) -/
def rIsET (K : PySem.W.Frag) (D a : Addr) (d : Option Addr) : List V → Hp → VK → Prop := fun xs H Q => XdAt H d ∧ ∃ (tp : Addr) (cs : List V) (us : List Value) (b : Bool), xs = [.ref a, .ref tp] ∧ H tp = some (.tup cs) ∧ Paired ClsV cs us ∧ PySem.W.kitAny K (.ref D) us = some b ∧ Q (.bl b) H
theorem call_isET {a D : Addr} {oe : Obj} {d : Option Addr} {pn : List (Addr × Obj)} (C : ExcC X.K D) (hz : Zc (.ref D) d oe) (hf : ∃ vs, oe.data = .fields vs) : CallR (X.suite a ((a, oe) :: pn)) (.builtin "isinstance") (rIsET X.K D a d) := by
  intro pins s σ H xs us Q I r h
  obtain ⟨hx, tp, cs, ws, b, rfl, hT, k, e, q⟩ := h
  obtain ⟨u1, u2, rfl, rx, rt⟩ := vals2 r
  cases rx
  cases (show u2 = Value.ref tp from rt)
  obtain ⟨od, J⟩ := pin_at I hz hf hx
  obtain ⟨_, its, rv, o, h1, h2, n, h3⟩ := (show ObjOk X.prog X.w H s.heap tp (.tup cs) from I.hok tp _ hT)
  have e3 := ClsV.all k rv
  subst e3
  obtain ⟨oc, ood, dt, sl⟩ := o
  simp only at h2 h3
  subst h2 h3
  exact PySem.W.kia_tup (PySem.W.kitx_exc (excC_cls C) C.hg C.hk C.hs C.ha C.hn C.ht C.hm) I.kIn J h1 e (fun z => nomatch z) fun tk => ⟨.bl b, H, I.kept (t' := tk) fun _ _ z => z, rfl, q⟩
end

/-- which of four classes: the asked ones, in their order -/
structure TC4 (K : PySem.W.Frag) (c1 c2 c3 c4 c : Addr) (b1 b2 b3 b4 : Bool) : Prop where
  exc : ExcC K c
  k1 : PySem.W.kitOne K (.ref c) (.ref c1) = some b1
  k2 : PySem.W.kitOne K (.ref c) (.ref c2) = some b2
  k3 : PySem.W.kitOne K (.ref c) (.ref c3) = some b3
  k4 : PySem.W.kitOne K (.ref c) (.ref c4) = some b4
/-- the word of the one class that it is -/
def w4 (b1 b2 b3 b4 : Bool) (w1 w2 w3 w4 : Str) : Option Str := match b1, b2, b3, b4 with
  | true, false, false, false => some w1
  | false, true, false, false => some w2
  | false, false, true, false => some w3
  | false, false, false, true => some w4
  | _, _, _, _ => none
section
variable {X : L2.Cx}
theorem known_suite {a' C c1 c2 c3 c4 : Addr} {oe : Obj} {pn : List (Addr × Obj)} {b1 b2 b3 b4 : Bool} {W1 W2 W3 W4 W0 W : Str} {e kn n1 n2 n3 n4 : Str} {j1 j2 j3 j4 j5 j6 j7 j8 : Nat}
    {p1 p2 p3 p4 q1 q2 q3 q4 q5 q6 q7 q8 q9 q10 q11 q12 r1 r2 r3 r4 s1 s2 s3 s4 s5 s6 s7 s8 s9 s10 s11 s12 s13 s14 t1 t2 t3 t4 : Pos}
    (tc : TC4 X.K c1 c2 c3 c4 C b1 b2 b3 b4) (hw : w4 b1 b2 b3 b4 W1 W2 W3 W4 = some W)
    (hz : Zc (.ref C) none oe) (hf : ∃ vs, oe.data = .fields vs) (hN : X.N.Nodup) (h1 : X.N[1]? = some e) (h2 : X.N[2]? = some kn) (hle : X.env.scope.names.lookup e = some .local) (hlk : X.env.scope.names.lookup kn = some .local)
    (g1 : Gl X n1) (g2 : Gl X n2) (g3 : Gl X n3) (g4 : Gl X n4) (m1 : X.mg n1 = some (.ref c1)) (m2 : X.mg n2 = some (.ref c2)) (m3 : X.mg n3 = some (.ref c3)) (m4 : X.mg n4 = some (.ref c4)) (gis : Gl X "isinstance") (mis : X.mg "isinstance" = none)
    (d1 : (n1 == ("__debug__" : Str)) = false) (d2 : (n2 == ("__debug__" : Str)) = false) (d3 : (n3 == ("__debug__" : Str)) = false) (d4 : (n4 == ("__debug__" : Str)) = false)
    (de : (e == ("__debug__" : Str)) = false) (ce : (e == ("__classdict__" : Str)) = false) (dk : (kn == ("__debug__" : Str)) = false) (ck : (kn == ("__classdict__" : Str)) = false) (l1 : (s2.endLine == s4.line) = true) (l2 : (t2.endLine == t4.line) = true) :
    PSs (X.suite a' ((a', oe) :: pn)) [.Assign [.Name kn p1] (.List [.Call (.Name "isinstance" q1) [.Name e q2, .Name n1 q3] [] r1, .Call (.Name "isinstance" q4) [.Name e q5, .Name n2 q6] [] r2, .Call (.Name "isinstance" q7) [.Name e q8, .Name n3 q9] [] r3, .Call (.Name "isinstance" q10) [.Name e q11, .Name n4 q12] [] r4] p2) p3,
      .Return (some (.IfExp (.Compare (.Call (.Attribute (.Name kn s1) "count" s2) [.Constant (.bool true) j5 s3] [] s4) [.Eq] [.Constant (.int 1) j6 s5] s6)
        (.Subscript (.List [.Constant (.str W1) j1 s7, .Constant (.str W2) j2 s8, .Constant (.str W3) j3 s9, .Constant (.str W4) j4 s10] s11) (.Call (.Attribute (.Name kn t1) "index" t2) [.Constant (.bool true) j7 t3] [] t4) s12) (.Constant (.str W0) j8 s13) s14)) p4]
      (fun D σ H => σ.length = X.N.length ∧ σ[1]? = some (some (.ref a')) ∧ ∀ H', (∀ b o, H b = some o → H' b = some o) → D.rt (.str W) H') := by
  have hl : ∀ {i : Nat} {y : Str}, X.N[i]? = some y → i < X.N.length := fun {i y} h => (List.getElem?_eq_some_iff.mp h).1
  have isE : ∀ (b : Bool) (ck : Addr) (nk : Str) (r1 r2 r3 r4 : Pos), PySem.W.kitOne X.K (.ref C) (.ref ck) = some b → Gl X nk → X.mg nk = some (.ref ck) → (nk == ("__debug__" : Str)) = false →
      PE (X.suite a' ((a', oe) :: pn)) (.Call (.Name "isinstance" r1) [.Name e r2, .Name nk r3] [] r4) (fun σ H Q => σ[1]? = some (some (.ref a')) ∧ Q (.bl b) H) := by
    intro b ck nk r1 r2 r3 r4 hk gk mk dk
    refine PE_imp (pe_callB (call_isE (X := X) tc.exc hz hf) gis mis PyProof.Rows.boot_isinstance (pa_cons (pe_var (i := 1) h1 (.inl hle) de ce) (pa_cons (pe_glob (v := .ref ck) gk mk rfl dk) pa_nil))) fun σ H Q h => ?_
    exact ⟨.ref a', h.1, ⟨.ref ck, .ref ck, b, rfl, fun u r => r, hk, h.2⟩⟩
  have tru : ∀ (j : Nat) (p : Pos), PE (X.suite a' ((a', oe) :: pn)) (.Constant (.bool true) j p) (tC (.bl true)) := fun j p => pe_bl
  have cnt : PE (X.suite a' ((a', oe) :: pn)) (.Call (.Attribute (.Name kn s1) "count" s2) [.Constant (.bool true) j5 s3] [] s4) _ := pe_bm PySem.F.plainAttrs_list PySem.F.slot_list_count PySem.F.type_list_count mt_lcountF (pe_var (i := 2) h2 (.inl hlk) dk ck) (pa_cons (tru j5 s3) pa_nil) (hline := l1)
  have idx : PE (X.suite a' ((a', oe) :: pn)) (.Call (.Attribute (.Name kn t1) "index" t2) [.Constant (.bool true) j7 t3] [] t4) _ := pe_bm PySem.F.plainAttrs_list PySem.F.slot_list_index PySem.F.type_list_index mt_index (pe_var (i := 2) h2 (.inl hlk) dk ck) (pa_cons (tru j7 t3) pa_nil) (hline := l2)
  have wd : PE (X.suite a' ((a', oe) :: pn)) (.List [.Constant (.str W1) j1 s7, .Constant (.str W2) j2 s8, .Constant (.str W3) j3 s9, .Constant (.str W4) j4 s10] s11) _ := pe_lst (pa_cons (pe_str (x := W1)) (pa_cons (pe_str (x := W2)) (pa_cons (pe_str (x := W3)) (pa_cons (pe_str (x := W4)) pa_nil))))
  have tst := pt_cmpR (pos := s6) op_eq cnt (pe_int (i := 1) (j := j6) (pos := s5)) (by rfl)
  have val := pe_ix (pos := s12) ix_list wd idx (by intro _ _; rfl)
  have ret := ps_ret (pos := p4) (pe_ifExp (pos := s14) tst val (pe_str (x := W0) (j := j8) (pos := s13)))
  have lst := pe_lst (pos := p2) (pa_cons (isE b1 c1 n1 q1 q2 q3 r1 tc.k1 g1 m1 d1) (pa_cons (isE b2 c2 n2 q4 q5 q6 r2 tc.k2 g2 m2 d2) (pa_cons (isE b3 c3 n3 q7 q8 q9 r3 tc.k3 g3 m3 d3) (pa_cons (isE b4 c4 n4 q10 q11 q12 r4 tc.k4 g4 m4 d4) pa_nil))))
  refine PSs_imp (pss_cons (ps_set (pos' := p1) (pos := p3) (i := 2) hN h2 (.inl hlk) lst (by rfl) (.inr hlk)) (pss_one ret)) fun D σ H h => ?_
  obtain ⟨hlen, hs, hq⟩ := h
  refine ⟨hs, hs, hs, hs, (show 4 ≤ sizeLine by decide), fun p hp => ?_⟩
  have e2 : (σ.set 2 (some (V.ref p)))[2]? = some (some (.ref p)) := List.getElem?_set_self (by rw [hlen]; exact hl h2)
  have eH : (upd H p (.lst [.bl b1, .bl b2, .bl b3, .bl b4])) p = some (.lst [.bl b1, .bl b2, .bl b3, .bl b4]) := upd_same
  have sq : SqL X.K (upd H p (.lst [.bl b1, .bl b2, .bl b3, .bl b4])) p [.bl b1, .bl b2, .bl b3, .bl b4] := .inl (.inl eH)
  refine ⟨.ref p, e2, .inl ⟨rfl, _, sq⟩, p, _, _, rfl, rfl, sq, rfl, rfl, ?_⟩
  unfold w4 at hw
  split at hw
  · cases hw
    refine ⟨rfl, true, rfl, ?_⟩
    dsimp only
    rw [if_pos rfl]
    refine ⟨(show 4 ≤ sizeLine by decide), fun p2 hp2 => ?_⟩
    have np : p ≠ p2 := ne_of_none eH hp2
    have sq2 : SqL X.K (upd (upd H p (.lst _)) p2 (.lst [V.str W1, V.str W2, V.str W3, V.str W4])) p _ := .inl (.inl (by rw [upd_ne np]; exact eH))
    refine ⟨.ref p, e2, .inl ⟨rfl, _, sq2⟩, p, _, _, 0, _, rfl, rfl, sq2, rfl, rfl, rfl, rfl, (fun m z' hm _ => absurd hm (Nat.not_lt_zero m)), ?_⟩
    refine ⟨p2, _, _, _, rfl, rfl, .inl (.inl upd_same), rfl, hq _ fun b o hb => ?_⟩
    rw [upd_ne (fun z => by rw [z] at hb; rw [upd_ne (ne_of_none hb hp)] at hp2; rw [hb] at hp2; cases hp2), upd_ne (ne_of_none hb hp)]; exact hb
  · cases hw
    refine ⟨rfl, true, rfl, ?_⟩
    dsimp only
    rw [if_pos rfl]
    refine ⟨(show 4 ≤ sizeLine by decide), fun p2 hp2 => ?_⟩
    have np : p ≠ p2 := ne_of_none eH hp2
    have sq2 : SqL X.K (upd (upd H p (.lst _)) p2 (.lst [V.str W1, V.str W2, V.str W3, V.str W4])) p _ := .inl (.inl (by rw [upd_ne np]; exact eH))
    refine ⟨.ref p, e2, .inl ⟨rfl, _, sq2⟩, p, _, _, 1, _, rfl, rfl, sq2, rfl, rfl, rfl, rfl, (fun m z' hm hz' => by
      match m, hm with
      | 0, _ => cases hz'; rfl), ?_⟩
    refine ⟨p2, _, _, _, rfl, rfl, .inl (.inl upd_same), rfl, hq _ fun b o hb => ?_⟩
    rw [upd_ne (fun z => by rw [z] at hb; rw [upd_ne (ne_of_none hb hp)] at hp2; rw [hb] at hp2; cases hp2), upd_ne (ne_of_none hb hp)]; exact hb
  · cases hw
    refine ⟨rfl, true, rfl, ?_⟩
    dsimp only
    rw [if_pos rfl]
    refine ⟨(show 4 ≤ sizeLine by decide), fun p2 hp2 => ?_⟩
    have np : p ≠ p2 := ne_of_none eH hp2
    have sq2 : SqL X.K (upd (upd H p (.lst _)) p2 (.lst [V.str W1, V.str W2, V.str W3, V.str W4])) p _ := .inl (.inl (by rw [upd_ne np]; exact eH))
    refine ⟨.ref p, e2, .inl ⟨rfl, _, sq2⟩, p, _, _, 2, _, rfl, rfl, sq2, rfl, rfl, rfl, rfl, (fun m z' hm hz' => by
      match m, hm with
      | 0, _ => cases hz'; rfl
      | 1, _ => cases hz'; rfl), ?_⟩
    refine ⟨p2, _, _, _, rfl, rfl, .inl (.inl upd_same), rfl, hq _ fun b o hb => ?_⟩
    rw [upd_ne (fun z => by rw [z] at hb; rw [upd_ne (ne_of_none hb hp)] at hp2; rw [hb] at hp2; cases hp2), upd_ne (ne_of_none hb hp)]; exact hb
  · cases hw
    refine ⟨rfl, true, rfl, ?_⟩
    dsimp only
    rw [if_pos rfl]
    refine ⟨(show 4 ≤ sizeLine by decide), fun p2 hp2 => ?_⟩
    have np : p ≠ p2 := ne_of_none eH hp2
    have sq2 : SqL X.K (upd (upd H p (.lst _)) p2 (.lst [V.str W1, V.str W2, V.str W3, V.str W4])) p _ := .inl (.inl (by rw [upd_ne np]; exact eH))
    refine ⟨.ref p, e2, .inl ⟨rfl, _, sq2⟩, p, _, _, 3, _, rfl, rfl, sq2, rfl, rfl, rfl, rfl, (fun m z' hm hz' => by
      match m, hm with
      | 0, _ => cases hz'; rfl
      | 1, _ => cases hz'; rfl
      | 2, _ => cases hz'; rfl), ?_⟩
    refine ⟨p2, _, _, _, rfl, rfl, .inl (.inl upd_same), rfl, hq _ fun b o hb => ?_⟩
    rw [upd_ne (fun z => by rw [z] at hb; rw [upd_ne (ne_of_none hb hp)] at hp2; rw [hb] at hp2; cases hp2), upd_ne (ne_of_none hb hp)]; exact hb
  · cases hw
end
end DL
set_option Elab.async false
set_option linter.all false
set_option maxRecDepth 100000
set_option maxHeartbeats 2000000
/-! HY: what the top leaves, looked at in one run: defs where they stand, data, tables, classes. -/
namespace HY
open PySem PySem.Spec PyProof.Rows L2 DL He

/-! ### data -/
mutual
def datB (K : PySem.W.Frag) : D → Value → Bool
  | .non, u => (match u with | .none => true | _ => false)
  | .bl b, u => (match u with | .bool c => b == c | _ => false)
  | .int i, u => (match u with | .int j _ => decide (j = i) | _ => false)
  | .str z, u => (match u with | .str y _ => decide (y = ST z) | _ => false)
  | .fn _ a, u => (match u with | .ref b => decide (b = a) | _ => false)
  | .tup ds, u => (match u with
    | .ref a => (match K.lookup a with
      | some ⟨.type c, none, .seq its n, _⟩ => decide (c = "tuple") && (Nat.ble its.size sizeLine && datsB K ds its.toList)
      | _ => false)
    | _ => false)
  | _, _ => false
def datsB (K : PySem.W.Frag) : List D → List Value → Bool
  | [], us => us.isEmpty
  | d :: ds, us => (match us with
    | u :: us => datB K d u && datsB K ds us
    | [] => false)
end
mutual
theorem datB_ok {K : PySem.W.Frag} : ∀ {d : D} {u : Value}, datB K d u = true → ∃ v, RelV v u ∧ WR K v d
  | .non, u, h => by
    unfold datB at h
    split at h
    · exact ⟨.non, rfl, wr_atom fun _ => .non⟩
    · cases h
  | .bl b, u, h => by
    unfold datB at h
    split at h
    · exact ⟨.bl b, by rw [eq_of_beq h]; rfl, wr_atom fun _ => .bl⟩
    · cases h
  | .int i, u, h => by
    unfold datB at h
    split at h
    · exact ⟨.int i, by rw [of_decide_eq_true h]; exact ⟨_, rfl⟩, wr_atom fun _ => .int⟩
    · cases h
  | .str z, u, h => by
    unfold datB at h
    split at h
    · exact ⟨.str (ST z), by rw [of_decide_eq_true h]; exact ⟨_, rfl⟩, wr_atom fun _ => .str⟩
    · cases h
  | .fn j a, u, h => by
    unfold datB at h
    split at h
    · exact ⟨.ref a, by rw [of_decide_eq_true h]; rfl, wr_atom fun _ => .fn⟩
    · cases h
  | .tup ds, u, h => by
    unfold datB at h
    split at h
    · split at h
      · rename_i a _ c its n sl hl
        obtain ⟨h1, h2⟩ := ba h
        obtain ⟨h3, h4⟩ := ba h2
        have e := of_decide_eq_true h1
        subst e
        obtain ⟨vs, r, w⟩ := datsB_ok h4
        exact ⟨.ref a, rfl, wr_tup hl (Nat.le_of_ble_eq_true h3) r w⟩
      · cases h
    · cases h
  | .ty _, _, h => by simp [datB] at h
  | .wt _, _, h => by simp [datB] at h
  | .lst _, _, h => by simp [datB] at h
  | .dS _, _, h => by simp [datB] at h
  | .dT _ _, _, h => by simp [datB] at h
  | .st _ _, _, h => by simp [datB] at h
  | .row, _, h => by simp [datB] at h
theorem datsB_ok {K : PySem.W.Frag} : ∀ {ds : List D} {us : List Value}, datsB K ds us = true → ∃ vs, Vals vs us ∧ WRs K vs ds
  | [], us, h => by
    unfold datsB at h
    cases us with
    | nil => exact ⟨[], .nil, .nil⟩
    | cons u us => cases h
  | d :: ds, us, h => by
    unfold datsB at h
    split at h
    · obtain ⟨h1, h2⟩ := ba h
      obtain ⟨v, r, w⟩ := datB_ok h1
      obtain ⟨vs, rs, ws⟩ := datsB_ok h2
      exact ⟨v :: vs, .cons r rs, .cons w ws⟩
    · cases h
end
section
variable {K : PySem.W.Frag} {h : Heap} {mg : Str → Option Value} {w : World}
def conB (K : PySem.W.Frag) (x : Str) (d : D) : Bool := match PySem.W.nsIn K mainGlobals x with
  | some (some u) => datB K d u
  | _ => false
theorem conB_ok (X : K.In h) (G : h.Ns mainGlobals mg) {x : Str} {d : D} (c : conB K x d = true) : ∃ u v, mg x = some u ∧ RelV v u ∧ WR K v d := by
  unfold conB at c
  split at c
  · rename_i u e
    obtain ⟨v, r, w⟩ := datB_ok c
    exact ⟨u, v, PySem.W.mg_of X G e, r, w⟩
  · cases c
theorem int_c (X : K.In h) (G : h.Ns mainGlobals mg) {x : Str} {i : Int} (c : (Fa.int x i).ok K = true) : ∃ u, mg x = some u ∧ RelV (.int i) u := by
  obtain ⟨t, e⟩ := int_ok X G c
  exact ⟨_, e, ⟨t, rfl⟩⟩
theorem str_c (X : K.In h) (G : h.Ns mainGlobals mg) {x z : Str} (c : (Fa.str x z).ok K = true) : ∃ u, mg x = some u ∧ RelV (.str z) u := by
  obtain ⟨t, e⟩ := str_ok X G c
  exact ⟨_, e, ⟨t, rfl⟩⟩
/-! ### tables -/
def tabVB (K : PySem.W.Frag) (a : Addr) (tb : List (List Nat × D)) : Bool := tb.all fun p => match PySem.W.nsIn K a (ST p.1) with
  | some (some u) => datB K p.2 u
  | _ => false
theorem ktab_ok {a : Addr} {tb : List (List Nat × D)} (hd : ∃ es n, KDict K w a es n) (c : tabVB K a tb = true) : KTab K w a tb := by
  obtain ⟨es, n, D⟩ := hd
  refine ktab_of fun p hp => ?_
  have c2 := List.all_eq_true.mp c p hp
  cases e : PySem.W.nsIn K a (ST p.1) with
  | none => rw [e] at c2; cases c2
  | some o =>
    cases o with
    | none => rw [e] at c2; cases c2
    | some u =>
      rw [e] at c2
      obtain ⟨v, r, wr⟩ := datB_ok c2
      exact ⟨v, ⟨es, n, u, D.at_, D.lit, e, r⟩, wr⟩
theorem keysAre_of {P : Params} : ∀ {l : List DictEntry} {ks : List (List Nat)}, l.map He.keyOf = He.keysIn P (ks.map DL.ST) → KeysAre l ks
  | [], [], _ => .nil
  | [], k :: ks, h => by cases h
  | e :: r, [], h => by cases h
  | e :: r, k :: ks, h => by
    have h1 : He.keyOf e :: r.map He.keyOf = some (DL.ST k, PyData.keyHash P (DL.ST k)) :: He.keysIn P (ks.map DL.ST) := h
    injection h1 with h2 h3
    refine .cons ?_ (keysAre_of h3)
    unfold He.keyOf at h2
    split at h2
    · rename_i x t q
      have h4 := Option.some.inj h2
      obtain ⟨h5, h6⟩ := Prod.mk.inj h4
      exact ⟨t, by rw [q, h5]⟩
    · cases h2
theorem kkeys_ok {a : Addr} {ks : List (List Nat)} (h : dicW K a = some (He.keysIn w.params (ks.map DL.ST))) : KKeys K w a ks := by
  obtain ⟨es, n, D⟩ := dicW_ok h
  have hl := D.at_
  unfold dicW at h
  rw [hl] at h
  have h2 : (match decide ("dict" = "dict") && ((#[] : Array (Option Value)).isEmpty && !(a == sysModules)) with
    | true => some (es.toList.map He.keyOf)
    | false => none) = some (He.keysIn w.params (ks.map DL.ST)) := h
  split at h2
  · exact kkeys_of hl D.lit D.low (keysAre_of (Option.some.inj h2))
  · cases h2
/-! ### classes of errors -/
theorem xcls_ok (X : K.In h) (G : h.Ns mainGlobals mg) {c : Str} (e : (Fa.exc c).ok K = true) (g : (Fa.glo c).ok K = true) : XCls K mg c (ga K c) := by
  obtain ⟨h1, h2, h3, h4⟩ := exc_ok e
  exact ⟨⟨_, _, _, _, PySem.F.excBase_ValueError, h1⟩, glo_ok X G g, h2, h3, h4⟩
def excCB (K : PySem.W.Frag) (c : Str) : Bool := eqO (PySem.W.findIn K (.ref (ga K c)) "__getattribute__") (some (some (.builtin "BaseException.__getattribute__"))) && (eqO (PySem.W.findIn K (.ref (ga K c)) "__getattr__") (some none) && (decide (PySem.W.subIn K (.ref (ga K c)) (.type "BaseException") = some true) &&
  (PySem.W.hasDictIn K (ga K c) && (eqO (PySem.W.findIn K (.ref (ga K c)) "__class__") (some (some (.builtin "object.__class__"))) && (eqO (PySem.W.specialIn K (.builtin "object.__class__") "__get__") (some (some (.builtin "getset_descriptor.__get__"))) && (decide (PySem.W.takesIn K (.builtin "object.__class__") = some true) && decide (PySem.W.mroIn K (ga K c) (.type "object") = some true)))))))
theorem excC_ok {c : Str} (e : excCB K c = true) : ExcC K (ga K c) := by
  obtain ⟨h1, e⟩ := ba e
  obtain ⟨h2, e⟩ := ba e
  obtain ⟨h3, e⟩ := ba e
  obtain ⟨h4, e⟩ := ba e
  obtain ⟨h5, e⟩ := ba e
  obtain ⟨h6, e⟩ := ba e
  obtain ⟨h7, h8⟩ := ba e
  exact ⟨eqO_ok h1, eqO_ok h2, of_decide_eq_true h3, h4, eqO_ok h5, eqO_ok h6, of_decide_eq_true h7, of_decide_eq_true h8⟩
def kitB1 (K : PySem.W.Frag) (c d : Str) (b : Bool) : Bool := decide (PySem.W.kitOne K (.ref (ga K c)) (.ref (ga K d)) = some b)
theorem kit_ok {c d : Str} {b : Bool} (e : kitB1 K c d b = true) : PySem.W.kitOne K (.ref (ga K c)) (.ref (ga K d)) = some b := of_decide_eq_true e
def gloB (K : PySem.W.Frag) (x : Str) (u : Value) : Bool := eqO (PySem.W.nsIn K mainGlobals x) (some (some u))
theorem gloB_ok (X : K.In h) (G : h.Ns mainGlobals mg) {x : Str} {u : Value} (c : gloB K x u = true) : mg x = some u := PySem.W.mg_of X G (eqO_ok c)
/-! ### properties -/
def pgA (C f : Str) (K : PySem.W.Frag) : Addr := match PySem.W.recIn K (ma K (ga K C) f) "property" with
  | some (.ref g :: _) => g
  | _ => 0
def propB (K : PySem.W.Frag) (C f : Str) : Bool := eqO (PySem.W.findIn K (.ref (ga K C)) f) (some (some (.ref (ma K (ga K C) f)))) && (eqO (PySem.W.specialIn K (.ref (ma K (ga K C) f)) "__get__") (some (some (.builtin "property.__get__"))) && (decide (PySem.W.takesIn K (.ref (ma K (ga K C) f)) = some true) &&
  (match PySem.W.recIn K (ma K (ga K C) f) "property" with
  | some (.ref _ :: _) => true
  | _ => false)))
theorem prop_ok {C f : Str} (c : propB K C f = true) : PropOf K (ga K C) f (ma K (ga K C) f) (pgA C f K) := by
  obtain ⟨h1, c⟩ := ba c
  obtain ⟨h2, c⟩ := ba c
  obtain ⟨h3, h4⟩ := ba c
  refine ⟨eqO_ok h1, eqO_ok h2, of_decide_eq_true h3, ?_⟩
  unfold pgA
  split at h4
  · rename_i g rest e
    exact ⟨rest, by rw [e]⟩
  · cases h4
/-! ### functions -/
/-- a def: where it stands, its name, its qualified name, its statement -/
structure FnA where
  at_ : PySem.W.Frag → Addr
  name : Str
  qual : Str
  st : Stmt
def fnObsA (K : PySem.W.Frag) (a : Addr) : FnV := match K.lookup a with
  | some ⟨_, _, .func fd, _⟩ => some (fd.name, fd.qualname, fd.params, fd.body, fd.scope, fd.globals, fd.closure, fd.defaults, fd.builtins)
  | _ => none
def FnA.val (d : FnA) : FnV := some (d.name, d.qual, defArgs d.st, .stmts (defBody d.st), defScope d.st, mainGlobals, [], .none, builtinsNs)
def FnA.ok (K : PySem.W.Frag) (d : FnA) : Bool := PySem.W.keepIn K (.ref (d.at_ K)) && (match K.lookup (d.at_ K) with
  | some ⟨_, _, .func fd, _⟩ => PySem.W.codeIn K fd.code d.qual
  | _ => false)
theorem FnA.fun_ {d : FnA} (e : fnObsA K (d.at_ K) = d.val) (c : d.ok K = true) : ∃ fd, Fun K d.name d.qual d.st (d.at_ K) fd := by
  obtain ⟨kp, c2⟩ := ba c
  unfold fnObsA at e
  cases q : K.lookup (d.at_ K) with
  | none => rw [q] at c2; cases c2
  | some o =>
    obtain ⟨oc, od, dt, osl⟩ := o
    rw [q] at c2 e
    cases dt with
    | func fd =>
      obtain ⟨n1, n2, n3, n4, n5, n6, n7, n8, n9, n10, n11, n12, n13, n14, n15⟩ := fd
      have e2 : (some (n1, n2, n3, n4, n5, n6, n7, n8, n15) : FnV) = some (d.name, d.qual, defArgs d.st, .stmts (defBody d.st), defScope d.st, mainGlobals, [], .none, builtinsNs) := e
      simp only [Option.some.injEq, Prod.mk.injEq] at e2
      obtain ⟨h1, h2, h3, h4, h5, h6, h7, h8, h9⟩ := e2
      subst h1 h2 h3 h4 h5 h6 h7 h8 h9
      exact ⟨_, ⟨oc, od, n9, n10, n11, n12, n13, n14, osl, rfl, q, c2⟩, kp⟩
    | _ => cases c2
theorem bindsA {x qual n1 : Str} {st : Stmt} {f : Addr} {fd : FuncData} (F : Fun K x qual st f fd)
    (b : ∀ (kV doc pm : Value) (an : Option Addr) (cdv ct : Value) (us : List Value), us.length = ([n1] : List Str).length → bindArgs (PySem.W.fnOf x qual (defArgs st) (defBody st) (defScope st) .none kV doc pm an cdv ct) ⟨us, []⟩ = pure (([n1] : List Str).zip us)) (s : Shared) (v : Value) : BindsTo s fd ⟨[v], []⟩ [(n1, v)] := by
  obtain ⟨oc, od, kV, doc, pm, an, cdv, ct, osl, rfl, lk, hcd⟩ := F.ex
  exact .of_eq (b kV doc pm an cdv ct [v] rfl)
theorem code_ok {x qual : Str} {st : Stmt} {fd : FuncData} {p : Defn} (F : Fun K x qual st (fAd K p) fd) : fd.code = .ref (codeOf K p) := by
  obtain ⟨oc, od, kV, doc, pm, an, cdv, ct, osl, rfl, lk, hcd⟩ := F.ex
  obtain ⟨c, rfl⟩ := codeIn_ref hcd
  rw [codeOf_eq lk rfl]
/-! ### the Hook -/
structure Lk where
  fa : List Fa
  ts : List Tab
  tf : List Defn
  ex : List (PySem.W.Frag → Bool)
  fs : List FnA
abbrev AlY : Type := List (Option (List (Option (Str × Int)))) × List FnV × Bool
/-- the tables of the defs that make code objects: there, empty -/
def tabB (g : Addr → Option Obj) (K : PySem.W.Frag) (p : Defn) : Bool := PySem.W.codeHdIn K (cT K p).1 (cT K p).2 && (match g (cT K p).2 with
  | some o => emptyTab o
  | none => false)
def obsK (L : Lk) (g : Addr → Option Obj) (K : PySem.W.Frag) : AlY := (L.ts.map fun t => dicW K (t.1 K), L.fs.map fun d => fnObsA K (d.at_ K), (L.fa.all fun f => f.ok K) && ((L.fs.all fun d => d.ok K) && ((L.ex.all fun b => b K) && L.tf.all fun p => tabB g K p)))
def obsY (as : List Addr) (L : Lk) (g : Addr → Option Obj) : AlY := obsK L g (frT g as)
def valY (L : Lk) (w : World) : AlY := (L.ts.map fun t => some (He.keysIn w.params t.2), L.fs.map FnA.val, true)
structure Says (L : Lk) (w : World) (h : Heap) (K : PySem.W.Frag) : Prop where
  t : (L.ts.map fun t => dicW K (t.1 K)) = L.ts.map fun t => some (He.keysIn w.params t.2)
  f : (L.fs.map fun d => fnObsA K (d.at_ K)) = L.fs.map FnA.val
  a : (L.fa.all fun f => f.ok K) = true
  o : (L.fs.all fun d => d.ok K) = true
  e : (L.ex.all fun b => b K) = true
  hd : ∀ p ∈ L.tf, PySem.W.codeHdIn K (cT K p).1 (cT K p).2 = true
  out : ∀ p ∈ L.tf, K.lookup (cT K p).2 = none
  empty : ∀ p ∈ L.tf, h.get? (cT K p).2 = some { cls := .none, data := .fields #[] }
theorem says_of {as : List Addr} {L : Lk} {w : World} {h : Heap} (q : obsY as L h.get? = valY L w) : Says L w h (frT h.get? as) := by
  have q3 := congrArg (fun z : AlY => z.2.2) q
  have q3 : ((L.fa.all fun f => f.ok (frT h.get? as)) && ((L.fs.all fun d => d.ok (frT h.get? as)) && ((L.ex.all fun b => b (frT h.get? as)) && L.tf.all fun p => tabB h.get? (frT h.get? as) p))) = true := q3
  obtain ⟨h1, q3⟩ := ba q3
  obtain ⟨h2, q3⟩ := ba q3
  obtain ⟨h3, h4⟩ := ba q3
  have key : ∀ p ∈ L.tf, PySem.W.codeHdIn (frT h.get? as) (cT (frT h.get? as) p).1 (cT (frT h.get? as) p).2 = true ∧ ∃ o, h.get? (cT (frT h.get? as) p).2 = some o ∧ emptyTab o = true := fun p hp => by
    obtain ⟨h5, h6⟩ := ba (List.all_eq_true.mp h4 p hp)
    refine ⟨h5, ?_⟩
    cases q : h.get? (cT (frT h.get? as) p).2 with
    | none => rw [q] at h6; cases h6
    | some o => rw [q] at h6; exact ⟨o, rfl, h6⟩
  exact ⟨congrArg (fun z : AlY => z.1) q, congrArg (fun z : AlY => z.2.1) q, h1, h2, h3, fun p hp => (key p hp).1, fun p hp => by
    obtain ⟨_, o, q, z⟩ := key p hp
    exact frT_none q z, fun p hp => by
    obtain ⟨_, o, q, z⟩ := key p hp
    rw [q, emptyTab_eq z]⟩
def hookY (as : List Addr) (L : Lk) : PySem.W.Hook where
  α := AlY
  obs := fun s => obsY as L s.heap.get?
  val := fun w => valY L w
  says := fun w h => ∃ K : PySem.W.Frag, K.In h ∧ Says L w h K
  of := fun _ _ e => ⟨_, frT_in, says_of e⟩
  keeps := fun _ _ _ ⟨K, hK, c⟩ k => ⟨K, PySem.W.Frag.In.keeps hK k, ⟨c.t, c.f, c.a, c.o, c.e, c.hd, c.out, fun p hp => k _ _ (c.empty p hp)⟩⟩
theorem obsY_eq {as : List Addr} {L : Lk} {g : Addr → Option Obj} {s : Shared} (h : ∀ a, g a = s.heap.get? a) : obsY as L g = (hookY as L).obs s := by
  have e : g = s.heap.get? := funext h
  rw [e] <;> rfl
variable {L : Lk}
theorem Says.fa (c : Says L w h K) (i : Nat) {f : Fa} (e : L.fa[i]? = some f := by rfl) : f.ok K = true := List.all_eq_true.mp c.a f (List.mem_of_getElem? e)
theorem Says.ex (c : Says L w h K) (i : Nat) {b : PySem.W.Frag → Bool} (e : L.ex[i]? = some b := by rfl) : b K = true :=
  List.all_eq_true.mp c.e b (List.mem_of_getElem? e)
theorem Says.fn (c : Says L w h K) (i : Nat) {d : FnA} (e : L.fs[i]? = some d := by rfl) : ∃ fd, Fun K d.name d.qual d.st (d.at_ K) fd := by
  have c3 : (L.fs.map fun d => fnObsA K (d.at_ K))[i]? = (L.fs.map FnA.val)[i]? := by rw [c.f]
  rw [List.getElem?_map, List.getElem?_map, e] at c3
  exact FnA.fun_ (Option.some.inj c3) (List.all_eq_true.mp c.o d (List.mem_of_getElem? e))
theorem Says.dic (c : Says L w h K) (i : Nat) {t : Tab} (e : L.ts[i]? = some t) : dicW K (t.1 K) = some (He.keysIn w.params t.2) := by
  have c2 : (L.ts.map fun t => dicW K (t.1 K))[i]? = (L.ts.map fun t => some (He.keysIn w.params t.2))[i]? := by rw [c.t]
  rw [List.getElem?_map, List.getElem?_map, e] at c2
  exact Option.some.inj c2
theorem Says.tab (c : Says L w h K) (i : Nat) {t : Tab} (e : L.ts[i]? = some t := by rfl) : ∃ es n, KDict K w (t.1 K) es n := dicW_ok (c.dic i e)
theorem Says.keys (c : Says L w h K) (i : Nat) {a : PySem.W.Frag → Addr} {ks : List (List Nat)} (e : L.ts[i]? = some (a, ks.map DL.ST) := by rfl) : KKeys K w (a K) ks := kkeys_ok (c.dic i e)
/-- the tables of the defs that make code objects -/
theorem Says.tabs (c : Says L w h K) : (∀ p ∈ L.tf.map (cT K), h.get? p.2 = some { cls := .none, data := .fields #[] }) ∧ (∀ p ∈ L.tf.map (cT K), K.lookup p.2 = none) ∧ (∀ (X : K.In h), ∀ p ∈ L.tf.map (cT K), PySem.W.CodeHd h p.1 p.2) := by
  refine ⟨fun p hp => ?_, fun p hp => ?_, fun X p hp => ?_⟩
  · obtain ⟨q, hq, rfl⟩ := List.mem_map.mp hp
    exact c.empty q hq
  · obtain ⟨q, hq, rfl⟩ := List.mem_map.mp hp
    exact c.out q hq
  · obtain ⟨q, hq, rfl⟩ := List.mem_map.mp hp
    exact PySem.W.codeHd_of_K X (c.hd q hq)
end
end HY
set_option Elab.async false
set_option linter.all false
set_option maxRecDepth 100000
set_option maxHeartbeats 2000000
/-! TK2: the def that tells the word of an error by a list of answers. -/
namespace DL
open PySem PySem.Spec PyProof.Rows L2 LamX

/-- what such a def does with the lambda: the words come with lists made on the way -/
def TTell2 (mg : Str → Option Value) (W : Str → Option (List Nat)) : (XK → Hp → VK → Prop) → Hp → VK → Prop := fun tl H Q =>
  tl (fun cls d H' => d = none ∧ ∃ x c w, mg x = some (.ref c) ∧ cls = .ref c ∧ W x = some w ∧ ∀ H'', (∀ b o, H' b = some o → H'' b = some o) → Q (.str (ST w)) H'') H fun _ H' => Q (.str (ST [])) H'
section
variable {X : L2.Cx}
theorem told_gives4 {Ng : List Str} {x a e kn cV n1 n2 n3 n4 q W1 W2 W3 W4 W0 : Str} {sg : Scope} {g CV c1 c2 c3 c4 : Addr} {cdg : Value} {j1 j2 j3 j4 j5 j6 j7 j8 j9 : Nat}
    {u1 u2 u3 u4 u6 u7 u8 u9 p1 p2 p3 p4 q1 q2 q3 q4 q5 q6 q7 q8 q9 q10 q11 q12 r1 r2 r3 r4 s1 s2 s3 s4 s5 s6 s7 s8 s9 s10 s11 s12 s13 s14 t1 t2 t3 t4 : Pos} {W : Str → Option (List Nat)}
    (hN : Ng = [a, e, kn]) (nd : Ng.Nodup) (hle : sg.names.lookup e = some .local) (hlk : sg.names.lookup kn = some .local)
    (hgV : sg.names.lookup cV = some .globalImplicit) (g1 : sg.names.lookup n1 = some .globalImplicit) (g2 : sg.names.lookup n2 = some .globalImplicit) (g3 : sg.names.lookup n3 = some .globalImplicit) (g4 : sg.names.lookup n4 = some .globalImplicit) (hgis : sg.names.lookup ("isinstance" : Str) = some .globalImplicit)
    (mV : X.mg cV = some (.ref CV)) (m1 : X.mg n1 = some (.ref c1)) (m2 : X.mg n2 = some (.ref c2)) (m3 : X.mg n3 = some (.ref c3)) (m4 : X.mg n4 = some (.ref c4)) (mis : X.mg "isinstance" = none)
    (dV : (cV == ("__debug__" : Str)) = false) (d1 : (n1 == ("__debug__" : Str)) = false) (d2 : (n2 == ("__debug__" : Str)) = false) (d3 : (n3 == ("__debug__" : Str)) = false) (d4 : (n4 == ("__debug__" : Str)) = false)
    (de : (e == ("__debug__" : Str)) = false) (ce : (e == ("__classdict__" : Str)) = false) (dk : (kn == ("__debug__" : Str)) = false) (ck : (kn == ("__classdict__" : Str)) = false)
    (l1 : (s2.endLine == s4.line) = true) (l2 : (t2.endLine == t4.line) = true)
    (hW : ∀ y c w, W y = some w → X.mg y = some (.ref c) → ∃ b1 b2 b3 b4, TC4 X.K c1 c2 c3 c4 c b1 b2 b3 b4 ∧ PySem.W.exmOne X.K (.ref c) (.ref CV) = some true ∧ w4 b1 b2 b3 b4 W1 W2 W3 W4 = some (ST w)) :
    GivesTo X Ng x sg g cdg [.Try [.Expr (.Call (.Name a u1) [] [] u2) u3] [.ExceptHandler (some (.Name cV u4)) (some e) [
      .Assign [.Name kn p1] (.List [.Call (.Name "isinstance" q1) [.Name e q2, .Name n1 q3] [] r1, .Call (.Name "isinstance" q4) [.Name e q5, .Name n2 q6] [] r2, .Call (.Name "isinstance" q7) [.Name e q8, .Name n3 q9] [] r3, .Call (.Name "isinstance" q10) [.Name e q11, .Name n4 q12] [] r4] p2) p3,
      .Return (some (.IfExp (.Compare (.Call (.Attribute (.Name kn s1) "count" s2) [.Constant (.bool true) j5 s3] [] s4) [.Eq] [.Constant (.int 1) j6 s5] s6)
        (.Subscript (.List [.Constant (.str W1) j1 s7, .Constant (.str W2) j2 s8, .Constant (.str W3) j3 s9, .Constant (.str W4) j4 s10] s11) (.Call (.Attribute (.Name kn t1) "index" t2) [.Constant (.bool true) j7 t3] [] t4) s12) (.Constant (.str W0) j8 s13) s14)) p4] u6] [] [] u7, .Return (some (.Constant (.str (ST [])) j9 u8)) u9] a q (TTell2 X.mg W) := by
  intro f c' s H Q tl act hc h
  subst hN
  refine ⟨_, pss_cons (ps_try_as (X := (cxOf C8.CX0 X.prog X.w X.K X.mg X.base [a, e, kn] x sg g cdg X.A X.stack s H C8.E0).nox) (c := .ref CV) (i := 1) (Wout := fun _ _ _ _ => False)
      (tb := fun W D σ H => ∃ Ech : XK, (∀ cls d σ' H', Ech cls d H' → W cls d σ' H') ∧ σ[0]? = some (some (.ref f)) ∧ H c' = some (CodeO c' q) ∧ tl Ech H fun _ H' => D.nx σ H')
      (ts := fun a' cls d D σ H => σ.length = 3 → ∃ C b1 b2 b3 b4 w, cls = .ref C ∧ d = none ∧ TC4 X.K c1 c2 c3 c4 C b1 b2 b3 b4 ∧ w4 b1 b2 b3 b4 W1 W2 W3 W4 = some (ST w) ∧ σ[1]? = some (some (.ref a')) ∧ ∀ H', (∀ b o, H b = some o → H' b = some o) → D.rt (.str (ST w)) H')
      rfl rfl nd rfl ?_ ⟨hgV, dV, .inl mV⟩ takes0 (fun W pn xe tk _ => ?_) (fun a' oe cls d pn hz hf => ?_)) (pss_one (ps_ret pe_str)), ?_⟩
  · exact hle
  · refine ⟨fun pins s' σ H' D I h' => ?_⟩
    obtain ⟨Ech, hW', h1, h2, h3⟩ := h'
    have hp := act W pn xe Ech u1 u2 tk hW'
    exact (pss_one (ps_expr (pos := u3) hp rfl)).run pins s' σ H' D I ⟨h1, h2, h3⟩
  · refine ⟨fun pins s' σ H' D I h' => ?_⟩
    obtain ⟨C, b1, b2, b3, b4, w, rfl, rfl, tc, hw, hs, hq⟩ := h' I.len
    exact (known_suite (X := (cxOf C8.CX0 X.prog X.w X.K X.mg X.base [a, e, kn] x sg g cdg X.A X.stack s H C8.E0).nox) tc hw hz hf nd rfl rfl hle hlk g1 g2 g3 g4 m1 m2 m3 m4 hgis mis d1 d2 d3 d4 de ce dk ck l1 l2).run pins s' σ H' D I ⟨I.len, hs, hq⟩
  · refine ⟨fun cls d H' => d = none ∧ ∃ x c w, X.mg x = some (.ref c) ∧ cls = .ref c ∧ W x = some w ∧ ∀ H'', (∀ b o, H' b = some o → H'' b = some o) → Q (.str (ST w)) H'', fun cls d σ' H' ⟨ed, y, c, w, m1, ec, e3, e4⟩ => ?_, rfl, hc, h⟩
    obtain ⟨b1, b2, b3, b4, tc, hx, ew⟩ := hW y c w e3 m1
    subst ec ed
    exact ⟨true, hx, fun _ a' ha hl => ⟨c, b1, b2, b3, b4, w, rfl, rfl, tc, ew, by rw [List.length_set] at hl; exact List.getElem?_set_self (by omega), e4⟩, fun z => by cases z⟩
end

/-! ### told -/
theorem Ext.growA {R : Addr} {H H' : Hp} (h : ∀ b o, H b = some o → H' b = some o) : Ext R H H' where
  keep := fun a o e _ _ => h a o e
  dom := fun a q => by
    cases e : H a with
    | none => exact absurd e q
    | some o => rw [h a o e]; exact fun z => by cases z
  row := fun x xs e => ⟨xs, h _ _ e⟩
theorem Wo.growA {K : PySem.W.Frag} {T : Tb} {g : G} {H H' : Hp} {z : S} (w : Wo K T g H z) (h : ∀ b o, H b = some o → H' b = some o) : Wo K T g H' z := by
  obtain ⟨⟨SA, h1, h2, h3⟩, ht, hb, hd, hk, hl, hi, hz⟩ := w
  refine ⟨⟨SA, h1, ?_, h _ _ h3⟩, fun P hP => ?_, hb, fun a ha => ?_, hk, tabs_keep hl (fun q _ ps e => h _ _ e) fun c φ e => h _ _ e, hi, fun a fs e => (hz a fs e).mono ((Ext.growA h).rd hb) fun C dx fv q => h _ _ q⟩
  · rcases h2 with (q | ⟨ob, q⟩) | q
    · exact .inl (.inl (h _ _ q))
    · exact .inl (.inr ⟨ob, h _ _ q⟩)
    · exact .inr q
  · obtain ⟨ps, q, r⟩ := ht P hP
    exact ⟨ps, h _ _ q, r⟩
  · have := hd a ha
    cases e : H a with
    | none => exact absurd e this
    | some o => rw [h a o e]; exact fun z => by cases z
section
variable {X : L2.Cx} {T : Tb} {E : XK}
theorem pu_toldA {W : Str → Option (List Nat)} {f : EnD → M D} {x a : Str} {g c P : Addr} {k : Nat} {pg : Arguments} {bg : List Stmt} {sg : Scope} {dV kV doc pm cdv ct oc : Value} {an od : Option Addr} {osl : Array (Option Value)} {Ng : List Str}
    {params : Arguments} {body : Expr} {scope : Scope} {bs : List Str} {p lpos pos : Pos} (hg : Gl X x) (hm : X.mg x = some (.ref g)) (hk : PySem.W.keepIn X.K (.ref g) = true)
    (lk : X.K.lookup g = some ⟨oc, od, .func (PySem.W.fnOf x x pg bg sg dV kV doc pm an cdv ct), osl⟩) (hcg : PySem.W.codeIn X.K cdv x = true) (hb : L2.Binds X.K (PySem.W.fnOf x x pg bg sg dV kV doc pm an cdv ct) [a] []) (Sg : FnScope Ng [a] sg) (hNg : Ng[0]? = some a) (hva : Vis sg a)
    (hG : GivesTo X Ng x sg g cdv bg a (X.env.qual ++ "<lambda>") (TTell2 X.mg W))
    (TB : TabB X.base X.mg c P) (hcode : X.env.code = .ref c) (hmT : (P, X.env.qual ++ "<lambda>") ∈ T.ls) (hu : ∀ p ∈ T.ls, p.1 = P → p.2 = X.env.qual ++ "<lambda>") (hr : Room (k + 2) X.A) (L : LamD X.N X.env.scope scope bs) (DK : DefK X params body scope bs)
    (hbody : ∀ (A : Around) (outer : List Env) (s : Shared) (H : Hp) (E : XK) (f' c' : Addr), Room k (A.deeper (lamEnv X scope s.heap.objs.size f' c')) → PE (lamCx X A outer s H E scope f' c') body (tD (yx X T E) f))
    (hdb : (x == ("__debug__" : Str)) = false := by decide) (hd : (a == ("__debug__" : Str)) = false := by decide) (hcd : (a == ("__classdict__" : Str)) = false := by decide) :
    PE X (.Call (.Name x p) [.Lambda params body scope lpos] [] pos) (tD (yx X T E) (eTold W f)) :=
  PE_imp (pe_lamcall3 (t := fun E => tD (yx X T E) f) hg hm hk lk hcg hb Sg hNg hva hG TB hcode hmT hu hr L DK hbody hdb hd hcd) fun σ H Q h => by
    obtain ⟨g, ρ, z, st, a⟩ := h
    refine ⟨st.wo.lam, fun H1 e1 e2 T1 => ?_⟩
    unfold eTold at a
    cases no : noOwn ρ with
    | false => rw [no] at a; exact a.elim
    | true =>
    rw [no] at a
    simp only [if_true] at a
    obtain ⟨ps, hP, _⟩ := st.wo.lam _ hmT
    have hRP : g.R ≠ P := fun c => by
      obtain ⟨SA, _, _, s3⟩ := st.wo.row
      have s3 : H g.R = _ := s3
      have c : g.R = P := c
      rw [c, hP] at s3
      cases s3
    have ex : Ext g.R H H1 := ⟨fun b o q _ nt => e1 b o (fun c => nt.ne ps (Option.some.inj (by rw [← q, c]; exact hP))) q, fun b q => by
      by_cases c : b = P
      · obtain ⟨ps, e2⟩ := e2
        rw [c, e2]
        exact fun z => by cases z
      · cases e : H b with
        | none => exact absurd e q
        | some o => rw [e1 b o c e]; exact (fun z => by cases z), fun x xs q => ⟨xs, e1 g.R (HO.lst (x :: xs)) hRP q⟩⟩
    have wo1 : Wo X.K T (gb g σ ρ) H1 z := by
      obtain ⟨⟨SA, s1, s2, s3⟩, ht, hb, hd, hk, hl, hi, hz⟩ := st.wo
      refine ⟨⟨SA, s1, (ex.rd st.badR).sqL s1 s2, e1 _ _ (fun c => ?_) s3⟩, fun P' hP' => ?_, hb, fun b q => ex.dom b (hd b q), hk, T1, hi, fun a fs e => (hz a fs e).mono (ex.rd st.badR) fun C dx fv q => e1 _ _ (fun c => by rw [c, hP] at q; cases q) q⟩
      · have s3 : H g.R = _ := s3
        have c : g.R = P := c
        rw [c, hP] at s3
        cases s3
      · obtain ⟨ps', q, r⟩ := ht P' hP'
        exact ⟨ps', e1 _ _ (fun c => hi _ hmT (by rw [← c]; exact hP')) q, r⟩
    have st1 : StR (yx X T E) g H1 σ ρ z := st.step ex wo1
    have nb : ∀ b, bad g σ ρ b ↔ g.B b := fun b => ⟨fun q => q.elim id fun ⟨i, d, q, _⟩ => absurd q (noOwn_at no i d), .inl⟩
    have st2 : ∀ E', StR (yx X T E') ⟨g.R, g.B, H1⟩ H1 σ ρ z := fun E' => ⟨st1.wo.less (fun _ q => q) st1.badR, st1.gR, st1.len, st1.val, fun i d q => absurd q (noOwn_at no i d), fun i j d e b q => absurd q (noOwn_at no i d), .refl⟩
    refine ⟨⟨g.R, g.B, H1⟩, ρ, z, st2 _, ?_⟩
    cases e : f ρ z with
    | ok d z' =>
      rw [e] at a
      exact fun v H' s' e' r' => a (.str (ST [])) H' (st1.step e' (s'.wo.less (fun _ q => q) s'.badR)) (ex.trans e') (.atom .str .nil)
    | exc xx z' =>
      rw [e] at a
      obtain ⟨x, idx⟩ := xx
      cases idx with
      | some i => exact a.elim
      | none =>
        intro H' C d w' e' xr
        obtain ⟨c, h1, h2, h3⟩ := xr
        cases hW : W x with
        | none => simp only [hW] at a; exact a.elim
        | some w =>
          simp only [hW] at a
          refine ⟨h3, x, c, w, h1, h2, hW, fun H'' gr => ?_⟩
          have e2 : Ext g.R H1 H'' := e'.trans (Ext.growA gr)
          exact a _ H'' (st1.step e2 ((w'.growA gr).less (fun b q => (nb b).mp q) (.inl st.gR))) (ex.trans e2) (.atom .str .nil)
    | bad => rw [e] at a; exact a
theorem pu_told3 {W : Str → Option (List Nat)} {f : EnD → M D} {x a : Str} {g c P : Addr} {k : Nat} {st : Stmt} {fd : FuncData} {Ng : List Str}
    {params : Arguments} {body : Expr} {scope : Scope} {bs : List Str} {p lpos pos : Pos} (hg : Gl X x) (hm : X.mg x = some (.ref g)) (F : Fun X.K x x st g fd) (hb : L2.Binds X.K fd [a] []) (Sg : FnScope Ng [a] (defScope st)) (hNg : Ng[0]? = some a) (hva : Vis (defScope st) a)
    (hG : ∀ cdv, GivesTo X Ng x (defScope st) g cdv (defBody st) a (X.env.qual ++ "<lambda>") (TTell2 X.mg W))
    (TB : TabB X.base X.mg c P) (hcode : X.env.code = .ref c) (hmT : (P, X.env.qual ++ "<lambda>") ∈ T.ls) (hu : ∀ p ∈ T.ls, p.1 = P → p.2 = X.env.qual ++ "<lambda>") (hr : Room (k + 2) X.A) (L : LamD X.N X.env.scope scope bs) (DK : DefK X params body scope bs)
    (hbody : ∀ (A : Around) (outer : List Env) (s : Shared) (H : Hp) (E : XK) (f' c' : Addr), Room k (A.deeper (lamEnv X scope s.heap.objs.size f' c')) → PE (lamCx X A outer s H E scope f' c') body (tD (yx X T E) f))
    (hdb : (x == ("__debug__" : Str)) = false := by decide) (hd : (a == ("__debug__" : Str)) = false := by decide) (hcd : (a == ("__classdict__" : Str)) = false := by decide) :
    PE X (.Call (.Name x p) [.Lambda params body scope lpos] [] pos) (tD (yx X T E) (eTold W f)) := by
  obtain ⟨oc, od, kV, doc, pm, an, cdv, ct, osl, rfl, lk, hcd'⟩ := F.ex
  exact pu_toldA hg hm F.kp lk hcd' hb Sg hNg hva (hG cdv) TB hcode hmT hu hr L DK hbody hdb hd hcd
end
end DL
set_option Elab.async false
set_option linter.all false
set_option maxRecDepth 100000
set_option maxHeartbeats 2000000
/-! DK1: the desk: its fields read and written, its methods, its properties, its making. -/
namespace DL
open PySem PySem.Spec PyProof.Rows L2

abbrev dskV (a : Addr) : D := .fn 1000 a
def dkF (d : D) (z : S) : Option (Addr × List (Str × D)) := match d, z.dk with
  | .fn j a, some (b, fs) => if j = 1000 ∧ a = b then some (b, fs) else none
  | _, _ => none
def putD (f : Str) (v : D) : List (Str × D) → List (Str × D)
  | [] => [(f, v)]
  | (g, x) :: r => if g = f then (g, v) :: r else (g, x) :: putD f v r
def eFldD (f : Str) (fe : EnD → M D) : EnD → M D := fun ρ => mbind (fe ρ) fun d z => match (dkF d z).bind fun p => p.2.lookup f with
  | some v => .ok v z
  | none => .bad
def eMeth (m : Str) (F : List D → M D) (fo : EnD → M D) (fs : List (EnD → M D)) : EnD → M D := fun ρ => mbind (fo ρ) fun d z => match dkF d z with
  | some p => if (p.2.lookup m).isNone = true then mbind (evs fs ρ) (fun ds => F (d :: ds)) z else .bad
  | none => .bad
def eProp (F : List D → M D) (fe : EnD → M D) : EnD → M D := fun ρ => mbind (fe ρ) fun d z => match dkF d z with
  | some _ => F [d] z
  | none => .bad
def sFldS (f : Str) (fo fv : EnD → M D) : SM := fun ρ z => obind (fv ρ z) fun v z1 => obind (fo ρ z1) fun d z2 => match dkF d z2 with
  | some p => if noS v = true ∧ p.2.length < 1000 then .nx ρ { z2 with dk := some (p.1, putD f v p.2) } else .bad
  | none => .bad
section
variable {K : PySem.W.Frag} {T : Tb} {H : Hp} {R : Addr} {B : Addr → Prop} {f : Str} {d : D} {v : V} {z : S} {a : Addr} {fs : List (Str × D)} {fv : List (Str × V)}
theorem dkF_some (h : dkF d z = some (a, fs)) : d = dskV a ∧ z.dk = some (a, fs) := by
  unfold dkF at h
  split at h
  · rename_i j b c gs e
    split at h
    · rename_i q
      obtain ⟨rfl, rfl⟩ := q
      cases h
      exact ⟨rfl, e⟩
    · cases h
  · cases h
theorem r1_dsk (r : R1 K H R B v (dskV a)) : v = .ref a := by
  cases r with
  | atom q _ => cases q; rfl
theorem dsk_r1 : R1 K H R B (.ref a) (dskV a) := .atom .fn .nil
theorem fld_look : ∀ {fv : List (Str × V)} {fs : List (Str × D)}, fv.map (·.1) = fs.map (·.1) → Rs K H R B (fv.map (·.2)) (fs.map (·.2)) → fs.lookup f = some d → ∃ v, fv.lookup f = some v ∧ R1 K H R B v d
  | [], [], _, _, h => by cases h
  | [], _ :: _, e, _, _ => by cases e
  | _ :: _, [], e, _, _ => by cases e
  | (x, v) :: fv, (y, w) :: fs, e, r, h => by
    simp only [List.map_cons, List.cons.injEq] at e
    obtain ⟨rfl, e⟩ := e
    obtain ⟨r1, r2⟩ := r.split
    rw [List.lookup_cons] at h ⊢
    cases c : (f == x) with
    | true => rw [c] at h; cases h; exact ⟨v, rfl, r1⟩
    | false => rw [c] at h; exact fld_look e r2 h
theorem fld_none : ∀ {fv : List (Str × V)} {fs : List (Str × D)}, fv.map (·.1) = fs.map (·.1) → fs.lookup f = none → fv.lookup f = none
  | [], [], _, _ => rfl
  | [], _ :: _, e, _ => by cases e
  | _ :: _, [], e, _ => by cases e
  | (x, v) :: fv, (y, w) :: fs, e, h => by
    simp only [List.map_cons, List.cons.injEq] at e
    obtain ⟨rfl, e⟩ := e
    rw [List.lookup_cons] at h ⊢
    cases c : (f == x) with
    | true => rw [c] at h; cases h
    | false => rw [c] at h; exact fld_none e h
theorem fld_put {y : V} (ry : R1 K H R B y d) : ∀ {fv : List (Str × V)} {fs : List (Str × D)}, fv.map (·.1) = fs.map (·.1) → Rs K H R B (fv.map (·.2)) (fs.map (·.2)) → (putF f y fv).map (·.1) = (putD f d fs).map (·.1) ∧ Rs K H R B ((putF f y fv).map (·.2)) ((putD f d fs).map (·.2))
  | [], [], _, _ => ⟨rfl, ry⟩
  | [], _ :: _, e, _ => by cases e
  | _ :: _, [], e, _ => by cases e
  | (x, v) :: fv, (y', w) :: fs, e, r => by
    simp only [List.map_cons, List.cons.injEq] at e
    obtain ⟨rfl, e⟩ := e
    obtain ⟨r1, r2⟩ := r.split
    unfold putF putD
    split
    · exact ⟨by simp [e], Rs.cons ry r2⟩
    · obtain ⟨h1, h2⟩ := fld_put ry e r2
      exact ⟨by simp only [List.map_cons, h1], Rs.cons r1 h2⟩
theorem noSs_put (hd : noS d = true) : ∀ {fs : List (Str × D)}, noSs (fs.map (·.2)) = true → noSs ((putD f d fs).map (·.2)) = true
  | [], _ => by simp [putD, noSs, hd]
  | (x, w) :: fs, h => by
    simp only [List.map_cons, noSs, Bool.and_eq_true] at h
    unfold putD
    split
    · simp [noSs, hd, h.2]
    · simp [noSs, h.1, noSs_put hd h.2]
theorem fld_len (e : fv.map (·.1) = fs.map (·.1)) : fv.length = fs.length := by
  have := congrArg List.length e
  simpa using this
end
section
variable {X : L2.Cx} {T : Tb} {E : XK} {e o value : Expr} {es : List Expr} {fe fo fv : EnD → M D} {fs : List (EnD → M D)} {f m : Str} {pos pos' apos p : Pos} {σ : L2.St} {H : Hp} {Q : VK}
theorem pu_fldD (c : Cls X.K T.dc) (n : NoAttr X.K T.dc f) (he : PE X e (tD (yx X T E) fe)) (hb : attributeBase e f X.env (eval e X.env) = eval e X.env := by rfl) : PE X (.Attribute e f pos) (tD (yx X T E) (eFldD f fe)) :=
  PE_imp (pe_fld he hb) fun σ H Q h => by
    obtain ⟨g, ρ, z, st, a⟩ := h
    refine ⟨g, ρ, z, st, a.bind.imp fun d z1 _ h1 v H1 st1 e1 r1 => ?_⟩
    cases q : (dkF d z1).bind fun p => p.2.lookup f with
    | none => simp only [q] at h1; exact h1.elim
    | some w =>
      simp only [q] at h1
      obtain ⟨⟨a, gs⟩, q1, q2⟩ := Option.bind_eq_some_iff.mp q
      obtain ⟨rfl, q3⟩ := dkF_some q1
      obtain rfl := r1_dsk r1
      obtain ⟨dx, fvs, d1, d2, d3, d4⟩ := st1.wo.dsk a gs q3
      obtain ⟨u, l, ru⟩ := fld_look d2 d3 q2
      exact ⟨a, T.dc, dx, fvs, u, rfl, d1, c, n, l, h1 u H1 st1 e1 ru⟩
theorem pu_fldS (c : Cls X.K T.dc) (n : NoAttr X.K T.dc f) (ho : PE X o (tD (yx X T E) fo)) (hv : PE X value (tD (yx X T E) fv)) (hs : swapsWith value (some (.Attribute o f pos')) pos.line X.env = pure false := by rfl) :
    PS X (.Assign [.Attribute o f pos'] value pos) (sD (yx X T E) (sFldS f fo fv)) := PS_imp (ps_fld ho hv hs) fun D σ H h => by
  obtain ⟨g, ρ, z, st, a⟩ := h
  refine ⟨g, ρ, z, st, a.bind.imp fun dv z1 _ h1 y H1 st1 e1 r1 => ⟨g, ρ, z1, st1, h1.bind.imp fun d z2 _ h2 x H2 st2 e2 r2 => ?_⟩⟩
  cases q : dkF d z2 with
  | none => simp only [q] at h2; exact h2.elim
  | some p =>
    obtain ⟨a, gs⟩ := p
    simp only [q] at h2
    obtain ⟨rfl, q3⟩ := dkF_some q
    obtain rfl := r1_dsk r2
    by_cases cc : noS dv = true ∧ gs.length < 1000
    case neg => rw [if_neg cc] at h2; exact h2.elim
    rw [if_pos cc] at h2
    obtain ⟨dx, fvs, d1, d2, d3, d4⟩ := st2.wo.dsk a gs q3
    have ne : ∀ (b : Addr) (u : HO), H2 b = some u → (∀ C dx fv, u ≠ .ins C dx fv) → b ≠ a := fun b u e k z => by rw [z, d1] at e; exact k _ _ _ (Option.some.inj e).symm
    have ex : Ext g.R H2 (upd H2 a (.ins T.dc dx (putF f y fvs))) := by
      refine ⟨fun b u e _ k => by rw [upd_ne (ne b u e k.ni)]; exact e, fun b e => ?_, fun x xs e => ⟨xs, by rw [upd_ne (ne _ _ e fun _ _ _ z => by cases z)]; exact e⟩⟩
      by_cases q : b = a
      · rw [q, upd_same]; exact fun z => by cases z
      · rw [upd_ne q]; exact e
    have rd := ex.rd st2.badR
    obtain ⟨p1, p2⟩ := fld_put (f := f) (r1.mono (e2.rd st1.badR)) d2 d3
    have wo : Wo X.K T (gb g σ ρ) (upd H2 a (.ins T.dc dx (putF f y fvs))) { z2 with dk := some (a, putD f dv gs) } := by
      obtain ⟨⟨SA, s1, s2, s3⟩, ht, hb, hd, hk, hl, hi, hz⟩ := st2.wo
      refine ⟨⟨SA, s1, rd.sqL s1 s2, by rw [upd_ne (ne _ _ s3 fun _ _ _ z => by cases z)]; exact s3⟩, fun P hP => ?_, hb, fun b q => ex.dom b (hd b q), hk, tabs_keep hl (fun q _ ps e => by rw [upd_ne (ne _ _ e fun _ _ _ z => by cases z)]; exact e) (fun c φ e => by rw [upd_ne (ne _ _ e fun _ _ _ z => by cases z)]; exact e), hi, fun b gs' e => ?_⟩
      · obtain ⟨ps, t1, t2⟩ := ht P hP
        exact ⟨ps, by rw [upd_ne (ne _ _ t1 fun _ _ _ z => by cases z)]; exact t1, t2⟩
      · cases e
        exact ⟨dx, _, upd_same, p1, p2.mono rd, noSs_put cc.1 d4⟩
    exact ⟨a, T.dc, dx, fvs, rfl, d1, c, n, by rw [fld_len d2]; exact cc.2, h2 σ _ (st2.step ex wo) (.ext (e1.trans (e2.trans ex)))⟩
variable {CX : CXT} {k n : Nat} {fa' pa : Addr} {fd : FuncData} {ps : List Str} {F : List D → M D}
theorem pu_meth {pl : Sem Bool} (c : Cls X.K T.dc) (hm : Meth X.K T.dc m fa') (FN : FnOk X.prog X.w X.K X.mg X.base CX k fa' fd ps (spD X.K T X.mg n F)) (hr : Room k X.A) (hb : L2.Binds X.K fd ps []) (hx : Passes CX X E)
    (ho : PE X o (tD (yx X T E) fo)) (ha : PA X (e :: es) (taD (yx X T E) (evs fs))) (hn : fs.length + 1 = n := by rfl)
    (hst : starEach (e :: es) X.env = (false, eval e X.env) :: starEach es X.env := by rfl) (hpl : (backTo pos (starEach es X.env)).any (·.1) = false := by rfl)
    (ht : eval (.Call (.Attribute o m apos) (e :: es) [] pos) X.env = (do
      let ov ← eval o X.env
      standAt apos.atName
      let (f, first) ← holding [ov] (getMethod ov m pl)
      callWith pos f first (backTo pos (starEach (e :: es) X.env)) (backToKw pos (keywordEach [] X.env))) := by rfl) :
    PE X (.Call (.Attribute o m apos) (e :: es) [] pos) (tD (yx X T E) (eMeth m F fo fs)) :=
  PE_imp (pe_meth (pl := pl) ho c hm FN hr hb .nil hx ha hst hpl ht) fun σ H Q h => by
    obtain ⟨g, ρ, z, st, a⟩ := h
    refine ⟨g, ρ, z, st, a.bind.imp fun d z1 _ h1 v H1 st1 e1 r1 => ?_⟩
    cases q : dkF d z1 with
    | none => simp only [q] at h1; exact h1.elim
    | some p =>
      obtain ⟨a, gs⟩ := p
      simp only [q] at h1
      obtain ⟨rfl, q3⟩ := dkF_some q
      obtain rfl := r1_dsk r1
      by_cases cc : (gs.lookup m).isNone = true
      case neg => rw [if_neg cc] at h1; exact h1.elim
      rw [if_pos cc] at h1
      obtain ⟨dx, fvs, d1, d2, d3, d4⟩ := st1.wo.dsk a gs q3
      refine ⟨a, dx, fvs, rfl, d1, fld_none d2 (Option.isNone_iff_eq_none.mp cc), ?_⟩
      have h1 : tD (yx X T E) (fun ρ => mbind (evs fs ρ) fun ds => F (dskV a :: ds)) σ H1 Q := ⟨g, ρ, z1, st1, h1.imp fun d2 z2 _ q2 v2 H2 s2 e2 r2 => q2 v2 H2 s2 (e1.trans e2) r2⟩
      exact ta_mono (ta_bind h1) fun vs H2 ⟨hl, g2, ρ2, z2, ds, st2, r2, a2⟩ => by
        rw [List.append_nil]
        exact spD_of (ds := dskV a :: ds) (by rw [List.length_cons, hl]; exact hn) st2 (Rs.cons dsk_r1 r2) a2
theorem pu_meth0 {pl : Sem Bool} (c : Cls X.K T.dc) (hm : Meth X.K T.dc m fa') (FN : FnOk X.prog X.w X.K X.mg X.base CX k fa' fd ps (spD X.K T X.mg 1 F)) (hr : Room k X.A) (hb : L2.Binds X.K fd ps []) (hx : Passes CX X E)
    (ho : PE X o (tD (yx X T E) fo))
    (ht : eval (.Call (.Attribute o m apos) [] [] pos) X.env = (do
      let ov ← eval o X.env
      standAt apos.atName
      let (f, first) ← holding [ov] (getMethod ov m pl)
      callWith pos f first (backTo pos (starEach [] X.env)) (backToKw pos (keywordEach [] X.env))) := by rfl) :
    PE X (.Call (.Attribute o m apos) [] [] pos) (tD (yx X T E) (eMeth m F fo [])) :=
  PE_imp (pe_meth0 (pl := pl) ho c hm FN hr hb .nil hx ht) fun σ H Q h => by
    obtain ⟨g, ρ, z, st, a⟩ := h
    refine ⟨g, ρ, z, st, a.bind.imp fun d z1 _ h1 v H1 st1 e1 r1 => ?_⟩
    cases q : dkF d z1 with
    | none => simp only [q] at h1; exact h1.elim
    | some p =>
      obtain ⟨a, gs⟩ := p
      simp only [q] at h1
      obtain ⟨rfl, q3⟩ := dkF_some q
      obtain rfl := r1_dsk r1
      by_cases cc : (gs.lookup m).isNone = true
      case neg => rw [if_neg cc] at h1; exact h1.elim
      rw [if_pos cc] at h1
      obtain ⟨dx, fvs, d1, d2, d3, d4⟩ := st1.wo.dsk a gs q3
      refine ⟨a, dx, fvs, rfl, d1, fld_none d2 (Option.isNone_iff_eq_none.mp cc), ?_⟩
      show spD X.K T X.mg 1 F [V.ref a] H1 Q E
      exact spD_of (ds := [dskV a]) rfl st1 dsk_r1 (After.imp (After.pure (After.bind h1)) fun d2 z2 _ q2 v2 H2 s2 e2 r2 => q2 v2 H2 s2 (e1.trans e2) r2)
theorem pu_prop (c : Cls X.K T.dc) (hp : PropOf X.K T.dc f pa fa') (FN : FnOk X.prog X.w X.K X.mg X.base CX k fa' fd ps (spD X.K T X.mg 1 F)) (hr : Room (k + 1) X.A) (hb : L2.Binds X.K fd ps []) (hx : Passes CX X.nox E)
    (he : PE X e (tD (yx X T E) fe)) (hab : attributeBase e f X.env (eval e X.env) = eval e X.env := by rfl) : PE X (.Attribute e f pos) (tD (yx X T E) (eProp F fe)) :=
  PE_imp (pe_prop he c hp FN hr hb .nil hx hab) fun σ H Q h => by
    obtain ⟨g, ρ, z, st, a⟩ := h
    refine ⟨g, ρ, z, st, a.bind.imp fun d z1 _ h1 v H1 st1 e1 r1 => ?_⟩
    cases q : dkF d z1 with
    | none => simp only [q] at h1; exact h1.elim
    | some p =>
      obtain ⟨a, gs⟩ := p
      simp only [q] at h1
      obtain ⟨rfl, q3⟩ := dkF_some q
      obtain rfl := r1_dsk r1
      obtain ⟨dx, fvs, d1, d2, d3, d4⟩ := st1.wo.dsk a gs q3
      exact ⟨a, dx, fvs, rfl, d1, spD_of (ds := [dskV a]) rfl st1 dsk_r1 (h1.imp fun d2 z2 _ q2 v2 H2 s2 e2 r2 => q2 v2 H2 s2 (e1.trans e2) r2)⟩
end
end DL
set_option Elab.async false
set_option linter.all false
set_option maxRecDepth 100000
set_option maxHeartbeats 2000000
/-! DK2: the desk is made at an address that only the run knows; str of an int. -/
namespace DL
open PySem PySem.Spec PyProof.Rows L2

def strI : D → Option D
  | .int i => if 0 ≤ i ∧ i < 1000 then some (.str ((toString i : Str).cps.toList)) else none
  | _ => none
section
variable {X : L2.Cx} {T : Tb} {E : XK}
theorem ST_cps (z : Str) : ST z.cps.toList = z := by
  unfold ST
  simp
theorem cd_str : CallD1 X T E (.type "str") (op1 strI) := callD1_of fun g H σ ρ z v d r Q st rv h q => by
  cases d <;> simp only [strI, reduceCtorEq] at h
  case int i =>
    split at h
    · rename_i c
      cases h
      cases rv.int
      refine ⟨_, call_str_int, i, rfl, ?_, ?_⟩
      · have h1 : i.natAbs < 2 ^ 10 := by omega
        have h2 : i.natAbs.log2 < 10 := by
          by_cases e : i.natAbs = 0
          · rw [e]; decide
          · exact (Nat.log2_lt e).mpr h1
        omega
      · have q' := q (.str (ST (toString i : Str).cps.toList)) H st .refl (.atom .str .nil)
        rw [ST_cps] at q'
        exact q'
    · cases h
/-- for whatever address -/
def sDA (Y : Yx) (F : Addr → SM) : TS := fun Dn σ H => ∃ g ρ z, StR Y g H σ ρ z ∧ ∀ a, OutOk Y g σ ρ H (F a ρ z) Dn
theorem pu_seqA {st : Stmt} {rest : List Stmt} {A : SM} {R : Addr → SM} (h1 : PS X st (sD (yx X T E) A)) (h2 : PSs X rest (sDA (yx X T E) R)) : PSs X (st :: rest) (sDA (yx X T E) fun a => sSeq A (R a)) := PSs_imp (pss_cons h1 h2) fun D σ H h => by
  obtain ⟨g, ρ, z, st, o⟩ := h
  refine ⟨g, ρ, z, st, ?_⟩
  have at_ : ∀ a r, A ρ z = r → OutOk (yx X T E) g σ ρ H (match r with | .nx ρ' z' => R a ρ' z' | o => o) D := fun a r e => by
    have q : OutOk (yx X T E) g σ ρ H (sSeq A (R a) ρ z) D := o a
    unfold sSeq at q
    rw [e] at q
    exact q
  cases e : A ρ z with
  | nx ρ' z' => exact fun σ' H' st' s => ⟨g, ρ', z', st', fun a => (at_ a _ e).rebase s⟩
  | rt d z' => exact at_ 0 _ e
  | bk ρ' z' => exact at_ 0 _ e
  | ct ρ' z' => exact at_ 0 _ e
  | exc x z' => exact at_ 0 _ e
  | bad => exact at_ 0 _ e
/-- x = Desk(e) -/
def sMkDk (i : Nat) (a : Addr) (F : List D → M D) (fe : EnD → M D) : SM := fun ρ z => obind (evs [fe] ρ z) fun ds z1 => if z1.dk.isNone = true ∧ ownAt ρ i = false then
  (match F (dskV a :: ds) { z1 with dk := some (a, []) } with
    | .ok .non z2 => .nx (ρ.set i (some (.val (dskV a)))) z2
    | _ => .bad) else .bad
theorem PSs_ex {α : Type} {rest : List Stmt} {t : α → TS} (h : ∀ a, PSs X rest (t a)) : PSs X rest fun D σ H => ∃ a, t a D σ H := ⟨fun pins s σ H D I ⟨a, q⟩ => (h a).run pins s σ H D I q⟩
theorem pu_newDsk {k i : Nat} {fI : Addr} {fd : FuncData} {ps : List Str} {F : List D → M D} {fe : EnD → M D} {R : Addr → SM} {nm x : Str} {e : Expr} {rest : List Stmt} {p pos pos' apos : Pos}
    (M : Mk X.K T.dc fI) (FN : FnOk X.prog X.w X.K X.mg X.base CX0 k fI fd ps (spD X.K T X.mg 2 F)) (hr : Room (k + 1) X.A) (hg : Gl X x) (hm : X.mg x = some (.ref T.dc)) (hb : L2.Binds X.K fd ps [])
    (ha : PA X [e] (taD (yx X T E) (evs [fe]))) (hN : X.N.Nodup) (hi : X.N[i]? = some nm) (hx : Loc X.env.scope nm) (hrest : ∀ a, PSs X rest (sD (yx X T E) (R a)))
    (hdb : (x == ("__debug__" : Str)) = false := by decide) (he : starEach [e] X.env = (false, eval e X.env) :: starEach [] X.env := by rfl) (hpl : (backTo pos (starEach [] X.env)).any (·.1) = false := by rfl)
    (hs : swapsWith (.Call (.Name x p) [e] [] pos) (some (.Name nm pos')) apos.line X.env = pure false := by rfl) (hf : X.fn nm = true ∨ X.env.scope.names.lookup nm = some .local := by first | exact .inl rfl | exact .inr rfl) :
    PSs X (.Assign [.Name nm pos'] (.Call (.Name x p) [e] [] pos) apos :: rest) (sDA (yx X T E) fun a => sSeq (sMkDk i a F fe) (R a)) :=
  PSs_imp (pss_cons (ps_set hN hi hx (pe_make (dvs := []) M FN hr hg hm hb .nil passD ha hdb he hpl) hs hf) (PSs_ex hrest)) fun D σ H h => by
    obtain ⟨g, ρ, z, st, o⟩ := h
    refine ⟨g, ρ, z, st, ?_⟩
    have o : ∀ a, OutOk (yx X T E) g σ ρ H (sSeq (sMkDk i a F fe) (R a) ρ z) D := o
    have o0 := o 0
    unfold sSeq sMkDk at o0
    cases ee : evs [fe] ρ z with
    | bad => rw [ee] at o0; exact o0.elim
    | exc y z' => rw [ee] at o0; exact o0
    | ok ds z1 =>
      intro vs H1 st1 e1 r1 xa dx hxa hdx hne
      have oa := o xa
      unfold sSeq sMkDk at oa
      rw [ee] at oa
      simp only [obind] at oa
      by_cases cc : z1.dk.isNone = true ∧ ownAt ρ i = false
      case neg => rw [if_neg cc] at oa; exact oa.elim
      rw [if_pos cc] at oa
      rw [List.append_nil]
      have nn : ∀ (b : Addr) (u : HO), H1 b = some u → b ≠ xa ∧ b ≠ dx := fun b u e => ⟨ne_of_none e hxa, ne_of_none e hdx⟩
      have n2 : (upd H1 dx (.own xa)) xa = none := by rw [upd_ne (Ne.symm hne)]; exact hxa
      have stA := (st1.new (o := .own xa) hdx).new (o := .ins T.dc dx []) n2
      have w2 : Wo X.K T (gb g σ ρ) (upd (upd H1 dx (.own xa)) xa (.ins T.dc dx [])) { z1 with dk := some (xa, []) } := by
        obtain ⟨hrow, ht, hb, hd, hk, hl, hi, hz⟩ := stA.wo
        exact ⟨hrow, ht, hb, hd, hk, hl, hi, fun b fs q => by cases q; exact ⟨dx, [], upd_same, rfl, .nil, rfl⟩⟩
      have st2 : StR (yx X T E) g (upd (upd H1 dx (.own xa)) xa (.ins T.dc dx [])) σ ρ { z1 with dk := some (xa, []) } := stA.step .refl w2
      have ex2 : Ext g.R H1 (upd (upd H1 dx (.own xa)) xa (.ins T.dc dx [])) := (Ext.new hdx).trans (.new n2)
      refine spD_of (E := fun _ _ _ => False) (ds := dskV xa :: ds) ?_ st2.chE (Rs.cons dsk_r1 (r1.mono (ex2.rd st1.badR))) ?_
      · rw [List.length_cons, r1.length, evs_length ee]; rfl
      · cases ef : F (dskV xa :: ds) { z1 with dk := some (xa, []) } with
        | bad => rw [ef] at oa; exact oa.elim
        | exc y z' => rw [ef] at oa; exact oa.elim
        | ok d z2 =>
          rw [ef] at oa
          intro v H' s' e' r'
          cases d with
          | non =>
            dsimp only at oa
            cases r' with
            | atom q _ =>
              cases q
              refine ⟨rfl, xa, g, ρ.set i (some (.val (dskV xa))), z2, s'.chE.setv cc.2 dsk_r1, oa.rebase ?_⟩
              exact (Stp.ext (e1.trans (ex2.trans e'))).trans (.setv cc.2 trivial)
          | _ => exact oa.elim
end
section
variable {P : Program} {w : World} {K : PySem.W.Frag} {mg : Str → Option Value} {base : Heap}
theorem ok_lawDA {x qual n1 n2 : Str} {st : Stmt} {f : Addr} {fd : FuncData} {N : List Str} {k : Nat} {B : Addr → SM} {seed : Int} {rest : List Stmt} {cs : List (Addr × Addr)} {T : Tb} {q1 q2 q3 q4 q5 q6 q7 : Pos} {j1 j2 j3 : Nat} (F : Fun K x qual st f fd) (S : FnScope (n1 :: n2 :: N) [n1] (defScope st))
    (hb : defBody st = .Assign [.Name n2 q1] (.List [.Name n1 q2, .Constant (.int 0) j1 q3, .Constant (.int seed) j2 q4, .Constant (.int 0) j3 q5] q6) q7 :: rest)
    (l1 : (defScope st).names.lookup n1 = some .local) (l2 : Loc (defScope st) n2) (d1 : (n1 == ("__debug__" : Str)) = false) (c1 : (n1 == ("__classdict__" : Str)) = false)
    (hsw : ∀ (cdv : Value) (A : Around) (outer : List Env) (s : Shared) (H : Hp) (E : XK), swapsWith (.List [.Name n1 q2, .Constant (.int 0) j1 q3, .Constant (.int seed) j2 q4, .Constant (.int 0) j3 q5] q6) (some (.Name n2 q1)) q7.line (cxOf CX0 P w K mg base (n1 :: n2 :: N) qual (defScope st) f cdv A outer s H E).nox.env = pure false)
    (der : ∀ (cdv : Value) (A : Around) (outer : List Env) (s : Shared) (H : Hp) (E : XK), Room k (A.deeper (envOfC qual (defScope st) s.heap.objs.size f cdv)) → fd.code = cdv →
      PSs (cxOf CX0 P w K mg base (n1 :: n2 :: N) qual (defScope st) f cdv A outer s H E).nox rest (sDA ⟨K, T, mg, fun _ _ _ => False⟩ B))
    (hT : ∀ P ∈ T, P ∈ cs.map (·.2)) (hL : ∀ p ∈ T.ls, p.1 ∈ cs.map (·.2)) (hD : ∀ p ∈ T.ls, ¬ p.1 ∈ T)
    (hm : ∀ ns : List Int, ns.length ≤ 63 → (∀ z ∈ ns, Builtin.Int.intBits z ≤ 1048576) → ∀ a, ∃ z', B a (rhoL (N.length + 2)) ⟨ns, 0, seed, 0, none⟩ = .rt (.bl true) z') :
    FnOk P w K mg base CX0 (k + 1) f fd [n1] (spLaw K cs) := by
  obtain ⟨oc, od, kV, doc, pm, an, cdv, ct, osl, rfl, lk, hcd⟩ := F.ex
  refine fn_of lk hcd S (fun vs H Q E h => by obtain ⟨a, ns, rfl, _⟩ := h; rfl) fun A outer s H vs Q E hr h => ?_
  obtain ⟨a, ns, rfl, hS, hl, hbits, htb, q⟩ := h
  have hd := der cdv A outer s H E hr rfl
  refine ⟨_, PSs.nox (t := tSeq (tAsg (tLst (tCons (tVar 0) (tCons (tC (.int 0)) (tCons (tC (.int seed)) (tCons (tC (.int 0)) tNil))))) (gName 1)) fun D σ H => KN K H → sDA ⟨K, T, mg, fun _ _ _ => False⟩ B D σ H) ?_, ?_⟩
  · show PSs _ (defBody st) _
    rw [hb]
    exact pss_cons (ps_set (i := 1) S.nd rfl l2 (pe_lst (pa_cons (pe_var (i := 0) rfl (.inl l1) d1 c1) (pa_cons pe_int (pa_cons pe_int (pa_cons pe_int pa_nil))))) (hsw cdv A outer s H E)) (PSs_kn hd)
  · refine ⟨.ref a, rfl, small_len (n := 4) (by decide), fun p hp kn => ?_⟩
    have hK : K.lookup p = none := kn p (by rw [upd_same]; exact fun z => by cases z)
    have ha : a ≠ p := fun e => by
      rcases hS with hS | ⟨o, its, n, hS, _⟩
      · exact rd_some hS (by rw [e]; exact hp)
      · rw [e, hK] at hS; cases hS
    have hS' : SqL K (upd H p (.lst [.ref a, .int 0, .int seed, .int 0])) a (ns.map V.int) := by
      rcases hS with (hS | ⟨o, hS⟩) | hS
      · exact .inl (.inl (by rw [upd_ne ha]; exact hS))
      · exact .inl (.inr ⟨o, by rw [upd_ne ha]; exact hS⟩)
      · exact .inr hS
    have noOwn : ∀ (i : Nat) (d : D), (rhoL (N.length + 2))[i]? ≠ some (some (.own d)) := fun i d e => by
      unfold rhoL at e
      match i, e with
      | 0, e => cases e
      | 1, e => cases e
      | i + 2, e =>
        simp only [List.getElem?_cons_succ, List.getElem?_replicate] at e
        split at e <;> cases e
    refine ⟨⟨p, fun x => x = p, upd H p (.lst [.ref a, .int 0, .int seed, .int 0])⟩, rhoL (N.length + 2), ⟨ns, 0, seed, 0, none⟩, ?_, ?_⟩
    · have be : ∀ σ : L2.St, bad ⟨p, fun x => x = p, upd H p (.lst [.ref a, .int 0, .int seed, .int 0])⟩ σ (rhoL (N.length + 2)) = fun x => x = p := fun σ => by
        funext b
        apply propext
        exact ⟨fun h => h.elim id fun ⟨i, d, h1, _⟩ => absurd h1 (noOwn i d), .inl⟩
      refine ⟨?_, rfl, ?_, fun i d h => ?_, fun i d h => absurd h (noOwn i d), fun i j d e b h => absurd h (noOwn i d), .refl⟩
      · unfold gb
        rw [be]
        refine ⟨⟨a, ha, hS', upd_same⟩, fun P' hP => ?_, rfl, fun b hb => ?_, fun b hb => ?_, fun q hq => ?_, hD, fun a fs e => by cases e⟩
        · obtain ⟨c, hc, rfl⟩ := List.mem_map.mp (hT P' hP)
          have h1 := htb c hc
          exact ⟨#[], by rw [upd_ne (ne_of_none h1 hp)]; exact h1, by first | exact trivial | simp [TriplesOk] | exact True.intro⟩
        · have hb : b = p := hb
          rw [hb, upd_same]
          exact fun z => by cases z
        · have hb : b = p := hb
          rw [hb]
          exact hK
        · obtain ⟨c, hc, e⟩ := List.mem_map.mp (hL q hq)
          have h1 := htb c hc
          exact LamX.TabS.nil (by rw [← e, upd_ne (ne_of_none h1 hp)]; exact h1)
      · show ((L2.start (n1 :: n2 :: N) [V.ref a]).set 1 _).length = _
        unfold L2.start rhoL
        simp
      · rw [be]
        unfold rhoL at h
        match i, h with
        | 0, h => cases h
        | 1, h =>
          cases h
          exact ⟨.ref p, rfl, .atom .row .nil⟩
        | i + 2, h =>
          simp only [List.getElem?_cons_succ, List.getElem?_replicate] at h
          split at h <;> cases h
    · intro a
      obtain ⟨z', e⟩ := hm ns hl hbits a
      rw [e]
      intro v H' w' ex r
      cases r.bl
      exact q H'
end
end DL
set_option Elab.async false
set_option linter.all false
set_option maxRecDepth 100000
set_option maxHeartbeats 4000000
namespace C
open PySem PySem.Spec PyProof.Rows L2 DL
/-- what a law's text gives the defs: their addresses, whether errors are told, which checks are there -/
structure Cfg where
  A : Nat → Addr
  E : Str → Bool
  ck : Nat → Bool
  hs : List Key → Int
  sp : SetSp
def sRz (Γ : Cfg) (x : Str) : SM := fun ρ z => if Γ.E x then sRaise x ρ z else .bad
theorem pu_rz {X : L2.Cx} {T : Tb} {E : XK} {st : Stmt} {Γ : Cfg} {x : Str} (h : Γ.E x = true) (hp : PS X st (sD (yx X T E) (sRaise x))) : PS X st (sD (yx X T E) (sRz Γ x)) := by
  have e : sRz Γ x = sRaise x := by funext ρ z; unfold sRz; rw [if_pos h]
  rw [e]; exact hp
theorem pu_rzB {X : L2.Cx} {T : Tb} {E : XK} {st : Stmt} {Γ : Cfg} {x : Str} (h : Γ.E x = false) : PS X st (sD (yx X T E) (sRz Γ x)) := by
  have e : sRz Γ x = sBad := by funext ρ z; unfold sRz sBad; rw [if_neg (by rw [h]; simp)]
  rw [e]; exact pu_bad
def w_WAYS : D := .tup [.str [97, 108, 108, 111, 119, 32, 111, 118, 101, 114], .str [97, 108, 119, 97, 121, 115, 32, 97, 108, 108, 111, 119], .str [97, 108, 119, 97, 121, 115, 32, 100, 101, 110, 121], .str [98, 111, 116, 104, 32, 101, 110, 100, 115], .str [100, 101, 110, 121, 32, 111, 118, 101, 114], .str [102, 105, 114, 115, 116], .str [105, 115, 108, 97, 110, 100], .str [108, 97, 115, 116], .str [109, 111, 115, 116, 32, 111, 114, 32, 97, 108, 108, 111, 119], .str [109, 111, 115, 116, 32, 111, 114, 32, 100, 101, 110, 121], .str [109, 111, 115, 116, 32, 111, 114, 32, 102, 105, 114, 115, 116], .str [109, 111, 115, 116, 32, 111, 114, 32, 108, 97, 115, 116], .str [111, 100, 100]]
def w_PROMISES : D := .tup [.str [97, 103, 114, 101, 101, 100], .str [101, 118, 101, 110], .str [103, 114, 111, 119, 105, 110, 103], .str [104, 101, 97, 114, 100], .str [107, 101, 112, 116], .str [109, 105, 120, 101, 100], .str [109, 111, 115, 116], .str [111, 114, 100, 101, 114], .str [112, 97, 114, 116, 115], .str [114, 101, 112, 101, 97, 116]]
def w_VOICES : D := .tup [.str [97, 108, 108, 111, 119], .str [100, 101, 110, 121]]
def w_SMALL_ROWS : D := .tup [.tup [.str [97, 108, 108, 111, 119]], .tup [.str [100, 101, 110, 121]], .tup [.str [97, 108, 108, 111, 119], .str [97, 108, 108, 111, 119]], .tup [.str [97, 108, 108, 111, 119], .str [100, 101, 110, 121]], .tup [.str [100, 101, 110, 121], .str [97, 108, 108, 111, 119]], .tup [.str [100, 101, 110, 121], .str [100, 101, 110, 121]], .tup [.str [97, 108, 108, 111, 119], .str [97, 108, 108, 111, 119], .str [97, 108, 108, 111, 119]], .tup [.str [97, 108, 108, 111, 119], .str [97, 108, 108, 111, 119], .str [100, 101, 110, 121]], .tup [.str [97, 108, 108, 111, 119], .str [100, 101, 110, 121], .str [97, 108, 108, 111, 119]], .tup [.str [97, 108, 108, 111, 119], .str [100, 101, 110, 121], .str [100, 101, 110, 121]], .tup [.str [100, 101, 110, 121], .str [97, 108, 108, 111, 119], .str [97, 108, 108, 111, 119]], .tup [.str [100, 101, 110, 121], .str [97, 108, 108, 111, 119], .str [100, 101, 110, 121]], .tup [.str [100, 101, 110, 121], .str [100, 101, 110, 121], .str [97, 108, 108, 111, 119]], .tup [.str [100, 101, 110, 121], .str [100, 101, 110, 121], .str [100, 101, 110, 121]]]
def tb_ANSWERS (Γ : Cfg) : List (List Nat × D) := [([97, 108, 108, 111, 119, 32, 111, 118, 101, 114], .fn 0 (Γ.A 0)), ([97, 108, 119, 97, 121, 115, 32, 97, 108, 108, 111, 119], .fn 1 (Γ.A 1)), ([97, 108, 119, 97, 121, 115, 32, 100, 101, 110, 121], .fn 2 (Γ.A 2)), ([98, 111, 116, 104, 32, 101, 110, 100, 115], .fn 3 (Γ.A 3)), ([100, 101, 110, 121, 32, 111, 118, 101, 114], .fn 4 (Γ.A 4)), ([102, 105, 114, 115, 116], .fn 5 (Γ.A 5)), ([105, 115, 108, 97, 110, 100], .fn 6 (Γ.A 6)), ([108, 97, 115, 116], .fn 7 (Γ.A 7)), ([109, 111, 115, 116, 32, 111, 114, 32, 97, 108, 108, 111, 119], .fn 8 (Γ.A 8)), ([109, 111, 115, 116, 32, 111, 114, 32, 100, 101, 110, 121], .fn 9 (Γ.A 9)), ([109, 111, 115, 116, 32, 111, 114, 32, 102, 105, 114, 115, 116], .fn 10 (Γ.A 10)), ([109, 111, 115, 116, 32, 111, 114, 32, 108, 97, 115, 116], .fn 11 (Γ.A 11)), ([111, 100, 100], .fn 12 (Γ.A 12))]
def tb_ALLOWED (Γ : Cfg) : List (List Nat × D) := [([97, 108, 108, 111, 119, 32, 111, 118, 101, 114], .fn 13 (Γ.A 13)), ([97, 108, 119, 97, 121, 115, 32, 97, 108, 108, 111, 119], .fn 14 (Γ.A 14)), ([97, 108, 119, 97, 121, 115, 32, 100, 101, 110, 121], .fn 15 (Γ.A 15)), ([98, 111, 116, 104, 32, 101, 110, 100, 115], .fn 16 (Γ.A 16)), ([100, 101, 110, 121, 32, 111, 118, 101, 114], .fn 17 (Γ.A 17)), ([102, 105, 114, 115, 116], .fn 18 (Γ.A 18)), ([105, 115, 108, 97, 110, 100], .fn 19 (Γ.A 19)), ([108, 97, 115, 116], .fn 18 (Γ.A 18)), ([109, 111, 115, 116, 32, 111, 114, 32, 97, 108, 108, 111, 119], .fn 20 (Γ.A 20)), ([109, 111, 115, 116, 32, 111, 114, 32, 100, 101, 110, 121], .fn 21 (Γ.A 21)), ([109, 111, 115, 116, 32, 111, 114, 32, 102, 105, 114, 115, 116], .fn 18 (Γ.A 18)), ([109, 111, 115, 116, 32, 111, 114, 32, 108, 97, 115, 116], .fn 18 (Γ.A 18)), ([111, 100, 100], .fn 18 (Γ.A 18))]
def tb_MATTERS (Γ : Cfg) : List (List Nat × D) := [([97, 108, 108, 111, 119, 32, 111, 118, 101, 114], .fn 22 (Γ.A 22)), ([97, 108, 119, 97, 121, 115, 32, 97, 108, 108, 111, 119], .fn 23 (Γ.A 23)), ([97, 108, 119, 97, 121, 115, 32, 100, 101, 110, 121], .fn 23 (Γ.A 23)), ([98, 111, 116, 104, 32, 101, 110, 100, 115], .fn 24 (Γ.A 24)), ([100, 101, 110, 121, 32, 111, 118, 101, 114], .fn 22 (Γ.A 22)), ([102, 105, 114, 115, 116], .fn 25 (Γ.A 25)), ([105, 115, 108, 97, 110, 100], .fn 26 (Γ.A 26)), ([108, 97, 115, 116], .fn 27 (Γ.A 27)), ([109, 111, 115, 116, 32, 111, 114, 32, 97, 108, 108, 111, 119], .fn 28 (Γ.A 28)), ([109, 111, 115, 116, 32, 111, 114, 32, 100, 101, 110, 121], .fn 29 (Γ.A 29)), ([109, 111, 115, 116, 32, 111, 114, 32, 102, 105, 114, 115, 116], .fn 30 (Γ.A 30)), ([109, 111, 115, 116, 32, 111, 114, 32, 108, 97, 115, 116], .fn 31 (Γ.A 31)), ([111, 100, 100], .fn 32 (Γ.A 32))]
def tb_KEPT_BY : List (List Nat × D) := [([97, 108, 108, 111, 119, 32, 111, 118, 101, 114], .tup [.str [97, 103, 114, 101, 101, 100], .str [103, 114, 111, 119, 105, 110, 103], .str [104, 101, 97, 114, 100], .str [107, 101, 112, 116], .str [111, 114, 100, 101, 114], .str [112, 97, 114, 116, 115], .str [114, 101, 112, 101, 97, 116]]), ([97, 108, 119, 97, 121, 115, 32, 97, 108, 108, 111, 119], .tup [.str [103, 114, 111, 119, 105, 110, 103], .str [107, 101, 112, 116], .str [111, 114, 100, 101, 114], .str [112, 97, 114, 116, 115], .str [114, 101, 112, 101, 97, 116]]), ([97, 108, 119, 97, 121, 115, 32, 100, 101, 110, 121], .tup [.str [103, 114, 111, 119, 105, 110, 103], .str [107, 101, 112, 116], .str [111, 114, 100, 101, 114], .str [112, 97, 114, 116, 115], .str [114, 101, 112, 101, 97, 116]]), ([98, 111, 116, 104, 32, 101, 110, 100, 115], .tup [.str [97, 103, 114, 101, 101, 100], .str [103, 114, 111, 119, 105, 110, 103], .str [107, 101, 112, 116], .str [109, 105, 120, 101, 100], .str [114, 101, 112, 101, 97, 116]]), ([100, 101, 110, 121, 32, 111, 118, 101, 114], .tup [.str [97, 103, 114, 101, 101, 100], .str [103, 114, 111, 119, 105, 110, 103], .str [104, 101, 97, 114, 100], .str [107, 101, 112, 116], .str [111, 114, 100, 101, 114], .str [112, 97, 114, 116, 115], .str [114, 101, 112, 101, 97, 116]]), ([102, 105, 114, 115, 116], .tup [.str [97, 103, 114, 101, 101, 100], .str [101, 118, 101, 110], .str [103, 114, 111, 119, 105, 110, 103], .str [107, 101, 112, 116], .str [109, 105, 120, 101, 100], .str [112, 97, 114, 116, 115], .str [114, 101, 112, 101, 97, 116]]), ([105, 115, 108, 97, 110, 100], .tup [.str [97, 103, 114, 101, 101, 100], .str [104, 101, 97, 114, 100], .str [109, 105, 120, 101, 100], .str [114, 101, 112, 101, 97, 116]]), ([108, 97, 115, 116], .tup [.str [97, 103, 114, 101, 101, 100], .str [101, 118, 101, 110], .str [103, 114, 111, 119, 105, 110, 103], .str [107, 101, 112, 116], .str [109, 105, 120, 101, 100], .str [112, 97, 114, 116, 115], .str [114, 101, 112, 101, 97, 116]]), ([109, 111, 115, 116, 32, 111, 114, 32, 97, 108, 108, 111, 119], .tup [.str [97, 103, 114, 101, 101, 100], .str [103, 114, 111, 119, 105, 110, 103], .str [104, 101, 97, 114, 100], .str [107, 101, 112, 116], .str [109, 105, 120, 101, 100], .str [109, 111, 115, 116], .str [111, 114, 100, 101, 114]]), ([109, 111, 115, 116, 32, 111, 114, 32, 100, 101, 110, 121], .tup [.str [97, 103, 114, 101, 101, 100], .str [103, 114, 111, 119, 105, 110, 103], .str [104, 101, 97, 114, 100], .str [107, 101, 112, 116], .str [109, 105, 120, 101, 100], .str [109, 111, 115, 116], .str [111, 114, 100, 101, 114]]), ([109, 111, 115, 116, 32, 111, 114, 32, 102, 105, 114, 115, 116], .tup [.str [97, 103, 114, 101, 101, 100], .str [101, 118, 101, 110], .str [103, 114, 111, 119, 105, 110, 103], .str [107, 101, 112, 116], .str [109, 105, 120, 101, 100], .str [109, 111, 115, 116]]), ([109, 111, 115, 116, 32, 111, 114, 32, 108, 97, 115, 116], .tup [.str [97, 103, 114, 101, 101, 100], .str [101, 118, 101, 110], .str [103, 114, 111, 119, 105, 110, 103], .str [107, 101, 112, 116], .str [109, 105, 120, 101, 100], .str [109, 111, 115, 116]]), ([111, 100, 100], .tup [.str [104, 101, 97, 114, 100], .str [109, 105, 120, 101, 100], .str [111, 114, 100, 101, 114], .str [112, 97, 114, 116, 115]])]
def tb_CHECKS (Γ : Cfg) : List (List Nat × D) := [([97, 103, 114, 101, 101, 100], .fn 33 (Γ.A 33)), ([101, 118, 101, 110], .fn 34 (Γ.A 34)), ([103, 114, 111, 119, 105, 110, 103], .fn 35 (Γ.A 35)), ([104, 101, 97, 114, 100], .fn 36 (Γ.A 36)), ([107, 101, 112, 116], .fn 37 (Γ.A 37)), ([109, 105, 120, 101, 100], .fn 38 (Γ.A 38)), ([109, 111, 115, 116], .fn 39 (Γ.A 39)), ([111, 114, 100, 101, 114], .fn 40 (Γ.A 40)), ([112, 97, 114, 116, 115], .fn 41 (Γ.A 41)), ([114, 101, 112, 101, 97, 116], .fn 42 (Γ.A 42))]
def tb_SIGN_OF : List (List Nat × D) := [([97, 108, 108, 111, 119], .str [43]), ([100, 101, 110, 121], .str [45])]
def tb_VOICE_OF : List (List Nat × D) := [([43], .str [97, 108, 108, 111, 119]), ([45], .str [100, 101, 110, 121])]
def ks_VOICE_OF : List (List Nat) := [[43], [45]]
noncomputable def B_allow_over (Γ : Cfg) : SM :=
  sRet (eIf (tV (e2 (op2 inD) (eC (.str [97, 108, 108, 111, 119])) (eV 0))) (eC (.str [97, 108, 108, 111, 119])) (eC (.str [100, 101, 110, 121])))
noncomputable def F_allow_over (Γ : Cfg) : List D → M D := runD 1 (B_allow_over Γ)
noncomputable def B_always_allow (Γ : Cfg) : SM :=
  sRet (eC (.str [97, 108, 108, 111, 119]))
noncomputable def F_always_allow (Γ : Cfg) : List D → M D := runD 1 (B_always_allow Γ)
noncomputable def B_always_deny (Γ : Cfg) : SM :=
  sRet (eC (.str [100, 101, 110, 121]))
noncomputable def F_always_deny (Γ : Cfg) : List D → M D := runD 1 (B_always_deny Γ)
noncomputable def B_both_ends_ways (Γ : Cfg) : SM :=
  sRet (eIf (tAnd (tV (e2 (op2 eqD) (e2 (op2 ixA) (eV 0) (eC (.int (0)))) (eC (.str [97, 108, 108, 111, 119])))) (tV (e2 (op2 eqD) (e2 (op2 ixA) (eV 0) (e1 (op1 negD) (eC (.int (1))))) (eC (.str [97, 108, 108, 111, 119]))))) (eC (.str [97, 108, 108, 111, 119])) (eC (.str [100, 101, 110, 121])))
noncomputable def F_both_ends_ways (Γ : Cfg) : List D → M D := runD 1 (B_both_ends_ways Γ)
noncomputable def B_deny_over (Γ : Cfg) : SM :=
  sRet (eIf (tV (e2 (op2 inD) (eC (.str [100, 101, 110, 121])) (eV 0))) (eC (.str [100, 101, 110, 121])) (eC (.str [97, 108, 108, 111, 119])))
noncomputable def F_deny_over (Γ : Cfg) : List D → M D := runD 1 (B_deny_over Γ)
noncomputable def B_first (Γ : Cfg) : SM :=
  sRet (e2 (op2 ixA) (eV 0) (eC (.int (0))))
noncomputable def F_first (Γ : Cfg) : List D → M D := runD 1 (B_first Γ)
noncomputable def B_stretches (Γ : Cfg) : SM :=
  sRet (eTupG 1 (iR1 (e1 (op1 lenD) (eV 0))) (tOr (tV (e2 (op2 eqD) (eV 1) (eC (.int (0))))) (tV (e2 (op2 neD) (e2 (op2 ixA) (eV 0) (eV 1)) (e2 (op2 ixA) (eV 0) (e2 (op2 subD) (eV 1) (eC (.int (1)))))))) (e2 (op2 ixA) (eV 0) (eV 1)))
noncomputable def F_stretches (Γ : Cfg) : List D → M D := runD 2 (B_stretches Γ)
noncomputable def B_island_ways (Γ : Cfg) : SM :=
  sRet (eIf (tV (e2 (op2 inD) (eCall (F_stretches Γ) [eV 0]) (eTup [eTup [eC (.str [97, 108, 108, 111, 119])], eTup [eC (.str [100, 101, 110, 121]), eC (.str [97, 108, 108, 111, 119]), eC (.str [100, 101, 110, 121])]]))) (eC (.str [97, 108, 108, 111, 119])) (eC (.str [100, 101, 110, 121])))
noncomputable def F_island_ways (Γ : Cfg) : List D → M D := runD 1 (B_island_ways Γ)
noncomputable def B_last (Γ : Cfg) : SM :=
  sRet (e2 (op2 ixA) (eV 0) (e1 (op1 negD) (eC (.int (1)))))
noncomputable def F_last (Γ : Cfg) : List D → M D := runD 1 (B_last Γ)
noncomputable def B_greater_voice (Γ : Cfg) : SM :=
  sSeq (sSet 1 (eTCount (eV 0) (eC (.str [97, 108, 108, 111, 119]))))
  (sSeq (sSet 2 (eTCount (eV 0) (eC (.str [100, 101, 110, 121]))))
  (sSeq (sIf (tV (e2 (op2 eqD) (eV 1) (eV 2))) (sRet (eC .non)) (sNil))
  (sRet (eIf (tV (e2 (op2 gtD) (eV 1) (eV 2))) (eC (.str [97, 108, 108, 111, 119])) (eC (.str [100, 101, 110, 121]))))))
noncomputable def F_greater_voice (Γ : Cfg) : List D → M D := runD 3 (B_greater_voice Γ)
noncomputable def B_most_or (Γ : Cfg) : SM :=
  sSeq (sSet 2 (eCall (F_greater_voice Γ) [eV 0]))
  (sRet (eIf (tV (e2 (op2 isD) (eV 2) (eC .non))) (eV 1) (eV 2)))
noncomputable def F_most_or (Γ : Cfg) : List D → M D := runD 3 (B_most_or Γ)
noncomputable def B_most_or_allow_ways (Γ : Cfg) : SM :=
  sRet (eCall (F_most_or Γ) [eV 0, eC (.str [97, 108, 108, 111, 119])])
noncomputable def F_most_or_allow_ways (Γ : Cfg) : List D → M D := runD 1 (B_most_or_allow_ways Γ)
noncomputable def B_most_or_deny_ways (Γ : Cfg) : SM :=
  sRet (eCall (F_most_or Γ) [eV 0, eC (.str [100, 101, 110, 121])])
noncomputable def F_most_or_deny_ways (Γ : Cfg) : List D → M D := runD 1 (B_most_or_deny_ways Γ)
noncomputable def B_most_or_first (Γ : Cfg) : SM :=
  sRet (eCall (F_most_or Γ) [eV 0, e2 (op2 ixA) (eV 0) (eC (.int (0)))])
noncomputable def F_most_or_first (Γ : Cfg) : List D → M D := runD 1 (B_most_or_first Γ)
noncomputable def B_most_or_last (Γ : Cfg) : SM :=
  sRet (eCall (F_most_or Γ) [eV 0, e2 (op2 ixA) (eV 0) (e1 (op1 negD) (eC (.int (1))))])
noncomputable def F_most_or_last (Γ : Cfg) : List D → M D := runD 1 (B_most_or_last Γ)
noncomputable def B_odd (Γ : Cfg) : SM :=
  sRet (eIf (tV (e2 (op2 eqD) (e2 (op2 modD) (eTCount (eV 0) (eC (.str [100, 101, 110, 121]))) (eC (.int (2)))) (eC (.int (1))))) (eC (.str [100, 101, 110, 121])) (eC (.str [97, 108, 108, 111, 119])))
noncomputable def F_odd (Γ : Cfg) : List D → M D := runD 1 (B_odd Γ)
noncomputable def B_turned (Γ : Cfg) : SM :=
  sRet (eIf (tV (e2 (op2 eqD) (eV 0) (eC (.str [97, 108, 108, 111, 119])))) (eC (.str [100, 101, 110, 121])) (eC (.str [97, 108, 108, 111, 119])))
noncomputable def F_turned (Γ : Cfg) : List D → M D := runD 1 (B_turned Γ)
noncomputable def B_turned_at (Γ : Cfg) : SM :=
  sRet (e2 (op2 addD) (e2 (op2 addD) (eSl (eV 0) pNo (pSo (eV 1))) (eTup [eCall (F_turned Γ) [e2 (op2 ixA) (eV 0) (eV 1)]])) (eSl (eV 0) (pSo (e2 (op2 addD) (eV 1) (eC (.int (1))))) pNo))
noncomputable def F_turned_at (Γ : Cfg) : List D → M D := runD 2 (B_turned_at Γ)
noncomputable def B_check_way (Γ : Cfg) : SM :=
  sIf (tV (e2 (op2 notInD) (eV 0) (eC w_WAYS))) (sRz Γ "BadWay") (sNil)
noncomputable def F_check_way (Γ : Cfg) : List D → M D := runD 1 (B_check_way Γ)
noncomputable def B_first_wrong (Γ : Cfg) : SM :=
  sSeq (sForP 1 2 (iEn (eV 0)) (sIf (tV (e2 (op2 notInD) (eV 2) (eC w_VOICES))) (sRet (eV 1)) (sNil)))
  (sRet (eC .non))
noncomputable def F_first_wrong (Γ : Cfg) : List D → M D := runD 3 (B_first_wrong Γ)
noncomputable def B_check_row (Γ : Cfg) : SM :=
  sSeq (sIf (tOr (tNot (tV (e1 (op1 (isiD ["tuple"])) (eV 0)))) (tNot (tV (eChain (op2 leD) (op2 leD) (eC (.int (1))) (e1 (op1 lenD) (eV 0)) (eC (.int (12))))))) (sBad) (sNil))
  (sSeq (sSet 1 (eCall (F_first_wrong Γ) [eV 0]))
  (sIf (tV (e2 (op2 isNotD) (eV 1) (eC .non))) (sBad) (sNil)))
noncomputable def F_check_row (Γ : Cfg) : List D → M D := runD 2 (B_check_row Γ)
noncomputable def B_check_text (Γ : Cfg) : SM :=
  sIf (tNot (tV (e1 (op1 (isiD ["str"])) (eV 0)))) (sRz Γ "NotText") (sNil)
noncomputable def F_check_text (Γ : Cfg) : List D → M D := runD 1 (B_check_text Γ)
noncomputable def B_text_of (Γ : Cfg) : SM :=
  sRet (eJoinG [] 1 (iS (eV 0)) (tYesD) (e1 (op1 (tblD (tb_SIGN_OF))) (eV 1)))
noncomputable def F_text_of (Γ : Cfg) : List D → M D := runD 2 (B_text_of Γ)
noncomputable def fs_ANSWERS (Γ : Cfg) : Nat → Option (List D → M D)
  | 0 => some (F_allow_over Γ)
  | 1 => some (F_always_allow Γ)
  | 2 => some (F_always_deny Γ)
  | 3 => some (F_both_ends_ways Γ)
  | 4 => some (F_deny_over Γ)
  | 5 => some (F_first Γ)
  | 6 => some (F_island_ways Γ)
  | 7 => some (F_last Γ)
  | 8 => some (F_most_or_allow_ways Γ)
  | 9 => some (F_most_or_deny_ways Γ)
  | 10 => some (F_most_or_first Γ)
  | 11 => some (F_most_or_last Γ)
  | 12 => some (F_odd Γ)
  | _ => none
noncomputable def B_told_answer (Γ : Cfg) : SM :=
  sSeq (sSet 2 (e1 (op1 (tblD (tb_ANSWERS Γ))) (eV 0)))
  (sRet (eCallN Γ.A (fs_ANSWERS Γ) 2 [eV 1]))
noncomputable def F_told_answer (Γ : Cfg) : List D → M D := runD 3 (B_told_answer Γ)
noncomputable def B_answer (Γ : Cfg) : SM :=
  sSeq (sEx (eCall (F_check_way Γ) [eV 0]))
  (sSeq (sEx (eCall (F_check_row Γ) [eV 1]))
  (sRet (eCall (F_told_answer Γ) [eV 0, eV 1])))
noncomputable def F_answer (Γ : Cfg) : List D → M D := runD 2 (B_answer Γ)
noncomputable def B_matters (Γ : Cfg) : SM :=
  sSeq (sSet 2 (eCall (F_answer Γ) [eV 0, eV 1]))
  (sRet (eTupG 3 (iR1 (e1 (op1 lenD) (eV 1))) (tV (e2 (op2 neD) (eCall (F_told_answer Γ) [eV 0, eCall (F_turned_at Γ) [eV 1, eV 3]]) (eV 2))) (eV 3)))
noncomputable def F_matters (Γ : Cfg) : List D → M D := runD 4 (B_matters Γ)
noncomputable def B_law_taken (Γ : Cfg) : SM :=
  sSeq (sIf (tV (e2 (op2 gtD) (eRowG 0 3) (eC (.int (0))))) (sSeq (sSet 2 (e2 (op2 modD) (e1 (op1 intD) (eRowG 0 3)) (eV 1)))
    (sSeq (sRow 0 3 (e2 (op2 fdivD) (eRowG 0 3) (eV 1)))
    (sRet (eV 2)))) (sNil))
  (sSeq (sRow 0 1 (e2 (op2 addD) (eRowG 0 1) (eC (.int (1)))))
  (sSeq (sIf (tV (e2 (op2 gtD) (eRowG 0 1) (eRowL 0))) (sSeq (sRow 0 2 (e2 (op2 modD) (e1 (op1 intD) (e2 (op2 addD) (e2 (op2 mulI) (eRowG 0 2) (eC (.int (48271)))) (eC (.int (11))))) (eC (.int (2147483647)))))
    (sRet (e2 (op2 modD) (e1 (op1 intD) (e2 (op2 fdivD) (eRowG 0 2) (eC (.int (7))))) (eV 1)))) (sNil))
  (sSeq (sSet 3 (eRowC 0 (e2 (op2 subD) (eRowG 0 1) (eC (.int (1))))))
  (sSeq (sRow 0 2 (e2 (op2 modD) (e1 (op1 intD) (e2 (op2 addD) (e2 (op2 addD) (e2 (op2 mulI) (eRowG 0 2) (eC (.int (48271)))) (eV 3)) (eC (.int (11))))) (eC (.int (2147483647)))))
  (sSeq (sIf (tV (e2 (op2 geD) (eV 3) (e2 (op2 powD) (eC (.int (10))) (eC (.int (18)))))) (sRow 0 3 (e2 (op2 fdivD) (eV 3) (eV 1))) (sNil))
  (sRet (e2 (op2 modD) (e1 (op1 intD) (eV 3)) (eV 1))))))))
noncomputable def F_law_taken (Γ : Cfg) : List D → M D := runD 4 (B_law_taken Γ)
noncomputable def B_law_pick (Γ : Cfg) : SM :=
  sRet (e2 (op2 ixA) (eV 1) (eCall (F_law_taken Γ) [eV 0, e1 (op1 lenD) (eV 1)]))
noncomputable def F_law_pick (Γ : Cfg) : List D → M D := runD 2 (B_law_pick Γ)
noncomputable def B_law_alike (Γ : Cfg) (FR : List D → M D) : SM :=
  sSeq (sIf (tV (e1 (op1 (isiD ["tuple", "list"])) (eV 1))) (sSeq (sIf (tOr (tNot (tV (e1 (op1 (isiD ["tuple", "list"])) (eV 0)))) (tV (e2 (op2 neD) (e1 (op1 (isiD ["list"])) (eV 0)) (e1 (op1 (isiD ["list"])) (eV 1))))) (sRet (eC (.bl false))) (sNil))
    (sSeq (sIf (tV (e2 (op2 neD) (e1 (op1 lenD) (eV 0)) (e1 (op1 lenD) (eV 1)))) (sRet (eC (.bl false))) (sNil))
    (sRet (e2 (op2 eqD) (eLc 2 (iR1 (e1 (op1 lenD) (eV 1))) (tNot (tV (eCall FR [e2 (op2 ixA) (eV 0) (eV 2), e2 (op2 ixA) (eV 1) (eV 2)]))) (eV 2)) (eLst []))))) (sNil))
  (sSeq (sIf (tOr (tV (e2 (op2 isD) (eV 1) (eC .non))) (tV (e1 (op1 (isiD ["str"])) (eV 1)))) (sRet (eAnd (e2 (op2 eqD) (eV 0) (eV 1)) (e2 (op2 eqD) (e1 (op1 (isiD ["str"])) (eV 0)) (e1 (op1 (isiD ["str"])) (eV 1))))) (sNil))
  (sRet (eAnd (e1 (op1 (isiD ["int"])) (eV 0)) (eAnd (e2 (op2 eqD) (e1 (op1 (isiD ["bool"])) (eV 0)) (e1 (op1 (isiD ["bool"])) (eV 1))) (e2 (op2 eqD) (eV 0) (eV 1))))))
noncomputable def F_law_alike (Γ : Cfg) : Nat → List D → M D
  | 0 => fun _ => mbad
  | n + 1 => runD 3 (B_law_alike Γ (F_law_alike Γ n))
noncomputable def B_law_ways (Γ : Cfg) : SM :=
  sRet (eLst [eC (.str [97, 108, 108, 111, 119, 32, 111, 118, 101, 114]), eC (.str [97, 108, 119, 97, 121, 115, 32, 97, 108, 108, 111, 119]), eC (.str [97, 108, 119, 97, 121, 115, 32, 100, 101, 110, 121]), eC (.str [98, 111, 116, 104, 32, 101, 110, 100, 115]), eC (.str [100, 101, 110, 121, 32, 111, 118, 101, 114]), eC (.str [102, 105, 114, 115, 116]), eC (.str [105, 115, 108, 97, 110, 100]), eC (.str [108, 97, 115, 116]), eC (.str [109, 111, 115, 116, 32, 111, 114, 32, 97, 108, 108, 111, 119]), eC (.str [109, 111, 115, 116, 32, 111, 114, 32, 100, 101, 110, 121]), eC (.str [109, 111, 115, 116, 32, 111, 114, 32, 102, 105, 114, 115, 116]), eC (.str [109, 111, 115, 116, 32, 111, 114, 32, 108, 97, 115, 116]), eC (.str [111, 100, 100])])
noncomputable def F_law_ways (Γ : Cfg) : List D → M D := runD 0 (B_law_ways Γ)
noncomputable def B_law_turned (Γ : Cfg) : SM :=
  sRet (eM1 joinD (eC (.str [])) (eLc 1 (iS (eV 0)) (tYesD) (eIf (tV (e2 (op2 eqD) (eV 1) (eC (.str [43])))) (eC (.str [45])) (eC (.str [43])))))
noncomputable def F_law_turned (Γ : Cfg) : List D → M D := runD 2 (B_law_turned Γ)
noncomputable def B_law_answer (Γ : Cfg) : SM :=
  sSeq (sSet 2 (e2 (op2 subD) (eM1 countS (eV 1) (eC (.str [43]))) (eM1 countS (eV 1) (eC (.str [45])))))
  (sSeq (sIf (tV (e2 (op2 eqD) (eSl (eV 0) pNo (pSo (eC (.int (7))))) (eC (.str [109, 111, 115, 116, 32, 111, 114])))) (sSeq (sSet 3 (eDisp [([97, 108, 108, 111, 119], eC (.str [43])), ([100, 101, 110, 121], eC (.str [45])), ([102, 105, 114, 115, 116], e2 (op2 ixA) (eV 1) (eC (.int (0)))), ([108, 97, 115, 116], e2 (op2 ixA) (eV 1) (e1 (op1 negD) (eC (.int (1)))))]))
    (sRet (eIf (tV (e2 (op2 eqD) (eV 2) (eC (.int (0))))) (e2 (op2 ixA) (eV 3) (eSl (eV 0) (pSo (eC (.int (8)))) pNo)) (eIf (tV (e2 (op2 gtD) (eV 2) (eC (.int (0))))) (eC (.str [43])) (eC (.str [45])))))) (sNil))
  (sSeq (sIf (tV (e2 (op2 inD) (eV 0) (eLst [eC (.str [102, 105, 114, 115, 116]), eC (.str [108, 97, 115, 116])]))) (sRet (e2 (op2 ixA) (eV 1) (eIf (tV (e2 (op2 eqD) (eV 0) (eC (.str [102, 105, 114, 115, 116])))) (eC (.int (0))) (e2 (op2 subD) (e1 (op1 lenD) (eV 1)) (eC (.int (1))))))) (sNil))
  (sSeq (sSet 4 (e2 (op2 eqD) (eV 0) (eC (.str [97, 108, 119, 97, 121, 115, 32, 97, 108, 108, 111, 119]))))
  (sSeq (sIf (tV (e2 (op2 eqD) (eV 0) (eC (.str [97, 108, 108, 111, 119, 32, 111, 118, 101, 114])))) (sSet 4 (e2 (op2 gtD) (eM1 countS (eV 1) (eC (.str [43]))) (eC (.int (0))))) (sNil))
  (sSeq (sIf (tV (e2 (op2 eqD) (eV 0) (eC (.str [100, 101, 110, 121, 32, 111, 118, 101, 114])))) (sSet 4 (e2 (op2 eqD) (eM1 countS (eV 1) (eC (.str [45]))) (eC (.int (0))))) (sNil))
  (sSeq (sIf (tV (e2 (op2 eqD) (eV 0) (eC (.str [111, 100, 100])))) (sSet 4 (e2 (op2 inD) (eM1 countS (eV 1) (eC (.str [45]))) (eLst [eC (.int (0)), eC (.int (2)), eC (.int (4)), eC (.int (6)), eC (.int (8)), eC (.int (10)), eC (.int (12))]))) (sNil))
  (sSeq (sIf (tV (e2 (op2 eqD) (eV 0) (eC (.str [98, 111, 116, 104, 32, 101, 110, 100, 115])))) (sSet 4 (e2 (op2 eqD) (e2 (op2 addD) (eSl (eV 1) pNo (pSo (eC (.int (1))))) (eSl (eV 1) (pSo (e1 (op1 negD) (eC (.int (1))))) pNo)) (eC (.str [43, 43])))) (sNil))
  (sSeq (sIf (tV (e2 (op2 eqD) (eV 0) (eC (.str [105, 115, 108, 97, 110, 100])))) (sSeq (sSet 5 (eLc 6 (iR2 (eC (.int (1))) (e1 (op1 lenD) (eV 1))) (tV (e2 (op2 neD) (e2 (op2 ixA) (eV 1) (eV 6)) (e2 (op2 ixA) (eV 1) (e2 (op2 subD) (eV 6) (eC (.int (1))))))) (eV 6)))
    (sSet 4 (eOr (eAnd (e2 (op2 eqD) (e2 (op2 ixA) (eV 1) (eC (.int (0)))) (eC (.str [43]))) (e2 (op2 eqD) (eV 5) (eLst []))) (eAnd (e2 (op2 eqD) (e2 (op2 ixA) (eV 1) (eC (.int (0)))) (eC (.str [45]))) (e2 (op2 eqD) (e1 (op1 lenD) (eV 5)) (eC (.int (2)))))))) (sNil))
  (sRet (eIf (tV (eV 4)) (eC (.str [43])) (eC (.str [45]))))))))))))
noncomputable def F_law_answer (Γ : Cfg) : List D → M D := runD 7 (B_law_answer Γ)
noncomputable def B_law_word (Γ : Cfg) : SM :=
  sRet (e2 (op2 ixA) (eDisp [([43], eC (.str [97, 108, 108, 111, 119])), ([45], eC (.str [100, 101, 110, 121]))]) (eV 0))
noncomputable def F_law_word (Γ : Cfg) : List D → M D := runD 1 (B_law_word Γ)
noncomputable def B_law_voices (Γ : Cfg) : SM :=
  sRet (e1 (op1 tupD) (eLc 1 (iS (eV 0)) (tYesD) (eCall (F_law_word Γ) [eV 1])))
noncomputable def F_law_voices (Γ : Cfg) : List D → M D := runD 2 (B_law_voices Γ)
noncomputable def B_law_flip (Γ : Cfg) : SM :=
  sRet (e2 (op2 addD) (e2 (op2 addD) (eSl (eV 0) pNo (pSo (eV 1))) (eCall (F_law_turned Γ) [e2 (op2 ixA) (eV 0) (eV 1)])) (eSl (eV 0) (pSo (e2 (op2 addD) (eV 1) (eC (.int (1))))) pNo))
noncomputable def F_law_flip (Γ : Cfg) : List D → M D := runD 2 (B_law_flip Γ)
-- law_told_u (k09): Try
noncomputable def B_desk_row (Γ : Cfg) : SM :=
  sRet (eFldD "_row" (eV 0))
noncomputable def F_desk_row (Γ : Cfg) : List D → M D := runD 1 (B_desk_row Γ)
noncomputable def B_desk_answer (Γ : Cfg) : SM :=
  sRet (eFldD "_answer" (eV 0))
noncomputable def F_desk_answer (Γ : Cfg) : List D → M D := runD 1 (B_desk_answer Γ)
noncomputable def B_desk_keep (Γ : Cfg) : SM :=
  sSeq (sFldS "_row" (eV 0) (eV 1))
  (sFldS "_answer" (eV 0) (eIf (tV (e2 (op2 eqD) (e1 (op1 lenD) (eV 1)) (eC (.int (0))))) (eC .non) (eCall (F_told_answer Γ) [eFldD "_way" (eV 0), eV 1])))
noncomputable def F_desk_keep (Γ : Cfg) : List D → M D := runD 2 (B_desk_keep Γ)
noncomputable def B_desk_add (Γ : Cfg) : SM :=
  sSeq (sIf (tV (e2 (op2 eqD) (e1 (op1 lenD) (eFldD "_row" (eV 0))) (eC (.int (12))))) (sRz Γ "NotNow") (sNil))
  (sEx (eMeth "_keep" (F_desk_keep Γ) (eV 0) [e2 (op2 addD) (eFldD "_row" (eV 0)) (eTup [eV 1])]))
noncomputable def F_desk_add (Γ : Cfg) : List D → M D := runD 2 (B_desk_add Γ)
noncomputable def B_desk_places (Γ : Cfg) : SM :=
  sSeq (sSet 1 (eIf (tV (e2 (op2 eqD) (e1 (op1 lenD) (eFldD "_row" (eV 0))) (eC (.int (0))))) (eTup []) (eCall (F_matters Γ) [eFldD "_way" (eV 0), eFldD "_row" (eV 0)])))
  (sRet (eIf (tV (e2 (op2 eqD) (e1 (op1 lenD) (eV 1)) (eC (.int (0))))) (eC (.str [110, 111, 110, 101])) (eJoinG [32] 2 (iS (eV 1)) (tYesD) (e1 (op1 strI) (eV 2)))))
noncomputable def F_desk_places (Γ : Cfg) : List D → M D := runD 3 (B_desk_places Γ)
noncomputable def B_desk_run (Γ : Cfg) : SM :=
  sSeq (sEx (eCall (F_check_text Γ) [eV 1]))
  (sSeq (sIf (tV (e2 (op2 inD) (eV 1) (eC w_VOICES))) (sSeq (sEx (eMeth "_add" (F_desk_add Γ) (eV 0) [eV 1]))
    (sRet (eC .non))) (sNil))
  (sSeq (sIf (tV (e2 (op2 eqD) (eV 1) (eC (.str [114, 111, 119])))) (sRet (eCall (F_text_of Γ) [eFldD "_row" (eV 0)])) (sNil))
  (sSeq (sIf (tV (e2 (op2 eqD) (eV 1) (eC (.str [97, 110, 115, 119, 101, 114])))) (sRet (eIf (tV (e2 (op2 isD) (eFldD "_answer" (eV 0)) (eC .non))) (eC (.str [110, 111, 110, 101])) (eFldD "_answer" (eV 0)))) (sNil))
  (sSeq (sIf (tV (e2 (op2 eqD) (eV 1) (eC (.str [109, 97, 116, 116, 101, 114, 115])))) (sRet (eMeth "_places" (F_desk_places Γ) (eV 0) [])) (sNil))
  (sRz Γ "InvalidText")))))
noncomputable def F_desk_run (Γ : Cfg) : List D → M D := runD 2 (B_desk_run Γ)
noncomputable def B_law_shown (Γ : Cfg) : SM :=
  sSeq (sSet 3 (eIf (tV (e2 (op2 neD) (eV 2) (eC (.str [])))) (eCall (F_law_answer Γ) [eV 1, eV 2]) (eC .non)))
  (sSeq (sIf (tNot (tV (eCall (F_law_alike Γ 3) [eLst [eProp (F_desk_row Γ) (eV 0), eProp (F_desk_answer Γ) (eV 0)], eLst [eCall (F_law_voices Γ) [eV 2], eIf (tV (e2 (op2 isNotD) (eV 3) (eC .non))) (eCall (F_law_word Γ) [eV 3]) (eC .non)]]))) (sRet (eC (.bl false))) (sNil))
  (sSeq (sIf (tOr (tV (e2 (op2 neD) (eMeth "run" (F_desk_run Γ) (eV 0) [eC (.str [114, 111, 119])]) (eV 2))) (tV (e2 (op2 neD) (eMeth "run" (F_desk_run Γ) (eV 0) [eC (.str [97, 110, 115, 119, 101, 114])]) (eIf (tV (e2 (op2 isNotD) (eV 3) (eC .non))) (eCall (F_law_word Γ) [eV 3]) (eC (.str [110, 111, 110, 101])))))) (sRet (eC (.bl false))) (sNil))
  (sSeq (sSet 4 (eLc 5 (iR1 (e1 (op1 lenD) (eV 2))) (tV (e2 (op2 neD) (eCall (F_law_answer Γ) [eV 1, eCall (F_law_flip Γ) [eV 2, eV 5]]) (eV 3))) (e1 (op1 strI) (eV 5))))
  (sRet (e2 (op2 eqD) (eMeth "run" (F_desk_run Γ) (eV 0) [eC (.str [109, 97, 116, 116, 101, 114, 115])]) (eIf (tV (e2 (op2 neD) (eV 4) (eLst []))) (eM1 joinD (eC (.str [32])) (eV 4)) (eC (.str [110, 111, 110, 101]))))))))
noncomputable def F_law_shown (Γ : Cfg) : List D → M D := runD 6 (B_law_shown Γ)
noncomputable def B_desk_init (Γ : Cfg) : SM :=
  sSeq (sEx (eCall (F_check_way Γ) [eV 1]))
  (sSeq (sFldS "_way" (eV 0) (eV 1))
  (sSeq (sFldS "_row" (eV 0) (eTup []))
  (sFldS "_answer" (eV 0) (eC .non))))
noncomputable def F_desk_init (Γ : Cfg) : List D → M D := runD 2 (B_desk_init Γ)
noncomputable def B_desk_undo (Γ : Cfg) : SM :=
  sSeq (sIf (tV (e2 (op2 eqD) (e1 (op1 lenD) (eFldD "_row" (eV 0))) (eC (.int (0))))) (sRz Γ "NothingToUndo") (sNil))
  (sEx (eMeth "_keep" (F_desk_keep Γ) (eV 0) [eSl (eFldD "_row" (eV 0)) pNo (pSo (e1 (op1 negD) (eC (.int (1)))))]))
noncomputable def F_desk_undo (Γ : Cfg) : List D → M D := runD 1 (B_desk_undo Γ)
end C
set_option Elab.async false
set_option linter.all false
set_option maxRecDepth 100000
set_option maxHeartbeats 0

namespace F09
open PySem PySem.Spec PyProof.Rows L2 DL C
def topS (i : Nat) : Stmt := PySem.Challenge.pw_rulevoices_k09_whole_desks.main.body.getD i (.Pass ⟨0, 0, 0, 0⟩)
abbrev s_allow_over : Stmt := topS 31
abbrev s_always_allow : Stmt := topS 29
abbrev s_always_deny : Stmt := topS 30
abbrev s_both_ends_ways : Stmt := topS 39
abbrev s_deny_over : Stmt := topS 32
abbrev s_first : Stmt := topS 27
abbrev s_stretches : Stmt := topS 16
abbrev s_island_ways : Stmt := topS 40
abbrev s_last : Stmt := topS 28
abbrev s_greater_voice : Stmt := topS 15
abbrev s_most_or : Stmt := topS 37
abbrev s_most_or_allow_ways : Stmt := topS 33
abbrev s_most_or_deny_ways : Stmt := topS 34
abbrev s_most_or_first : Stmt := topS 35
abbrev s_most_or_last : Stmt := topS 36
abbrev s_odd : Stmt := topS 38
abbrev s_turned : Stmt := topS 13
abbrev s_turned_at : Stmt := topS 14
abbrev s_check_way : Stmt := topS 19
abbrev s_first_wrong : Stmt := topS 22
abbrev s_check_row : Stmt := topS 20
abbrev s_check_text : Stmt := topS 21
abbrev s_text_of : Stmt := topS 25
abbrev s_told_answer : Stmt := topS 42
abbrev s_answer : Stmt := topS 43
abbrev s_matters : Stmt := topS 44
abbrev s_law_taken : Stmt := topS 48
abbrev s_law_pick : Stmt := topS 49
abbrev s_law_alike : Stmt := topS 50
abbrev s_law_ways : Stmt := topS 51
abbrev s_law_turned : Stmt := topS 52
abbrev s_law_answer : Stmt := topS 53
abbrev s_law_word : Stmt := topS 54
abbrev s_law_voices : Stmt := topS 55
abbrev s_law_flip : Stmt := topS 56
abbrev s_law_told_u : Stmt := topS 57
abbrev s_desk_row : Stmt := inClass (topS 46) 3
abbrev s_desk_answer : Stmt := inClass (topS 46) 4
abbrev s_desk_keep : Stmt := inClass (topS 46) 6
abbrev s_desk_add : Stmt := inClass (topS 46) 5
abbrev s_desk_places : Stmt := inClass (topS 46) 7
abbrev s_desk_run : Stmt := inClass (topS 46) 1
abbrev s_law_shown : Stmt := topS 58
abbrev s_desk_init : Stmt := inClass (topS 46) 0
abbrev s_desk_undo : Stmt := inClass (topS 46) 2
abbrev s_law : Stmt := topS 59
def fa0 : List He.Fa := [.glo "_allow_over",
  .glo "_always_allow",
  .glo "_always_deny",
  .glo "_both_ends",
  .glo "_deny_over",
  .glo "_first",
  .glo "stretches",
  .glo "_island",
  .glo "_last",
  .glo "greater_voice",
  .glo "_most_or",
  .glo "_most_or_allow",
  .glo "_most_or_deny",
  .glo "_most_or_first",
  .glo "_most_or_last",
  .glo "_odd",
  .glo "turned",
  .glo "turned_at",
  .glo "check_way",
  .glo "_first_wrong"]
def fa1 : List He.Fa := [.glo "check_row",
  .glo "check_text",
  .glo "text_of",
  .glo "told_answer",
  .glo "answer",
  .glo "matters",
  .glo "_law_taken",
  .glo "_law_pick",
  .glo "_law_alike",
  .glo "_law_ways",
  .glo "_law_turned",
  .glo "_law_answer",
  .glo "_law_word",
  .glo "_law_voices",
  .glo "_law_flip",
  .glo "_law_told",
  .meth "Desk" "_keep",
  .meth "Desk" "_add",
  .meth "Desk" "_places",
  .meth "Desk" "run"]
def fa2 : List He.Fa := [.glo "_law_shown",
  .mkr "Desk",
  .meth "Desk" "undo",
  .glo "law",
  .str "ALLOW" (ST [97, 108, 108, 111, 119]),
  .str "DENY" (ST [100, 101, 110, 121]),
  .int "MOST_VOICES" (12),
  .free "range",
  .free "len",
  .free "tuple",
  .free "isinstance",
  .free "enumerate",
  .free "str",
  .free "int",
  .free "list",
  .free "bool",
  .glo "Desk",
  .cls "Desk",
  .noat "Desk" "_way",
  .noat "Desk" "_row"]
def fa3 : List He.Fa := [.noat "Desk" "_answer",
  .glo "_SIGN_OF",
  .glo "_ANSWERS",
  .glo "VoiceError",
  .glo "InvalidText",
  .glo "NotNow",
  .glo "NotText",
  .glo "NothingToUndo",
  .exm "InvalidText" "VoiceError" true,
  .exm "NotNow" "VoiceError" true,
  .exm "NotText" "VoiceError" true,
  .exm "NothingToUndo" "VoiceError" true,
  .exc "NotText",
  .exc "NotNow",
  .exc "InvalidText",
  .exc "NothingToUndo"]
def ex0 : List (PySem.W.Frag → Bool) := [fun K => HY.propB K "Desk" "row",
  fun K => HY.propB K "Desk" "answer",
  fun K => HY.conB K "WAYS" w_WAYS,
  fun K => HY.conB K "VOICES" w_VOICES,
  fun K => HY.tabVB K (He.ga K "_SIGN_OF") tb_SIGN_OF,
  fun K => HY.tabVB K (He.ga K "_ANSWERS") [([97, 108, 108, 111, 119, 32, 111, 118, 101, 114], .fn 0 (He.fAd K ("_allow_over", none))), ([97, 108, 119, 97, 121, 115, 32, 97, 108, 108, 111, 119], .fn 1 (He.fAd K ("_always_allow", none))), ([97, 108, 119, 97, 121, 115, 32, 100, 101, 110, 121], .fn 2 (He.fAd K ("_always_deny", none))), ([98, 111, 116, 104, 32, 101, 110, 100, 115], .fn 3 (He.fAd K ("_both_ends", none))), ([100, 101, 110, 121, 32, 111, 118, 101, 114], .fn 4 (He.fAd K ("_deny_over", none))), ([102, 105, 114, 115, 116], .fn 5 (He.fAd K ("_first", none))), ([105, 115, 108, 97, 110, 100], .fn 6 (He.fAd K ("_island", none))), ([108, 97, 115, 116], .fn 7 (He.fAd K ("_last", none))), ([109, 111, 115, 116, 32, 111, 114, 32, 97, 108, 108, 111, 119], .fn 8 (He.fAd K ("_most_or_allow", none))), ([109, 111, 115, 116, 32, 111, 114, 32, 100, 101, 110, 121], .fn 9 (He.fAd K ("_most_or_deny", none))), ([109, 111, 115, 116, 32, 111, 114, 32, 102, 105, 114, 115, 116], .fn 10 (He.fAd K ("_most_or_first", none))), ([109, 111, 115, 116, 32, 111, 114, 32, 108, 97, 115, 116], .fn 11 (He.fAd K ("_most_or_last", none))), ([111, 100, 100], .fn 12 (He.fAd K ("_odd", none)))],
  fun K => HY.kitB1 K "InvalidText" "InvalidText" true,
  fun K => HY.kitB1 K "InvalidText" "NotNow" false,
  fun K => HY.kitB1 K "InvalidText" "NotText" false,
  fun K => HY.kitB1 K "InvalidText" "NothingToUndo" false,
  fun K => HY.excCB K "InvalidText",
  fun K => HY.kitB1 K "NotNow" "InvalidText" false,
  fun K => HY.kitB1 K "NotNow" "NotNow" true,
  fun K => HY.kitB1 K "NotNow" "NotText" false,
  fun K => HY.kitB1 K "NotNow" "NothingToUndo" false,
  fun K => HY.excCB K "NotNow",
  fun K => HY.kitB1 K "NotText" "InvalidText" false,
  fun K => HY.kitB1 K "NotText" "NotNow" false,
  fun K => HY.kitB1 K "NotText" "NotText" true,
  fun K => HY.kitB1 K "NotText" "NothingToUndo" false]
def ex1 : List (PySem.W.Frag → Bool) := [fun K => HY.excCB K "NotText",
  fun K => HY.kitB1 K "NothingToUndo" "InvalidText" false,
  fun K => HY.kitB1 K "NothingToUndo" "NotNow" false,
  fun K => HY.kitB1 K "NothingToUndo" "NotText" false,
  fun K => HY.kitB1 K "NothingToUndo" "NothingToUndo" true,
  fun K => HY.excCB K "NothingToUndo",
  fun K => ([("stretches", none), ("text_of", none), ("matters", none), ("Desk", some "_places")] : List He.Defn).all fun p => decide ((He.cT K p).2 ≠ (He.cT K ("law", none)).2)]
def fs0 : List HY.FnA := [⟨fun K => (He.fAd K ("_allow_over", none)), "_allow_over", "_allow_over", s_allow_over⟩,
  ⟨fun K => (He.fAd K ("_always_allow", none)), "_always_allow", "_always_allow", s_always_allow⟩,
  ⟨fun K => (He.fAd K ("_always_deny", none)), "_always_deny", "_always_deny", s_always_deny⟩,
  ⟨fun K => (He.fAd K ("_both_ends", none)), "_both_ends", "_both_ends", s_both_ends_ways⟩,
  ⟨fun K => (He.fAd K ("_deny_over", none)), "_deny_over", "_deny_over", s_deny_over⟩,
  ⟨fun K => (He.fAd K ("_first", none)), "_first", "_first", s_first⟩,
  ⟨fun K => (He.fAd K ("stretches", none)), "stretches", "stretches", s_stretches⟩,
  ⟨fun K => (He.fAd K ("_island", none)), "_island", "_island", s_island_ways⟩,
  ⟨fun K => (He.fAd K ("_last", none)), "_last", "_last", s_last⟩,
  ⟨fun K => (He.fAd K ("greater_voice", none)), "greater_voice", "greater_voice", s_greater_voice⟩,
  ⟨fun K => (He.fAd K ("_most_or", none)), "_most_or", "_most_or", s_most_or⟩,
  ⟨fun K => (He.fAd K ("_most_or_allow", none)), "_most_or_allow", "_most_or_allow", s_most_or_allow_ways⟩,
  ⟨fun K => (He.fAd K ("_most_or_deny", none)), "_most_or_deny", "_most_or_deny", s_most_or_deny_ways⟩,
  ⟨fun K => (He.fAd K ("_most_or_first", none)), "_most_or_first", "_most_or_first", s_most_or_first⟩,
  ⟨fun K => (He.fAd K ("_most_or_last", none)), "_most_or_last", "_most_or_last", s_most_or_last⟩,
  ⟨fun K => (He.fAd K ("_odd", none)), "_odd", "_odd", s_odd⟩,
  ⟨fun K => (He.fAd K ("turned", none)), "turned", "turned", s_turned⟩,
  ⟨fun K => (He.fAd K ("turned_at", none)), "turned_at", "turned_at", s_turned_at⟩,
  ⟨fun K => (He.fAd K ("check_way", none)), "check_way", "check_way", s_check_way⟩,
  ⟨fun K => (He.fAd K ("_first_wrong", none)), "_first_wrong", "_first_wrong", s_first_wrong⟩]
def fs1 : List HY.FnA := [⟨fun K => (He.fAd K ("check_row", none)), "check_row", "check_row", s_check_row⟩,
  ⟨fun K => (He.fAd K ("check_text", none)), "check_text", "check_text", s_check_text⟩,
  ⟨fun K => (He.fAd K ("text_of", none)), "text_of", "text_of", s_text_of⟩,
  ⟨fun K => (He.fAd K ("told_answer", none)), "told_answer", "told_answer", s_told_answer⟩,
  ⟨fun K => (He.fAd K ("answer", none)), "answer", "answer", s_answer⟩,
  ⟨fun K => (He.fAd K ("matters", none)), "matters", "matters", s_matters⟩,
  ⟨fun K => (He.fAd K ("_law_taken", none)), "_law_taken", "_law_taken", s_law_taken⟩,
  ⟨fun K => (He.fAd K ("_law_pick", none)), "_law_pick", "_law_pick", s_law_pick⟩,
  ⟨fun K => (He.fAd K ("_law_alike", none)), "_law_alike", "_law_alike", s_law_alike⟩,
  ⟨fun K => (He.fAd K ("_law_ways", none)), "_law_ways", "_law_ways", s_law_ways⟩,
  ⟨fun K => (He.fAd K ("_law_turned", none)), "_law_turned", "_law_turned", s_law_turned⟩,
  ⟨fun K => (He.fAd K ("_law_answer", none)), "_law_answer", "_law_answer", s_law_answer⟩,
  ⟨fun K => (He.fAd K ("_law_word", none)), "_law_word", "_law_word", s_law_word⟩,
  ⟨fun K => (He.fAd K ("_law_voices", none)), "_law_voices", "_law_voices", s_law_voices⟩,
  ⟨fun K => (He.fAd K ("_law_flip", none)), "_law_flip", "_law_flip", s_law_flip⟩,
  ⟨fun K => (He.fAd K ("_law_told", none)), "_law_told", "_law_told", s_law_told_u⟩,
  ⟨fun K => (HY.pgA "Desk" "row" K), "row", "Desk.row", s_desk_row⟩,
  ⟨fun K => (HY.pgA "Desk" "answer" K), "answer", "Desk.answer", s_desk_answer⟩,
  ⟨fun K => (He.fAd K ("Desk", some "_keep")), "_keep", "Desk._keep", s_desk_keep⟩,
  ⟨fun K => (He.fAd K ("Desk", some "_add")), "_add", "Desk._add", s_desk_add⟩]
def fs2 : List HY.FnA := [⟨fun K => (He.fAd K ("Desk", some "_places")), "_places", "Desk._places", s_desk_places⟩,
  ⟨fun K => (He.fAd K ("Desk", some "run")), "run", "Desk.run", s_desk_run⟩,
  ⟨fun K => (He.fAd K ("_law_shown", none)), "_law_shown", "_law_shown", s_law_shown⟩,
  ⟨fun K => (He.fAd K ("Desk", some "__init__")), "__init__", "Desk.__init__", s_desk_init⟩,
  ⟨fun K => (He.fAd K ("Desk", some "undo")), "undo", "Desk.undo", s_desk_undo⟩,
  ⟨fun K => (He.fAd K ("law", none)), "law", "law", s_law⟩]
def tsL : List He.Tab := [(fun K => He.ga K "_SIGN_OF", ([[97, 108, 108, 111, 119], [100, 101, 110, 121]] : List (List Nat)).map ST),
  (fun K => He.ga K "_ANSWERS", ([[97, 108, 108, 111, 119, 32, 111, 118, 101, 114], [97, 108, 119, 97, 121, 115, 32, 97, 108, 108, 111, 119], [97, 108, 119, 97, 121, 115, 32, 100, 101, 110, 121], [98, 111, 116, 104, 32, 101, 110, 100, 115], [100, 101, 110, 121, 32, 111, 118, 101, 114], [102, 105, 114, 115, 116], [105, 115, 108, 97, 110, 100], [108, 97, 115, 116], [109, 111, 115, 116, 32, 111, 114, 32, 97, 108, 108, 111, 119], [109, 111, 115, 116, 32, 111, 114, 32, 100, 101, 110, 121], [109, 111, 115, 116, 32, 111, 114, 32, 102, 105, 114, 115, 116], [109, 111, 115, 116, 32, 111, 114, 32, 108, 97, 115, 116], [111, 100, 100]] : List (List Nat)).map ST)]
def tfG : List He.Defn := [("stretches", none), ("text_of", none), ("matters", none), ("Desk", some "_places")]
def tfL : List He.Defn := tfG ++ ([("law", none)] : List He.Defn)
def lk : HY.Lk := ⟨fa0 ++ fa1 ++ fa2 ++ fa3, tsL, tfL, ex0 ++ ex1, fs0 ++ fs1 ++ fs2⟩
def adr0 : List Addr := [2,
  3,
  23,
  36,
  48,
  60,
  72,
  84,
  103,
  165,
  271,
  359,
  24,
  37,
  49,
  61,
  73,
  85,
  104,
  360,
  101,
  115,
  122,
  129,
  136,
  143,
  150,
  157,
  164,
  172,
  179,
  186,
  193,
  200,
  207,
  214,
  221,
  228,
  235,
  242,
  249,
  256,
  263,
  270,
  278,
  285,
  292,
  306,
  313,
  320,
  327,
  335,
  343,
  350,
  357,
  371,
  378,
  383,
  390,
  395,
  400,
  407,
  412,
  419,
  426,
  431,
  438,
  25,
  100,
  114,
  121,
  128,
  135,
  142,
  149,
  156,
  163,
  171,
  178,
  185,
  192,
  199,
  206,
  213,
  220,
  227,
  234,
  241,
  248,
  255,
  262,
  269,
  277,
  284,
  291,
  305,
  312,
  319,
  326,
  328]
def adr1 : List Addr := [334,
  336,
  342,
  349,
  356,
  361,
  362,
  370,
  377,
  382,
  389,
  394,
  399,
  406,
  411,
  418,
  425,
  430,
  437,
  15,
  22,
  28,
  35,
  40,
  47,
  52,
  59,
  64,
  71,
  76,
  83,
  88,
  95,
  97,
  98,
  102,
  107,
  108,
  109,
  111,
  112,
  116,
  118,
  119,
  123,
  125,
  126,
  130,
  132,
  133,
  137,
  139,
  140,
  144,
  146,
  147,
  151,
  153,
  154,
  158,
  160,
  161,
  166,
  168,
  169,
  173,
  175,
  176,
  180,
  182,
  183,
  187,
  189,
  190,
  194,
  196,
  197,
  201,
  203,
  204,
  208,
  210,
  211,
  215,
  217,
  218,
  222,
  224,
  225,
  229,
  231,
  232,
  236,
  238,
  239,
  243,
  245,
  246,
  250,
  252]
def adr2 : List Addr := [253,
  257,
  259,
  260,
  264,
  266,
  267,
  272,
  274,
  275,
  279,
  281,
  282,
  286,
  288,
  289,
  300,
  302,
  303,
  307,
  309,
  310,
  314,
  316,
  317,
  321,
  323,
  324,
  329,
  331,
  332,
  337,
  339,
  340,
  344,
  346,
  347,
  351,
  353,
  354,
  358,
  365,
  367,
  368,
  372,
  374,
  375,
  379,
  384,
  386,
  387,
  391,
  396,
  401,
  403,
  404,
  408,
  413,
  415,
  416,
  420,
  422,
  423,
  427,
  432,
  434,
  435]
abbrev ads : List Addr := adr0 ++ adr1 ++ adr2
abbrev hk : PySem.W.Hook := HY.hookY ads lk
def ob (s : PySem.W.SharedT) : HY.AlY := HY.obsY ads lk (HandSHeadRun.getT s)
theorem ob_eq (s : PySem.W.SharedT) : ob s = hk.obs s.abs := HY.obsY_eq (HandSHeadRun.getT_eq s)
open R09 HandSHeadRun PySem.W
theorem facts_false (w : World) (os : OsState) : (endF (stepQ (denQ tabQ) R0.prog (w.withFollow "special-get-raises" false)) 12000 R0.prog (w.withFollow "special-get-raises" false) os).map (fun x => ob x) = some (hk.val (w.withFollow "special-get-raises" false)) := by kernel_rfl
theorem facts_true (w : World) (os : OsState) : (endF (stepQ (denQ tabQ) R0.prog (w.withFollow "special-get-raises" true)) 12000 R0.prog (w.withFollow "special-get-raises" true) os).map (fun x => ob x) = some (hk.val (w.withFollow "special-get-raises" true)) := by kernel_rfl
theorem join3 {α β γ δ : Type} {x : Option α} {f : α → β} {g : α → γ} {k : α → δ} {b : β} {c : γ} {d : δ} (h1 : x.map f = some b) (h2 : x.map g = some c) (h3 : x.map k = some d) : x.map (fun y => (f y, g y, k y)) = some (b, c, d) := by
  cases x with
  | none => cases h1
  | some y =>
    have h1 : some (f y) = some b := h1
    have h2 : some (g y) = some c := h2
    have h3 : some (k y) = some d := h3
    cases h1; cases h2; cases h3; rfl
theorem run (w : World) : HandSHeadRun.RunEq R0 qv hk ob 12000 nms w := PySem.W.byRow2 "special-get-raises" (P := fun w => HandSHeadRun.RunEq R0 qv hk ob 12000 nms w) (fun w => fun os => join3 (looks_false w os) (seen_false w os) (facts_false w os)) (fun w => fun os => join3 (looks_true w os) (seen_true w os) (facts_true w os)) w
end F09
set_option Elab.async false
set_option linter.all false
set_option maxRecDepth 100000
set_option maxHeartbeats 4000000
namespace K09
open PySem PySem.Spec PyProof.Rows L2 DL C
def topS (i : Nat) : Stmt := PySem.Challenge.pw_rulevoices_k09_whole_desks.main.body.getD i (.Pass ⟨0, 0, 0, 0⟩)
def Gam0 (A : Nat → Addr) (w : World) : Cfg := ⟨A, fun x => x == ("InvalidText" : Str) || x == ("NotText" : Str) || x == ("NotNow" : Str) || x == ("NothingToUndo" : Str), fun _ => false, fun _ => 0, ⟨fun _ => 0, false⟩⟩
def tellW (y : Str) : Option (List Nat) := if (y == ("InvalidText" : Str)) = true then some [105, 110, 118, 97, 108, 105, 100] else if (y == ("NotNow" : Str)) = true then some [110, 111, 119] else if (y == ("NotText" : Str)) = true then some [116, 101, 120, 116] else if (y == ("NothingToUndo" : Str)) = true then some [117, 110, 100, 111] else none
abbrev s_allow_over : Stmt := topS 31
theorem sc_allow_over : FnScope ["row"] ["row"] (defScope s_allow_over) := ⟨rfl, rfl, rfl, by decide +kernel, rfl, by decide +kernel, by decide +kernel⟩
abbrev s_always_allow : Stmt := topS 29
theorem sc_always_allow : FnScope ["row"] ["row"] (defScope s_always_allow) := ⟨rfl, rfl, rfl, by decide +kernel, rfl, by decide +kernel, by decide +kernel⟩
abbrev s_always_deny : Stmt := topS 30
theorem sc_always_deny : FnScope ["row"] ["row"] (defScope s_always_deny) := ⟨rfl, rfl, rfl, by decide +kernel, rfl, by decide +kernel, by decide +kernel⟩
abbrev s_both_ends_ways : Stmt := topS 39
theorem sc_both_ends_ways : FnScope ["row"] ["row"] (defScope s_both_ends_ways) := ⟨rfl, rfl, rfl, by decide +kernel, rfl, by decide +kernel, by decide +kernel⟩
abbrev s_deny_over : Stmt := topS 32
theorem sc_deny_over : FnScope ["row"] ["row"] (defScope s_deny_over) := ⟨rfl, rfl, rfl, by decide +kernel, rfl, by decide +kernel, by decide +kernel⟩
abbrev s_first : Stmt := topS 27
theorem sc_first : FnScope ["row"] ["row"] (defScope s_first) := ⟨rfl, rfl, rfl, by decide +kernel, rfl, by decide +kernel, by decide +kernel⟩
abbrev s_stretches : Stmt := topS 16
theorem sc_stretches : FnScope ["row", "place"] ["row"] (defScope s_stretches) := ⟨rfl, rfl, rfl, by decide +kernel, rfl, by decide +kernel, by decide +kernel⟩
abbrev s_island_ways : Stmt := topS 40
theorem sc_island_ways : FnScope ["row"] ["row"] (defScope s_island_ways) := ⟨rfl, rfl, rfl, by decide +kernel, rfl, by decide +kernel, by decide +kernel⟩
abbrev s_last : Stmt := topS 28
theorem sc_last : FnScope ["row"] ["row"] (defScope s_last) := ⟨rfl, rfl, rfl, by decide +kernel, rfl, by decide +kernel, by decide +kernel⟩
abbrev s_greater_voice : Stmt := topS 15
theorem sc_greater_voice : FnScope ["row", "allows", "denies"] ["row"] (defScope s_greater_voice) := ⟨rfl, rfl, rfl, by decide +kernel, rfl, by decide +kernel, by decide +kernel⟩
abbrev s_most_or : Stmt := topS 37
theorem sc_most_or : FnScope ["row", "otherwise", "voice"] ["row", "otherwise"] (defScope s_most_or) := ⟨rfl, rfl, rfl, by decide +kernel, rfl, by decide +kernel, by decide +kernel⟩
abbrev s_most_or_allow_ways : Stmt := topS 33
theorem sc_most_or_allow_ways : FnScope ["row"] ["row"] (defScope s_most_or_allow_ways) := ⟨rfl, rfl, rfl, by decide +kernel, rfl, by decide +kernel, by decide +kernel⟩
abbrev s_most_or_deny_ways : Stmt := topS 34
theorem sc_most_or_deny_ways : FnScope ["row"] ["row"] (defScope s_most_or_deny_ways) := ⟨rfl, rfl, rfl, by decide +kernel, rfl, by decide +kernel, by decide +kernel⟩
abbrev s_most_or_first : Stmt := topS 35
theorem sc_most_or_first : FnScope ["row"] ["row"] (defScope s_most_or_first) := ⟨rfl, rfl, rfl, by decide +kernel, rfl, by decide +kernel, by decide +kernel⟩
abbrev s_most_or_last : Stmt := topS 36
theorem sc_most_or_last : FnScope ["row"] ["row"] (defScope s_most_or_last) := ⟨rfl, rfl, rfl, by decide +kernel, rfl, by decide +kernel, by decide +kernel⟩
abbrev s_odd : Stmt := topS 38
theorem sc_odd : FnScope ["row"] ["row"] (defScope s_odd) := ⟨rfl, rfl, rfl, by decide +kernel, rfl, by decide +kernel, by decide +kernel⟩
abbrev s_turned : Stmt := topS 13
theorem sc_turned : FnScope ["voice"] ["voice"] (defScope s_turned) := ⟨rfl, rfl, rfl, by decide +kernel, rfl, by decide +kernel, by decide +kernel⟩
abbrev s_turned_at : Stmt := topS 14
theorem sc_turned_at : FnScope ["row", "place"] ["row", "place"] (defScope s_turned_at) := ⟨rfl, rfl, rfl, by decide +kernel, rfl, by decide +kernel, by decide +kernel⟩
abbrev s_check_way : Stmt := topS 19
theorem sc_check_way : FnScope ["way"] ["way"] (defScope s_check_way) := ⟨rfl, rfl, rfl, by decide +kernel, rfl, by decide +kernel, by decide +kernel⟩
abbrev s_first_wrong : Stmt := topS 22
theorem sc_first_wrong : FnScope ["items", "index", "item"] ["items"] (defScope s_first_wrong) := ⟨rfl, rfl, rfl, by decide +kernel, rfl, by decide +kernel, by decide +kernel⟩
abbrev s_check_row : Stmt := topS 20
theorem sc_check_row : FnScope ["row", "wrong"] ["row"] (defScope s_check_row) := ⟨rfl, rfl, rfl, by decide +kernel, rfl, by decide +kernel, by decide +kernel⟩
abbrev s_check_text : Stmt := topS 21
theorem sc_check_text : FnScope ["text"] ["text"] (defScope s_check_text) := ⟨rfl, rfl, rfl, by decide +kernel, rfl, by decide +kernel, by decide +kernel⟩
abbrev s_text_of : Stmt := topS 25
theorem sc_text_of : FnScope ["voices", "voice"] ["voices"] (defScope s_text_of) := ⟨rfl, rfl, rfl, by decide +kernel, rfl, by decide +kernel, by decide +kernel⟩
abbrev s_told_answer : Stmt := topS 42
theorem sc_told_answer : FnScope ["way", "row", "told"] ["way", "row"] (defScope s_told_answer) := ⟨rfl, rfl, rfl, by decide +kernel, rfl, by decide +kernel, by decide +kernel⟩
abbrev s_answer : Stmt := topS 43
theorem sc_answer : FnScope ["way", "row"] ["way", "row"] (defScope s_answer) := ⟨rfl, rfl, rfl, by decide +kernel, rfl, by decide +kernel, by decide +kernel⟩
abbrev s_matters : Stmt := topS 44
theorem sc_matters : FnScope ["way", "row", "now", "place"] ["way", "row"] (defScope s_matters) := ⟨rfl, rfl, rfl, by decide +kernel, rfl, by decide +kernel, by decide +kernel⟩
abbrev s_law_taken : Stmt := topS 48
theorem sc_law_taken : FnScope ["row", "many", "found", "cell"] ["row", "many"] (defScope s_law_taken) := ⟨rfl, rfl, rfl, by decide +kernel, rfl, by decide +kernel, by decide +kernel⟩
abbrev s_law_pick : Stmt := topS 49
theorem sc_law_pick : FnScope ["row", "kinds"] ["row", "kinds"] (defScope s_law_pick) := ⟨rfl, rfl, rfl, by decide +kernel, rfl, by decide +kernel, by decide +kernel⟩
abbrev s_law_alike : Stmt := topS 50
theorem sc_law_alike : FnScope ["found", "due", "k"] ["found", "due"] (defScope s_law_alike) := ⟨rfl, rfl, rfl, by decide +kernel, rfl, by decide +kernel, by decide +kernel⟩
abbrev s_law_ways : Stmt := topS 51
theorem sc_law_ways : FnScope [] [] (defScope s_law_ways) := ⟨rfl, rfl, rfl, by decide +kernel, rfl, by decide +kernel, by decide +kernel⟩
abbrev s_law_turned : Stmt := topS 52
theorem sc_law_turned : FnScope ["text", "sign"] ["text"] (defScope s_law_turned) := ⟨rfl, rfl, rfl, by decide +kernel, rfl, by decide +kernel, by decide +kernel⟩
abbrev s_law_answer : Stmt := topS 53
theorem sc_law_answer : FnScope ["way", "text", "more", "ties", "good", "changes", "at"] ["way", "text"] (defScope s_law_answer) := ⟨rfl, rfl, rfl, by decide +kernel, rfl, by decide +kernel, by decide +kernel⟩
abbrev s_law_word : Stmt := topS 54
theorem sc_law_word : FnScope ["sign"] ["sign"] (defScope s_law_word) := ⟨rfl, rfl, rfl, by decide +kernel, rfl, by decide +kernel, by decide +kernel⟩
abbrev s_law_voices : Stmt := topS 55
theorem sc_law_voices : FnScope ["text", "sign"] ["text"] (defScope s_law_voices) := ⟨rfl, rfl, rfl, by decide +kernel, rfl, by decide +kernel, by decide +kernel⟩
abbrev s_law_flip : Stmt := topS 56
theorem sc_law_flip : FnScope ["text", "at"] ["text", "at"] (defScope s_law_flip) := ⟨rfl, rfl, rfl, by decide +kernel, rfl, by decide +kernel, by decide +kernel⟩
abbrev s_law_told_u : Stmt := topS 57
theorem sc_law_told_u : FnScope ["work", "e", "known"] ["work"] (defScope s_law_told_u) := ⟨rfl, rfl, rfl, by decide +kernel, rfl, by decide +kernel, by decide +kernel⟩
abbrev s_desk_row : Stmt := inClass (topS 46) 3
theorem sc_desk_row : FnScope ["self"] ["self"] (defScope s_desk_row) := ⟨rfl, rfl, rfl, by decide +kernel, rfl, by decide +kernel, by decide +kernel⟩
abbrev s_desk_answer : Stmt := inClass (topS 46) 4
theorem sc_desk_answer : FnScope ["self"] ["self"] (defScope s_desk_answer) := ⟨rfl, rfl, rfl, by decide +kernel, rfl, by decide +kernel, by decide +kernel⟩
abbrev s_desk_keep : Stmt := inClass (topS 46) 6
theorem sc_desk_keep : FnScope ["self", "voices"] ["self", "voices"] (defScope s_desk_keep) := ⟨rfl, rfl, rfl, by decide +kernel, rfl, by decide +kernel, by decide +kernel⟩
abbrev s_desk_add : Stmt := inClass (topS 46) 5
theorem sc_desk_add : FnScope ["self", "voice"] ["self", "voice"] (defScope s_desk_add) := ⟨rfl, rfl, rfl, by decide +kernel, rfl, by decide +kernel, by decide +kernel⟩
abbrev s_desk_places : Stmt := inClass (topS 46) 7
theorem sc_desk_places : FnScope ["self", "places", "place"] ["self"] (defScope s_desk_places) := ⟨rfl, rfl, rfl, by decide +kernel, rfl, by decide +kernel, by decide +kernel⟩
abbrev s_desk_run : Stmt := inClass (topS 46) 1
theorem sc_desk_run : FnScope ["self", "line"] ["self", "line"] (defScope s_desk_run) := ⟨rfl, rfl, rfl, by decide +kernel, rfl, by decide +kernel, by decide +kernel⟩
abbrev s_law_shown : Stmt := topS 58
theorem sc_law_shown : FnScope ["desk", "way", "text", "here", "some", "at"] ["desk", "way", "text"] (defScope s_law_shown) := ⟨rfl, rfl, rfl, by decide +kernel, rfl, by decide +kernel, by decide +kernel⟩
abbrev s_desk_init : Stmt := inClass (topS 46) 0
theorem sc_desk_init : FnScope ["self", "way"] ["self", "way"] (defScope s_desk_init) := ⟨rfl, rfl, rfl, by decide +kernel, rfl, by decide +kernel, by decide +kernel⟩
abbrev s_desk_undo : Stmt := inClass (topS 46) 2
theorem sc_desk_undo : FnScope ["self"] ["self"] (defScope s_desk_undo) := ⟨rfl, rfl, rfl, by decide +kernel, rfl, by decide +kernel, by decide +kernel⟩
abbrev s_law : Stmt := topS 59
theorem sc_law : FnScope ["script", "row", "way", "text", "desk", "turn", "deed", "sign"] ["script"] (defScope s_law) := ⟨rfl, rfl, rfl, by decide +kernel, rfl, by decide +kernel, by decide +kernel⟩
abbrev lamQ : Str := (envOfC "law" (defScope s_law) 0 0 .none).qual ++ "<lambda>"
structure Fx (w : World) (K : PySem.W.Frag) (mg : Str → Option Value) (T : Tb) (CS : List (Addr × Addr)) where
  a_allow_over : Addr
  d_allow_over : FuncData
  F_allow_over : Fun K "_allow_over" "_allow_over" s_allow_over a_allow_over d_allow_over
  g_allow_over : mg "_allow_over" = some (.ref a_allow_over)
  b_allow_over : Binds K d_allow_over ["row"] []
  a_always_allow : Addr
  d_always_allow : FuncData
  F_always_allow : Fun K "_always_allow" "_always_allow" s_always_allow a_always_allow d_always_allow
  g_always_allow : mg "_always_allow" = some (.ref a_always_allow)
  b_always_allow : Binds K d_always_allow ["row"] []
  a_always_deny : Addr
  d_always_deny : FuncData
  F_always_deny : Fun K "_always_deny" "_always_deny" s_always_deny a_always_deny d_always_deny
  g_always_deny : mg "_always_deny" = some (.ref a_always_deny)
  b_always_deny : Binds K d_always_deny ["row"] []
  a_both_ends_ways : Addr
  d_both_ends_ways : FuncData
  F_both_ends_ways : Fun K "_both_ends" "_both_ends" s_both_ends_ways a_both_ends_ways d_both_ends_ways
  g_both_ends_ways : mg "_both_ends" = some (.ref a_both_ends_ways)
  b_both_ends_ways : Binds K d_both_ends_ways ["row"] []
  a_deny_over : Addr
  d_deny_over : FuncData
  F_deny_over : Fun K "_deny_over" "_deny_over" s_deny_over a_deny_over d_deny_over
  g_deny_over : mg "_deny_over" = some (.ref a_deny_over)
  b_deny_over : Binds K d_deny_over ["row"] []
  a_first : Addr
  d_first : FuncData
  F_first : Fun K "_first" "_first" s_first a_first d_first
  g_first : mg "_first" = some (.ref a_first)
  b_first : Binds K d_first ["row"] []
  a_stretches : Addr
  d_stretches : FuncData
  F_stretches : Fun K "stretches" "stretches" s_stretches a_stretches d_stretches
  g_stretches : mg "stretches" = some (.ref a_stretches)
  b_stretches : Binds K d_stretches ["row"] []
  k_stretches : Addr
  t_stretches : Addr
  e_stretches : d_stretches.code = .ref k_stretches
  m_stretches : (k_stretches, t_stretches) ∈ CS ∧ t_stretches ∈ T
  a_island_ways : Addr
  d_island_ways : FuncData
  F_island_ways : Fun K "_island" "_island" s_island_ways a_island_ways d_island_ways
  g_island_ways : mg "_island" = some (.ref a_island_ways)
  b_island_ways : Binds K d_island_ways ["row"] []
  a_last : Addr
  d_last : FuncData
  F_last : Fun K "_last" "_last" s_last a_last d_last
  g_last : mg "_last" = some (.ref a_last)
  b_last : Binds K d_last ["row"] []
  a_greater_voice : Addr
  d_greater_voice : FuncData
  F_greater_voice : Fun K "greater_voice" "greater_voice" s_greater_voice a_greater_voice d_greater_voice
  g_greater_voice : mg "greater_voice" = some (.ref a_greater_voice)
  b_greater_voice : Binds K d_greater_voice ["row"] []
  a_most_or : Addr
  d_most_or : FuncData
  F_most_or : Fun K "_most_or" "_most_or" s_most_or a_most_or d_most_or
  g_most_or : mg "_most_or" = some (.ref a_most_or)
  b_most_or : Binds K d_most_or ["row", "otherwise"] []
  a_most_or_allow_ways : Addr
  d_most_or_allow_ways : FuncData
  F_most_or_allow_ways : Fun K "_most_or_allow" "_most_or_allow" s_most_or_allow_ways a_most_or_allow_ways d_most_or_allow_ways
  g_most_or_allow_ways : mg "_most_or_allow" = some (.ref a_most_or_allow_ways)
  b_most_or_allow_ways : Binds K d_most_or_allow_ways ["row"] []
  a_most_or_deny_ways : Addr
  d_most_or_deny_ways : FuncData
  F_most_or_deny_ways : Fun K "_most_or_deny" "_most_or_deny" s_most_or_deny_ways a_most_or_deny_ways d_most_or_deny_ways
  g_most_or_deny_ways : mg "_most_or_deny" = some (.ref a_most_or_deny_ways)
  b_most_or_deny_ways : Binds K d_most_or_deny_ways ["row"] []
  a_most_or_first : Addr
  d_most_or_first : FuncData
  F_most_or_first : Fun K "_most_or_first" "_most_or_first" s_most_or_first a_most_or_first d_most_or_first
  g_most_or_first : mg "_most_or_first" = some (.ref a_most_or_first)
  b_most_or_first : Binds K d_most_or_first ["row"] []
  a_most_or_last : Addr
  d_most_or_last : FuncData
  F_most_or_last : Fun K "_most_or_last" "_most_or_last" s_most_or_last a_most_or_last d_most_or_last
  g_most_or_last : mg "_most_or_last" = some (.ref a_most_or_last)
  b_most_or_last : Binds K d_most_or_last ["row"] []
  a_odd : Addr
  d_odd : FuncData
  F_odd : Fun K "_odd" "_odd" s_odd a_odd d_odd
  g_odd : mg "_odd" = some (.ref a_odd)
  b_odd : Binds K d_odd ["row"] []
  a_turned : Addr
  d_turned : FuncData
  F_turned : Fun K "turned" "turned" s_turned a_turned d_turned
  g_turned : mg "turned" = some (.ref a_turned)
  b_turned : Binds K d_turned ["voice"] []
  a_turned_at : Addr
  d_turned_at : FuncData
  F_turned_at : Fun K "turned_at" "turned_at" s_turned_at a_turned_at d_turned_at
  g_turned_at : mg "turned_at" = some (.ref a_turned_at)
  b_turned_at : Binds K d_turned_at ["row", "place"] []
  a_check_way : Addr
  d_check_way : FuncData
  F_check_way : Fun K "check_way" "check_way" s_check_way a_check_way d_check_way
  g_check_way : mg "check_way" = some (.ref a_check_way)
  b_check_way : Binds K d_check_way ["way"] []
  a_first_wrong : Addr
  d_first_wrong : FuncData
  F_first_wrong : Fun K "_first_wrong" "_first_wrong" s_first_wrong a_first_wrong d_first_wrong
  g_first_wrong : mg "_first_wrong" = some (.ref a_first_wrong)
  b_first_wrong : Binds K d_first_wrong ["items"] []
  a_check_row : Addr
  d_check_row : FuncData
  F_check_row : Fun K "check_row" "check_row" s_check_row a_check_row d_check_row
  g_check_row : mg "check_row" = some (.ref a_check_row)
  b_check_row : Binds K d_check_row ["row"] []
  a_check_text : Addr
  d_check_text : FuncData
  F_check_text : Fun K "check_text" "check_text" s_check_text a_check_text d_check_text
  g_check_text : mg "check_text" = some (.ref a_check_text)
  b_check_text : Binds K d_check_text ["text"] []
  a_text_of : Addr
  d_text_of : FuncData
  F_text_of : Fun K "text_of" "text_of" s_text_of a_text_of d_text_of
  g_text_of : mg "text_of" = some (.ref a_text_of)
  b_text_of : Binds K d_text_of ["voices"] []
  k_text_of : Addr
  t_text_of : Addr
  e_text_of : d_text_of.code = .ref k_text_of
  m_text_of : (k_text_of, t_text_of) ∈ CS ∧ t_text_of ∈ T
  a_told_answer : Addr
  d_told_answer : FuncData
  F_told_answer : Fun K "told_answer" "told_answer" s_told_answer a_told_answer d_told_answer
  g_told_answer : mg "told_answer" = some (.ref a_told_answer)
  b_told_answer : Binds K d_told_answer ["way", "row"] []
  a_answer : Addr
  d_answer : FuncData
  F_answer : Fun K "answer" "answer" s_answer a_answer d_answer
  g_answer : mg "answer" = some (.ref a_answer)
  b_answer : Binds K d_answer ["way", "row"] []
  a_matters : Addr
  d_matters : FuncData
  F_matters : Fun K "matters" "matters" s_matters a_matters d_matters
  g_matters : mg "matters" = some (.ref a_matters)
  b_matters : Binds K d_matters ["way", "row"] []
  k_matters : Addr
  t_matters : Addr
  e_matters : d_matters.code = .ref k_matters
  m_matters : (k_matters, t_matters) ∈ CS ∧ t_matters ∈ T
  a_law_taken : Addr
  d_law_taken : FuncData
  F_law_taken : Fun K "_law_taken" "_law_taken" s_law_taken a_law_taken d_law_taken
  g_law_taken : mg "_law_taken" = some (.ref a_law_taken)
  b_law_taken : Binds K d_law_taken ["row", "many"] []
  a_law_pick : Addr
  d_law_pick : FuncData
  F_law_pick : Fun K "_law_pick" "_law_pick" s_law_pick a_law_pick d_law_pick
  g_law_pick : mg "_law_pick" = some (.ref a_law_pick)
  b_law_pick : Binds K d_law_pick ["row", "kinds"] []
  a_law_alike : Addr
  d_law_alike : FuncData
  F_law_alike : Fun K "_law_alike" "_law_alike" s_law_alike a_law_alike d_law_alike
  g_law_alike : mg "_law_alike" = some (.ref a_law_alike)
  b_law_alike : Binds K d_law_alike ["found", "due"] []
  a_law_ways : Addr
  d_law_ways : FuncData
  F_law_ways : Fun K "_law_ways" "_law_ways" s_law_ways a_law_ways d_law_ways
  g_law_ways : mg "_law_ways" = some (.ref a_law_ways)
  b_law_ways : Binds K d_law_ways [] []
  a_law_turned : Addr
  d_law_turned : FuncData
  F_law_turned : Fun K "_law_turned" "_law_turned" s_law_turned a_law_turned d_law_turned
  g_law_turned : mg "_law_turned" = some (.ref a_law_turned)
  b_law_turned : Binds K d_law_turned ["text"] []
  a_law_answer : Addr
  d_law_answer : FuncData
  F_law_answer : Fun K "_law_answer" "_law_answer" s_law_answer a_law_answer d_law_answer
  g_law_answer : mg "_law_answer" = some (.ref a_law_answer)
  b_law_answer : Binds K d_law_answer ["way", "text"] []
  a_law_word : Addr
  d_law_word : FuncData
  F_law_word : Fun K "_law_word" "_law_word" s_law_word a_law_word d_law_word
  g_law_word : mg "_law_word" = some (.ref a_law_word)
  b_law_word : Binds K d_law_word ["sign"] []
  a_law_voices : Addr
  d_law_voices : FuncData
  F_law_voices : Fun K "_law_voices" "_law_voices" s_law_voices a_law_voices d_law_voices
  g_law_voices : mg "_law_voices" = some (.ref a_law_voices)
  b_law_voices : Binds K d_law_voices ["text"] []
  a_law_flip : Addr
  d_law_flip : FuncData
  F_law_flip : Fun K "_law_flip" "_law_flip" s_law_flip a_law_flip d_law_flip
  g_law_flip : mg "_law_flip" = some (.ref a_law_flip)
  b_law_flip : Binds K d_law_flip ["text", "at"] []
  a_law_told_u : Addr
  d_law_told_u : FuncData
  F_law_told_u : Fun K "_law_told" "_law_told" s_law_told_u a_law_told_u d_law_told_u
  g_law_told_u : mg "_law_told" = some (.ref a_law_told_u)
  b_law_told_u : Binds K d_law_told_u ["work"] []
  a_desk_row : Addr
  d_desk_row : FuncData
  F_desk_row : Fun K "row" "Desk.row" s_desk_row a_desk_row d_desk_row
  p_desk_row : Addr
  P_desk_row : PropOf K T.dc "row" p_desk_row a_desk_row
  b_desk_row : Binds K d_desk_row ["self"] []
  a_desk_answer : Addr
  d_desk_answer : FuncData
  F_desk_answer : Fun K "answer" "Desk.answer" s_desk_answer a_desk_answer d_desk_answer
  p_desk_answer : Addr
  P_desk_answer : PropOf K T.dc "answer" p_desk_answer a_desk_answer
  b_desk_answer : Binds K d_desk_answer ["self"] []
  a_desk_keep : Addr
  d_desk_keep : FuncData
  F_desk_keep : Fun K "_keep" "Desk._keep" s_desk_keep a_desk_keep d_desk_keep
  M_desk_keep : Meth K T.dc "_keep" a_desk_keep
  b_desk_keep : Binds K d_desk_keep ["self", "voices"] []
  a_desk_add : Addr
  d_desk_add : FuncData
  F_desk_add : Fun K "_add" "Desk._add" s_desk_add a_desk_add d_desk_add
  M_desk_add : Meth K T.dc "_add" a_desk_add
  b_desk_add : Binds K d_desk_add ["self", "voice"] []
  a_desk_places : Addr
  d_desk_places : FuncData
  F_desk_places : Fun K "_places" "Desk._places" s_desk_places a_desk_places d_desk_places
  M_desk_places : Meth K T.dc "_places" a_desk_places
  b_desk_places : Binds K d_desk_places ["self"] []
  k_desk_places : Addr
  t_desk_places : Addr
  e_desk_places : d_desk_places.code = .ref k_desk_places
  m_desk_places : (k_desk_places, t_desk_places) ∈ CS ∧ t_desk_places ∈ T
  a_desk_run : Addr
  d_desk_run : FuncData
  F_desk_run : Fun K "run" "Desk.run" s_desk_run a_desk_run d_desk_run
  M_desk_run : Meth K T.dc "run" a_desk_run
  b_desk_run : Binds K d_desk_run ["self", "line"] []
  a_law_shown : Addr
  d_law_shown : FuncData
  F_law_shown : Fun K "_law_shown" "_law_shown" s_law_shown a_law_shown d_law_shown
  g_law_shown : mg "_law_shown" = some (.ref a_law_shown)
  b_law_shown : Binds K d_law_shown ["desk", "way", "text"] []
  a_desk_init : Addr
  d_desk_init : FuncData
  F_desk_init : Fun K "__init__" "Desk.__init__" s_desk_init a_desk_init d_desk_init
  Mk_D : Mk K T.dc a_desk_init
  b_desk_init : Binds K d_desk_init ["self", "way"] []
  a_desk_undo : Addr
  d_desk_undo : FuncData
  F_desk_undo : Fun K "undo" "Desk.undo" s_desk_undo a_desk_undo d_desk_undo
  M_desk_undo : Meth K T.dc "undo" a_desk_undo
  b_desk_undo : Binds K d_desk_undo ["self"] []
  a_law : Addr
  d_law : FuncData
  F_law : Fun K "law" "law" s_law a_law d_law
  g_law : mg "law" = some (.ref a_law)
  b_law : Binds K d_law ["script"] []
  k_law : Addr
  t_law : Addr
  e_law : d_law.code = .ref k_law
  m_law : (k_law, t_law) ∈ CS
  L_law : T.ls = [(t_law, lamQ)]
  c_ALLOW : ∃ w, mg "ALLOW" = some w ∧ RelV (.str (ST [97, 108, 108, 111, 119])) w
  c_DENY : ∃ w, mg "DENY" = some w ∧ RelV (.str (ST [100, 101, 110, 121])) w
  c_WAYS : ∃ w v, mg "WAYS" = some w ∧ RelV v w ∧ WR K v w_WAYS
  c_MOST_VOICES : ∃ w, mg "MOST_VOICES" = some w ∧ RelV (.int (12)) w
  c_VOICES : ∃ w v, mg "VOICES" = some w ∧ RelV v w ∧ WR K v w_VOICES
  g_D : mg "Desk" = some (.ref T.dc)
  cl_D : Cls K T.dc
  n__way : NoAttr K T.dc "_way"
  n__row : NoAttr K T.dc "_row"
  n__answer : NoAttr K T.dc "_answer"
  A : Nat → Addr
  A_0 : A 0 = a_allow_over
  A_1 : A 1 = a_always_allow
  A_2 : A 2 = a_always_deny
  A_3 : A 3 = a_both_ends_ways
  A_4 : A 4 = a_deny_over
  A_5 : A 5 = a_first
  A_6 : A 6 = a_island_ways
  A_7 : A 7 = a_last
  A_8 : A 8 = a_most_or_allow_ways
  A_9 : A 9 = a_most_or_deny_ways
  A_10 : A 10 = a_most_or_first
  A_11 : A 11 = a_most_or_last
  A_12 : A 12 = a_odd
  ad_SIGN_OF : Addr
  g_SIGN_OF : mg "_SIGN_OF" = some (.ref ad_SIGN_OF)
  k_SIGN_OF : KTab K w ad_SIGN_OF (tb_SIGN_OF)
  ad_ANSWERS : Addr
  g_ANSWERS : mg "_ANSWERS" = some (.ref ad_ANSWERS)
  k_ANSWERS : KTab K w ad_ANSWERS (tb_ANSWERS (Gam0 A w))
  ac_VoiceError : Addr
  gc_VoiceError : mg "VoiceError" = some (.ref ac_VoiceError)
  ac_InvalidText : Addr
  gc_InvalidText : mg "InvalidText" = some (.ref ac_InvalidText)
  ac_NotNow : Addr
  gc_NotNow : mg "NotNow" = some (.ref ac_NotNow)
  ac_NotText : Addr
  gc_NotText : mg "NotText" = some (.ref ac_NotText)
  ac_NothingToUndo : Addr
  gc_NothingToUndo : mg "NothingToUndo" = some (.ref ac_NothingToUndo)
  tc_InvalidText : ∃ b1 b2 b3 b4, TC4 K ac_InvalidText ac_NotNow ac_NotText ac_NothingToUndo ac_InvalidText b1 b2 b3 b4 ∧ PySem.W.exmOne K (.ref ac_InvalidText) (.ref ac_VoiceError) = some true ∧ w4 b1 b2 b3 b4 "invalid" "now" "text" "undo" = some (ST [105, 110, 118, 97, 108, 105, 100])
  tc_NotNow : ∃ b1 b2 b3 b4, TC4 K ac_InvalidText ac_NotNow ac_NotText ac_NothingToUndo ac_NotNow b1 b2 b3 b4 ∧ PySem.W.exmOne K (.ref ac_NotNow) (.ref ac_VoiceError) = some true ∧ w4 b1 b2 b3 b4 "invalid" "now" "text" "undo" = some (ST [110, 111, 119])
  tc_NotText : ∃ b1 b2 b3 b4, TC4 K ac_InvalidText ac_NotNow ac_NotText ac_NothingToUndo ac_NotText b1 b2 b3 b4 ∧ PySem.W.exmOne K (.ref ac_NotText) (.ref ac_VoiceError) = some true ∧ w4 b1 b2 b3 b4 "invalid" "now" "text" "undo" = some (ST [116, 101, 120, 116])
  tc_NothingToUndo : ∃ b1 b2 b3 b4, TC4 K ac_InvalidText ac_NotNow ac_NotText ac_NothingToUndo ac_NothingToUndo b1 b2 b3 b4 ∧ PySem.W.exmOne K (.ref ac_NothingToUndo) (.ref ac_VoiceError) = some true ∧ w4 b1 b2 b3 b4 "invalid" "now" "text" "undo" = some (ST [117, 110, 100, 111])
  x_NotText : XCls K mg "NotText" ac_NotText
  x_NotNow : XCls K mg "NotNow" ac_NotNow
  x_InvalidText : XCls K mg "InvalidText" ac_InvalidText
  x_NothingToUndo : XCls K mg "NothingToUndo" ac_NothingToUndo
  z_range : mg "range" = none
  z_len : mg "len" = none
  z_tuple : mg "tuple" = none
  z_isinstance : mg "isinstance" = none
  z_enumerate : mg "enumerate" = none
  z_str : mg "str" = none
  z_int : mg "int" = none
  z_list : mg "list" = none
  z_bool : mg "bool" = none
abbrev Fx.Gam {w : World} {K : PySem.W.Frag} {mg : Str → Option Value} {T : Tb} {CS : List (Addr × Addr)} (FX : Fx w K mg T CS) : Cfg := Gam0 FX.A w
section
variable {P : Program} {w : World} {K : PySem.W.Frag} {mg : Str → Option Value} {base : Heap} {T : Tb} {CS : List (Addr × Addr)} (FX : Fx w K mg T CS) (TB : ∀ p ∈ CS, GxR.TabB base mg p.1 p.2)
include FX TB
theorem ok_allow_over : FnOk P w K mg base CX0 1 FX.a_allow_over FX.d_allow_over ["row"] (spD K T mg 1 (F_allow_over FX.Gam)) := okD FX.F_allow_over sc_allow_over fun cdv A outer s H E hr hcd =>
  (pu_last (pu_ret (pu_if (DL.pt_cmp (od_in hr) (pu_gc (by rfl) FX.c_ALLOW fun _ => .str) (pvD 0) (by rfl)) (pu_gc (by rfl) FX.c_ALLOW fun _ => .str) (pu_gc (by rfl) FX.c_DENY fun _ => .str))))
theorem ok_always_allow : FnOk P w K mg base CX0 1 FX.a_always_allow FX.d_always_allow ["row"] (spD K T mg 1 (F_always_allow FX.Gam)) := okD FX.F_always_allow sc_always_allow fun cdv A outer s H E hr hcd =>
  (pu_last (pu_ret (pu_gc (by rfl) FX.c_ALLOW fun _ => .str)))
theorem ok_always_deny : FnOk P w K mg base CX0 1 FX.a_always_deny FX.d_always_deny ["row"] (spD K T mg 1 (F_always_deny FX.Gam)) := okD FX.F_always_deny sc_always_deny fun cdv A outer s H E hr hcd =>
  (pu_last (pu_ret (pu_gc (by rfl) FX.c_DENY fun _ => .str)))
theorem ok_both_ends_ways : FnOk P w K mg base CX0 1 FX.a_both_ends_ways FX.d_both_ends_ways ["row"] (spD K T mg 1 (F_both_ends_ways FX.Gam)) := okD FX.F_both_ends_ways sc_both_ends_ways fun cdv A outer s H E hr hcd =>
  (pu_last (pu_ret (pu_if ((DL.pw_and (DL.pt_cmp (od_eq hr) (pu_ix hr (pvD 0) pu_int) (pu_gc (by rfl) FX.c_ALLOW fun _ => .str) (by rfl)) (DL.pw_one (DL.pt_cmp (od_eq hr) (pu_ix hr (pvD 0) (pu_neg pu_int)) (pu_gc (by rfl) FX.c_ALLOW fun _ => .str) (by rfl))))).pt (pu_gc (by rfl) FX.c_ALLOW fun _ => .str) (pu_gc (by rfl) FX.c_DENY fun _ => .str))))
theorem ok_deny_over : FnOk P w K mg base CX0 1 FX.a_deny_over FX.d_deny_over ["row"] (spD K T mg 1 (F_deny_over FX.Gam)) := okD FX.F_deny_over sc_deny_over fun cdv A outer s H E hr hcd =>
  (pu_last (pu_ret (pu_if (DL.pt_cmp (od_in hr) (pu_gc (by rfl) FX.c_DENY fun _ => .str) (pvD 0) (by rfl)) (pu_gc (by rfl) FX.c_DENY fun _ => .str) (pu_gc (by rfl) FX.c_ALLOW fun _ => .str))))
theorem ok_first : FnOk P w K mg base CX0 1 FX.a_first FX.d_first ["row"] (spD K T mg 1 (F_first FX.Gam)) := okD FX.F_first sc_first fun cdv A outer s H E hr hcd =>
  (pu_last (pu_ret (pu_ix hr (pvD 0) pu_int)))
theorem ok_stretches : FnOk P w K mg base CX0 2 FX.a_stretches FX.d_stretches ["row"] (spD K T mg 1 (F_stretches FX.Gam)) := okD FX.F_stretches sc_stretches fun cdv A outer s H E hr hcd =>
  (pu_last (pu_ret (pu_tupG hr rfl (by rfl) FX.z_tuple PyProof.Rows.boot_tuple (TB _ FX.m_stretches.1) FX.m_stretches.2 (hcd.symm.trans FX.e_stretches) (by show GX.GOk ["row", "place"] (defScope s_stretches) _ [("place", 1)]; exact ⟨rfl, rfl, by decide +kernel, by decide +kernel, by decide +kernel, by decide +kernel, by decide +kernel⟩) sc_stretches.nd (pu_iR1 (by rfl) FX.z_range (pu_callB cd_len (pvD 0) (by rfl) FX.z_len PySem.boot_len)) (fun _ _ _ _ _ _ => pg_name (i := 1) sc_stretches.nd rfl (by first | exact .inl rfl | exact .inr rfl)) (fun _ _ _ _ _ _ hg0 => (pts_yes ((DL.pw_or (DL.pt_cmp (od_eq hg0) (pvD 1) pu_int (by rfl)) (DL.pw_oneO (DL.pt_cmp (od_ne hg0) (pu_ix hg0 (pvD 0) (pvD 1)) (pu_ix hg0 (pvD 0) (pu_bin od_sub (pvD 1) pu_int)) (by rfl))))).pt)) (fun _ _ _ _ _ _ hg0 => (pu_ix hg0 (pvD 0) (pvD 1))))))
theorem ok_island_ways : FnOk P w K mg base CX0 3 FX.a_island_ways FX.d_island_ways ["row"] (spD K T mg 1 (F_island_ways FX.Gam)) := okD FX.F_island_ways sc_island_ways fun cdv A outer s H E hr hcd =>
  (pu_last (pu_ret (pu_if (DL.pt_cmp (od_in hr) (pu_call (ok_stretches FX TB) (hr.mono (by decide)) (by rfl) FX.g_stretches FX.F_stretches.kp FX.b_stretches passD (pu_cons (pvD 0) pu_nil)) (pu_tup (pu_cons (pu_tup (pu_cons (pu_gc (by rfl) FX.c_ALLOW fun _ => .str) pu_nil) (hl := by first | decide | exact Nat.le_of_ble_eq_true rfl)) (pu_cons (pu_tup (pu_cons (pu_gc (by rfl) FX.c_DENY fun _ => .str) (pu_cons (pu_gc (by rfl) FX.c_ALLOW fun _ => .str) (pu_cons (pu_gc (by rfl) FX.c_DENY fun _ => .str) pu_nil))) (hl := by first | decide | exact Nat.le_of_ble_eq_true rfl)) pu_nil)) (hl := by first | decide | exact Nat.le_of_ble_eq_true rfl)) (by rfl)) (pu_gc (by rfl) FX.c_ALLOW fun _ => .str) (pu_gc (by rfl) FX.c_DENY fun _ => .str))))
theorem ok_last : FnOk P w K mg base CX0 1 FX.a_last FX.d_last ["row"] (spD K T mg 1 (F_last FX.Gam)) := okD FX.F_last sc_last fun cdv A outer s H E hr hcd =>
  (pu_last (pu_ret (pu_ix hr (pvD 0) (pu_neg pu_int))))
theorem ok_greater_voice : FnOk P w K mg base CX0 1 FX.a_greater_voice FX.d_greater_voice ["row"] (spD K T mg 1 (F_greater_voice FX.Gam)) := okD FX.F_greater_voice sc_greater_voice fun cdv A outer s H E hr hcd =>
  (pu_seq (pu_set (i := 1) sc_greater_voice.nd rfl (by first | exact .inl rfl | exact .inr rfl) (pu_tcount (pvD 0) (pu_gc (by rfl) FX.c_ALLOW fun _ => .str)))
  (pu_seq (pu_set (i := 2) sc_greater_voice.nd rfl (by first | exact .inl rfl | exact .inr rfl) (pu_tcount (pvD 0) (pu_gc (by rfl) FX.c_DENY fun _ => .str)))
  (pu_seq (pu_ifS (DL.pt_cmp (od_eq hr) (pvD 1) (pvD 2) (by rfl)) (pu_last (pu_ret pu_non)) pu_snil)
  (pu_last (pu_ret (pu_if (DL.pt_cmp od_gt (pvD 1) (pvD 2) (by rfl)) (pu_gc (by rfl) FX.c_ALLOW fun _ => .str) (pu_gc (by rfl) FX.c_DENY fun _ => .str)))))))
theorem ok_most_or : FnOk P w K mg base CX0 2 FX.a_most_or FX.d_most_or ["row", "otherwise"] (spD K T mg 2 (F_most_or FX.Gam)) := okD FX.F_most_or sc_most_or fun cdv A outer s H E hr hcd =>
  (pu_seq (pu_set (i := 2) sc_most_or.nd rfl (by first | exact .inl rfl | exact .inr rfl) (pu_call (ok_greater_voice FX TB) (hr.mono (by decide)) (by rfl) FX.g_greater_voice FX.F_greater_voice.kp FX.b_greater_voice passD (pu_cons (pvD 0) pu_nil)))
  (pu_last (pu_ret (pu_if (DL.pt_cmp od_is (pvD 2) pu_non (by rfl)) (pvD 1) (pvD 2)))))
theorem ok_most_or_allow_ways : FnOk P w K mg base CX0 3 FX.a_most_or_allow_ways FX.d_most_or_allow_ways ["row"] (spD K T mg 1 (F_most_or_allow_ways FX.Gam)) := okD FX.F_most_or_allow_ways sc_most_or_allow_ways fun cdv A outer s H E hr hcd =>
  (pu_last (pu_ret (pu_call (ok_most_or FX TB) (hr.mono (by decide)) (by rfl) FX.g_most_or FX.F_most_or.kp FX.b_most_or passD (pu_cons (pvD 0) (pu_cons (pu_gc (by rfl) FX.c_ALLOW fun _ => .str) pu_nil)))))
theorem ok_most_or_deny_ways : FnOk P w K mg base CX0 3 FX.a_most_or_deny_ways FX.d_most_or_deny_ways ["row"] (spD K T mg 1 (F_most_or_deny_ways FX.Gam)) := okD FX.F_most_or_deny_ways sc_most_or_deny_ways fun cdv A outer s H E hr hcd =>
  (pu_last (pu_ret (pu_call (ok_most_or FX TB) (hr.mono (by decide)) (by rfl) FX.g_most_or FX.F_most_or.kp FX.b_most_or passD (pu_cons (pvD 0) (pu_cons (pu_gc (by rfl) FX.c_DENY fun _ => .str) pu_nil)))))
theorem ok_most_or_first : FnOk P w K mg base CX0 3 FX.a_most_or_first FX.d_most_or_first ["row"] (spD K T mg 1 (F_most_or_first FX.Gam)) := okD FX.F_most_or_first sc_most_or_first fun cdv A outer s H E hr hcd =>
  (pu_last (pu_ret (pu_call (ok_most_or FX TB) (hr.mono (by decide)) (by rfl) FX.g_most_or FX.F_most_or.kp FX.b_most_or passD (pu_cons (pvD 0) (pu_cons (pu_ix hr (pvD 0) pu_int) pu_nil)))))
theorem ok_most_or_last : FnOk P w K mg base CX0 3 FX.a_most_or_last FX.d_most_or_last ["row"] (spD K T mg 1 (F_most_or_last FX.Gam)) := okD FX.F_most_or_last sc_most_or_last fun cdv A outer s H E hr hcd =>
  (pu_last (pu_ret (pu_call (ok_most_or FX TB) (hr.mono (by decide)) (by rfl) FX.g_most_or FX.F_most_or.kp FX.b_most_or passD (pu_cons (pvD 0) (pu_cons (pu_ix hr (pvD 0) (pu_neg pu_int)) pu_nil)))))
theorem ok_odd : FnOk P w K mg base CX0 1 FX.a_odd FX.d_odd ["row"] (spD K T mg 1 (F_odd FX.Gam)) := okD FX.F_odd sc_odd fun cdv A outer s H E hr hcd =>
  (pu_last (pu_ret (pu_if (DL.pt_cmp (od_eq hr) (pu_bin od_mod (pu_tcount (pvD 0) (pu_gc (by rfl) FX.c_DENY fun _ => .str)) pu_int) pu_int (by rfl)) (pu_gc (by rfl) FX.c_DENY fun _ => .str) (pu_gc (by rfl) FX.c_ALLOW fun _ => .str))))
theorem ok_turned : FnOk P w K mg base CX0 1 FX.a_turned FX.d_turned ["voice"] (spD K T mg 1 (F_turned FX.Gam)) := okD FX.F_turned sc_turned fun cdv A outer s H E hr hcd =>
  (pu_last (pu_ret (pu_if (DL.pt_cmp (od_eq hr) (pvD 0) (pu_gc (by rfl) FX.c_ALLOW fun _ => .str) (by rfl)) (pu_gc (by rfl) FX.c_DENY fun _ => .str) (pu_gc (by rfl) FX.c_ALLOW fun _ => .str))))
theorem ok_turned_at : FnOk P w K mg base CX0 2 FX.a_turned_at FX.d_turned_at ["row", "place"] (spD K T mg 2 (F_turned_at FX.Gam)) := okD FX.F_turned_at sc_turned_at fun cdv A outer s H E hr hcd =>
  (pu_last (pu_ret (pu_bin od_add (pu_bin od_add (pu_slice (pvD 0) puo_no (puo_so (pvD 1))) (pu_tup (pu_cons (pu_call (ok_turned FX TB) (hr.mono (by decide)) (by rfl) FX.g_turned FX.F_turned.kp FX.b_turned passD (pu_cons (pu_ix hr (pvD 0) (pvD 1)) pu_nil)) pu_nil) (hl := by first | decide | exact Nat.le_of_ble_eq_true rfl))) (pu_slice (pvD 0) (puo_so (pu_bin od_add (pvD 1) pu_int)) puo_no))))
theorem ok_check_way : FnOk P w K mg base CX0 1 FX.a_check_way FX.d_check_way ["way"] (spD K T mg 1 (F_check_way FX.Gam)) := okD FX.F_check_way sc_check_way fun cdv A outer s H E hr hcd =>
  (pu_last (pu_ifS (DL.pt_cmp (od_notIn hr) (pvD 0) (pu_gW (by rfl) FX.c_WAYS) (by rfl)) (pu_last (pu_rzB (by rfl))) pu_snil))
theorem ok_first_wrong : FnOk P w K mg base CX0 1 FX.a_first_wrong FX.d_first_wrong ["items"] (spD K T mg 1 (F_first_wrong FX.Gam)) := okD FX.F_first_wrong sc_first_wrong fun cdv A outer s H E hr hcd =>
  (pu_seq (pu_forP PassesOwn.never rfl (pu_iEn (by rfl) FX.z_enumerate (pvD 0)) (pg_name (i := 1) sc_first_wrong.nd rfl (by first | exact .inl rfl | exact .inr rfl)) (pg_name (i := 2) sc_first_wrong.nd rfl (by first | exact .inl rfl | exact .inr rfl)) (pu_last (pu_ifS (DL.pt_cmp (od_notIn hr) (pvD 2) (pu_gW (by rfl) FX.c_VOICES) (by rfl)) (pu_last (pu_ret (pvD 1))) pu_snil)))
  (pu_last (pu_ret pu_non)))
theorem ok_check_row : FnOk P w K mg base CX0 2 FX.a_check_row FX.d_check_row ["row"] (spD K T mg 1 (F_check_row FX.Gam)) := okD FX.F_check_row sc_check_row fun cdv A outer s H E hr hcd =>
  (pu_seq (pu_ifS ((DL.pw_or (DL.pt_not (pt_v (pu_isi1 (by rfl) FX.z_isinstance (pvD 0) (by rfl) FX.z_tuple PyProof.Rows.boot_tuple))) (DL.pw_oneO (DL.pt_not (DL.pt_chain od_le od_le pu_int (pu_callB cd_len (pvD 0) (by rfl) FX.z_len PySem.boot_len) (pu_gc (by rfl) FX.c_MOST_VOICES fun _ => .int)))))).pt (pu_last pu_bad) pu_snil)
  (pu_seq (pu_set (i := 1) sc_check_row.nd rfl (by first | exact .inl rfl | exact .inr rfl) (pu_call (ok_first_wrong FX TB) (hr.mono (by decide)) (by rfl) FX.g_first_wrong FX.F_first_wrong.kp FX.b_first_wrong passD (pu_cons (pvD 0) pu_nil)))
  (pu_last (pu_ifS (DL.pt_cmp od_isNot (pvD 1) pu_non (by rfl)) (pu_last pu_bad) pu_snil))))
theorem ok_check_text : FnOk P w K mg base (L2.CX P w) 1 FX.a_check_text FX.d_check_text ["text"] (spD K T mg 1 (F_check_text FX.Gam)) := okX FX.F_check_text sc_check_text fun cdv A outer s H E hr hcd =>
  (pu_last (pu_ifS (DL.pt_not (pt_v (pu_isi1 (by rfl) FX.z_isinstance (pvD 0) (by rfl) FX.z_str PyProof.Rows.boot_str))) (pu_last (pu_rz (by rfl) (pu_raise rfl takesX FX.x_NotText (by rfl)))) pu_snil))
theorem ok_text_of : FnOk P w K mg base CX0 2 FX.a_text_of FX.d_text_of ["voices"] (spD K T mg 1 (F_text_of FX.Gam)) := okD FX.F_text_of sc_text_of fun cdv A outer s H E hr hcd =>
  (pu_last (pu_ret (pu_joinG (z := []) rfl hr rfl (TB _ FX.m_text_of.1) FX.m_text_of.2 (hcd.symm.trans FX.e_text_of) (by show GX.GOk ["voices", "voice"] (defScope s_text_of) _ [("voice", 1)]; exact ⟨rfl, rfl, by decide +kernel, by decide +kernel, by decide +kernel, by decide +kernel, by decide +kernel⟩) sc_text_of.nd (pu_iS (pvD 0)) (fun _ _ _ _ _ _ => pg_name (i := 1) sc_text_of.nd rfl (by first | exact .inl rfl | exact .inr rfl)) (fun _ _ _ _ _ _ hg0 => pts_no) (fun _ _ _ _ _ _ hg0 => (pu_ixK (by rfl) FX.g_SIGN_OF FX.k_SIGN_OF (pvD 1))))))
theorem hF_ANSWERS : ∀ j F, fs_ANSWERS FX.Gam j = some F → Held P w K mg base 3 (FX.A j) (spD K T mg 1 F) := by
  intro j F h
  unfold fs_ANSWERS at h
  split at h
  · cases h; rw [FX.A_0]; exact ⟨_, _, (ok_allow_over FX TB).mono (by decide), FX.F_allow_over.kp, FX.b_allow_over⟩
  · cases h; rw [FX.A_1]; exact ⟨_, _, (ok_always_allow FX TB).mono (by decide), FX.F_always_allow.kp, FX.b_always_allow⟩
  · cases h; rw [FX.A_2]; exact ⟨_, _, (ok_always_deny FX TB).mono (by decide), FX.F_always_deny.kp, FX.b_always_deny⟩
  · cases h; rw [FX.A_3]; exact ⟨_, _, (ok_both_ends_ways FX TB).mono (by decide), FX.F_both_ends_ways.kp, FX.b_both_ends_ways⟩
  · cases h; rw [FX.A_4]; exact ⟨_, _, (ok_deny_over FX TB).mono (by decide), FX.F_deny_over.kp, FX.b_deny_over⟩
  · cases h; rw [FX.A_5]; exact ⟨_, _, (ok_first FX TB).mono (by decide), FX.F_first.kp, FX.b_first⟩
  · cases h; rw [FX.A_6]; exact ⟨_, _, (ok_island_ways FX TB).mono (by decide), FX.F_island_ways.kp, FX.b_island_ways⟩
  · cases h; rw [FX.A_7]; exact ⟨_, _, (ok_last FX TB).mono (by decide), FX.F_last.kp, FX.b_last⟩
  · cases h; rw [FX.A_8]; exact ⟨_, _, (ok_most_or_allow_ways FX TB).mono (by decide), FX.F_most_or_allow_ways.kp, FX.b_most_or_allow_ways⟩
  · cases h; rw [FX.A_9]; exact ⟨_, _, (ok_most_or_deny_ways FX TB).mono (by decide), FX.F_most_or_deny_ways.kp, FX.b_most_or_deny_ways⟩
  · cases h; rw [FX.A_10]; exact ⟨_, _, (ok_most_or_first FX TB).mono (by decide), FX.F_most_or_first.kp, FX.b_most_or_first⟩
  · cases h; rw [FX.A_11]; exact ⟨_, _, (ok_most_or_last FX TB).mono (by decide), FX.F_most_or_last.kp, FX.b_most_or_last⟩
  · cases h; rw [FX.A_12]; exact ⟨_, _, (ok_odd FX TB).mono (by decide), FX.F_odd.kp, FX.b_odd⟩
  · cases h
theorem ok_told_answer : FnOk P w K mg base CX0 4 FX.a_told_answer FX.d_told_answer ["way", "row"] (spD K T mg 2 (F_told_answer FX.Gam)) := okD FX.F_told_answer sc_told_answer fun cdv A outer s H E hr hcd =>
  (pu_seq (pu_set (i := 2) sc_told_answer.nd rfl (by first | exact .inl rfl | exact .inr rfl) (pu_ixK (by rfl) FX.g_ANSWERS FX.k_ANSWERS (pvD 0)))
  (pu_last (pu_ret (pu_callN (i := 2) (hF_ANSWERS FX TB) (hr.mono (by decide)) rfl (by first | exact Or.inl rfl | exact Or.inr (Or.inl rfl) | exact Or.inr (Or.inr rfl)) (pu_cons (pvD 1) pu_nil)))))
theorem ok_answer : FnOk P w K mg base CX0 5 FX.a_answer FX.d_answer ["way", "row"] (spD K T mg 2 (F_answer FX.Gam)) := okD FX.F_answer sc_answer fun cdv A outer s H E hr hcd =>
  (pu_seq (pu_expr (pu_call (ok_check_way FX TB) (hr.mono (by decide)) (by rfl) FX.g_check_way FX.F_check_way.kp FX.b_check_way passD (pu_cons (pvD 0) pu_nil)))
  (pu_seq (pu_expr (pu_call (ok_check_row FX TB) (hr.mono (by decide)) (by rfl) FX.g_check_row FX.F_check_row.kp FX.b_check_row passD (pu_cons (pvD 1) pu_nil)))
  (pu_last (pu_ret (pu_call (ok_told_answer FX TB) (hr.mono (by decide)) (by rfl) FX.g_told_answer FX.F_told_answer.kp FX.b_told_answer passD (pu_cons (pvD 0) (pu_cons (pvD 1) pu_nil)))))))
theorem ok_matters : FnOk P w K mg base CX0 6 FX.a_matters FX.d_matters ["way", "row"] (spD K T mg 2 (F_matters FX.Gam)) := okD FX.F_matters sc_matters fun cdv A outer s H E hr hcd =>
  (pu_seq (pu_set (i := 2) sc_matters.nd rfl (by first | exact .inl rfl | exact .inr rfl) (pu_call (ok_answer FX TB) (hr.mono (by decide)) (by rfl) FX.g_answer FX.F_answer.kp FX.b_answer passD (pu_cons (pvD 0) (pu_cons (pvD 1) pu_nil))))
  (pu_last (pu_ret (pu_tupG hr rfl (by rfl) FX.z_tuple PyProof.Rows.boot_tuple (TB _ FX.m_matters.1) FX.m_matters.2 (hcd.symm.trans FX.e_matters) (by show GX.GOk ["way", "row", "now", "place"] (defScope s_matters) _ [("place", 3)]; exact ⟨rfl, rfl, by decide +kernel, by decide +kernel, by decide +kernel, by decide +kernel, by decide +kernel⟩) sc_matters.nd (pu_iR1 (by rfl) FX.z_range (pu_callB cd_len (pvD 1) (by rfl) FX.z_len PySem.boot_len)) (fun _ _ _ _ _ _ => pg_name (i := 3) sc_matters.nd rfl (by first | exact .inl rfl | exact .inr rfl)) (fun _ _ _ _ _ _ hg0 => (pts_yes (DL.pt_cmp (od_ne hg0) (pu_call (ok_told_answer FX TB) (hg0.mono (by decide)) (by rfl) FX.g_told_answer FX.F_told_answer.kp FX.b_told_answer passD (pu_cons (pvD 0) (pu_cons (pu_call (ok_turned_at FX TB) (hg0.mono (by decide)) (by rfl) FX.g_turned_at FX.F_turned_at.kp FX.b_turned_at passD (pu_cons (pvD 1) (pu_cons (pvD 3) pu_nil))) pu_nil))) (pvD 2) (by rfl)))) (fun _ _ _ _ _ _ hg0 => (pvD 3))))))
theorem ok_law_taken : FnOk P w K mg base CX0 1 FX.a_law_taken FX.d_law_taken ["row", "many"] (spD K T mg 2 (F_law_taken FX.Gam)) := okD FX.F_law_taken sc_law_taken fun cdv A outer s H E hr hcd =>
  (pu_seq (pu_ifS (DL.pt_cmp od_gt (pu_rowG (i := 0) rfl (Or.inl rfl)) pu_int (by rfl)) (pu_seq (pu_set (i := 2) sc_law_taken.nd rfl (by first | exact .inl rfl | exact .inr rfl) (pu_bin od_mod (pu_callT cd_int (pu_rowG (i := 0) rfl (Or.inl rfl)) (by rfl) FX.z_int PyProof.Rows.boot_int) (pvD 1)))
    (pu_seq (pu_rowS (i := 0) rfl (Or.inl rfl) (pu_bin od_fdiv (pu_rowG (i := 0) rfl (Or.inl rfl)) (pvD 1)))
    (pu_last (pu_ret (pvD 2))))) pu_snil)
  (pu_seq (pu_rowS (i := 0) rfl (Or.inl rfl) (pu_bin od_add (pu_rowG (i := 0) rfl (Or.inl rfl)) pu_int))
  (pu_seq (pu_ifS (DL.pt_cmp od_gt (pu_rowG (i := 0) rfl (Or.inl rfl)) (pu_rowL (i := 0) (by rfl) FX.z_len rfl (Or.inl rfl)) (by rfl)) (pu_seq (pu_rowS (i := 0) rfl (Or.inl rfl) (pu_bin od_mod (pu_callT cd_int (pu_bin od_add (pu_bin od_mulI (pu_rowG (i := 0) rfl (Or.inl rfl)) pu_int) pu_int) (by rfl) FX.z_int PyProof.Rows.boot_int) pu_int))
    (pu_last (pu_ret (pu_bin od_mod (pu_callT cd_int (pu_bin od_fdiv (pu_rowG (i := 0) rfl (Or.inl rfl)) pu_int) (by rfl) FX.z_int PyProof.Rows.boot_int) (pvD 1))))) pu_snil)
  (pu_seq (pu_set (i := 3) sc_law_taken.nd rfl (by first | exact .inl rfl | exact .inr rfl) (pu_rowC (i := 0) rfl (Or.inl rfl) (pu_bin od_sub (pu_rowG (i := 0) rfl (Or.inl rfl)) pu_int)))
  (pu_seq (pu_rowS (i := 0) rfl (Or.inl rfl) (pu_bin od_mod (pu_callT cd_int (pu_bin od_add (pu_bin od_add (pu_bin od_mulI (pu_rowG (i := 0) rfl (Or.inl rfl)) pu_int) (pvD 3)) pu_int) (by rfl) FX.z_int PyProof.Rows.boot_int) pu_int))
  (pu_seq (pu_ifS (DL.pt_cmp od_ge (pvD 3) (pu_bin od_pow pu_int pu_int) (by rfl)) (pu_last (pu_rowS (i := 0) rfl (Or.inl rfl) (pu_bin od_fdiv (pvD 3) (pvD 1)))) pu_snil)
  (pu_last (pu_ret (pu_bin od_mod (pu_callT cd_int (pvD 3) (by rfl) FX.z_int PyProof.Rows.boot_int) (pvD 1))))))))))
theorem ok_law_pick : FnOk P w K mg base CX0 2 FX.a_law_pick FX.d_law_pick ["row", "kinds"] (spD K T mg 2 (F_law_pick FX.Gam)) := okD FX.F_law_pick sc_law_pick fun cdv A outer s H E hr hcd =>
  (pu_last (pu_ret (pu_ix hr (pvD 1) (pu_call (ok_law_taken FX TB) (hr.mono (by decide)) (by rfl) FX.g_law_taken FX.F_law_taken.kp FX.b_law_taken passD (pu_cons (pvD 0) (pu_cons (pu_callB cd_len (pvD 1) (by rfl) FX.z_len PySem.boot_len) pu_nil))))))
theorem ok_law_alike : ∀ n : Nat, FnOk P w K mg base CX0 (n + 1) FX.a_law_alike FX.d_law_alike ["found", "due"] (spD K T mg 2 (F_law_alike FX.Gam n))
  | 0 => okD FX.F_law_alike sc_law_alike fun cdv A outer s H E hr hcd => pus_bad
  | n + 1 => by
    have hrec := ok_law_alike n
    exact okD FX.F_law_alike sc_law_alike fun cdv A outer s H E hr hcd =>
  (pu_seq (pu_ifS (pt_v (pu_isi (by rfl) FX.z_isinstance (pvD 1) (bt_cons (by rfl) FX.z_tuple PyProof.Rows.boot_tuple (bt_cons (by rfl) FX.z_list PyProof.Rows.boot_list bt_nil)))) (pu_seq (pu_ifS ((DL.pw_or (DL.pt_not (pt_v (pu_isi (by rfl) FX.z_isinstance (pvD 0) (bt_cons (by rfl) FX.z_tuple PyProof.Rows.boot_tuple (bt_cons (by rfl) FX.z_list PyProof.Rows.boot_list bt_nil))))) (DL.pw_oneO (DL.pt_cmp (od_ne hr) (pu_isi1 (by rfl) FX.z_isinstance (pvD 0) (by rfl) FX.z_list PyProof.Rows.boot_list) (pu_isi1 (by rfl) FX.z_isinstance (pvD 1) (by rfl) FX.z_list PyProof.Rows.boot_list) (by rfl))))).pt (pu_last (pu_ret pu_bl)) pu_snil)
    (pu_seq (pu_ifS (DL.pt_cmp (od_ne hr) (pu_callB cd_len (pvD 0) (by rfl) FX.z_len PySem.boot_len) (pu_callB cd_len (pvD 1) (by rfl) FX.z_len PySem.boot_len) (by rfl)) (pu_last (pu_ret pu_bl)) pu_snil)
    (pu_last (pu_ret (pu_cmp (od_eq hr) (pu_lc (x := "k") rfl sc_law_alike.nd (pu_iR1 (by rfl) FX.z_range (pu_callB cd_len (pvD 1) (by rfl) FX.z_len PySem.boot_len)) (by show L2.BlkOk ["found", "due", "k"] (defScope s_law_alike) _ [("k", 2)]; exact ⟨rfl, by decide +kernel, by decide +kernel, by decide +kernel, by decide +kernel⟩) (fun _ _ _ _ _ => pg_name (i := 2) sc_law_alike.nd rfl (by first | exact .inl rfl | exact .inr rfl)) (fun _ _ _ _ _ => (pts_yes (DL.pt_not (pt_v (pu_call hrec hr (by rfl) FX.g_law_alike FX.F_law_alike.kp FX.b_law_alike passD (pu_cons (pu_ix hr (pvD 0) (pvD 2)) (pu_cons (pu_ix hr (pvD 1) (pvD 2)) pu_nil))))))) (fun _ _ _ _ _ => (pvD 2))) (pu_lst pu_nil (hl := by first | decide | exact Nat.le_of_ble_eq_true rfl)) (by rfl)))))) pu_snil)
  (pu_seq (pu_ifS ((DL.pw_or (DL.pt_cmp od_is (pvD 1) pu_non (by rfl)) (DL.pw_oneO (pt_v (pu_isi1 (by rfl) FX.z_isinstance (pvD 1) (by rfl) FX.z_str PyProof.Rows.boot_str))))).pt (pu_last (pu_ret (pu_and (pu_cmp (od_eq hr) (pvD 0) (pvD 1) (by rfl)) (pu_one (pu_cmp (od_eq hr) (pu_isi1 (by rfl) FX.z_isinstance (pvD 0) (by rfl) FX.z_str PyProof.Rows.boot_str) (pu_isi1 (by rfl) FX.z_isinstance (pvD 1) (by rfl) FX.z_str PyProof.Rows.boot_str) (by rfl)))))) pu_snil)
  (pu_last (pu_ret (pu_and (pu_isi1 (by rfl) FX.z_isinstance (pvD 0) (by rfl) FX.z_int PyProof.Rows.boot_int) (pu_and (pu_cmp (od_eq hr) (pu_isi1 (by rfl) FX.z_isinstance (pvD 0) (by rfl) FX.z_bool (by decide +kernel)) (pu_isi1 (by rfl) FX.z_isinstance (pvD 1) (by rfl) FX.z_bool (by decide +kernel)) (by rfl)) (pu_one (pu_cmp (od_eq hr) (pvD 0) (pvD 1) (by rfl)))))))))
theorem ok_law_ways : FnOk P w K mg base CX0 1 FX.a_law_ways FX.d_law_ways [] (spD K T mg 0 (F_law_ways FX.Gam)) := okD FX.F_law_ways sc_law_ways fun cdv A outer s H E hr hcd =>
  (pu_last (pu_ret (pu_lst (pu_cons (pu_str (by rfl)) (pu_cons (pu_str (by rfl)) (pu_cons (pu_str (by rfl)) (pu_cons (pu_str (by rfl)) (pu_cons (pu_str (by rfl)) (pu_cons (pu_str (by rfl)) (pu_cons (pu_str (by rfl)) (pu_cons (pu_str (by rfl)) (pu_cons (pu_str (by rfl)) (pu_cons (pu_str (by rfl)) (pu_cons (pu_str (by rfl)) (pu_cons (pu_str (by rfl)) (pu_cons (pu_str (by rfl)) pu_nil))))))))))))) (hl := by first | decide | exact Nat.le_of_ble_eq_true rfl))))
theorem ok_law_turned : FnOk P w K mg base CX0 1 FX.a_law_turned FX.d_law_turned ["text"] (spD K T mg 1 (F_law_turned FX.Gam)) := okD FX.F_law_turned sc_law_turned fun cdv A outer s H E hr hcd =>
  (pu_last (pu_ret (pu_m1 md_join PySem.F.slot_str_join PySem.F.type_str_join (pu_str (by rfl)) (pu_lc (x := "sign") rfl sc_law_turned.nd (pu_iS (pvD 0)) (by show L2.BlkOk ["text", "sign"] (defScope s_law_turned) _ [("sign", 1)]; exact ⟨rfl, by decide +kernel, by decide +kernel, by decide +kernel, by decide +kernel⟩) (fun _ _ _ _ _ => pg_name (i := 1) sc_law_turned.nd rfl (by first | exact .inl rfl | exact .inr rfl)) (fun _ _ _ _ _ => pts_no) (fun _ _ _ _ _ => (pu_if (DL.pt_cmp (od_eq hr) (pvD 1) (pu_str (by rfl)) (by rfl)) (pu_str (by rfl)) (pu_str (by rfl))))))))
theorem ok_law_answer : FnOk P w K mg base CX0 1 FX.a_law_answer FX.d_law_answer ["way", "text"] (spD K T mg 2 (F_law_answer FX.Gam)) := okD FX.F_law_answer sc_law_answer fun cdv A outer s H E hr hcd =>
  (pu_seq (pu_set (i := 2) sc_law_answer.nd rfl (by first | exact .inl rfl | exact .inr rfl) (pu_bin od_sub (pu_m1 md_count PySem.F.slot_str_count PySem.F.type_str_count (pvD 1) (pu_str (by rfl))) (pu_m1 md_count PySem.F.slot_str_count PySem.F.type_str_count (pvD 1) (pu_str (by rfl)))))
  (pu_seq (pu_ifS (DL.pt_cmp (od_eq hr) (pu_slice (pvD 0) puo_no (puo_so pu_int)) (pu_str (by rfl)) (by rfl)) (pu_seq (pu_set (i := 3) sc_law_answer.nd rfl (by first | exact .inl rfl | exact .inr rfl) (pu_disp (ppd_cons (by rfl) (pu_str (by rfl)) (ppd_cons (by rfl) (pu_str (by rfl)) (ppd_cons (by rfl) (pu_ix hr (pvD 1) pu_int) (ppd_cons (by rfl) (pu_ix hr (pvD 1) (pu_neg pu_int)) ppd_nil))))))
    (pu_last (pu_ret (pu_if (DL.pt_cmp (od_eq hr) (pvD 2) pu_int (by rfl)) (pu_ix hr (pvD 3) (pu_slice (pvD 0) (puo_so pu_int) puo_no)) (pu_if (DL.pt_cmp od_gt (pvD 2) pu_int (by rfl)) (pu_str (by rfl)) (pu_str (by rfl))))))) pu_snil)
  (pu_seq (pu_ifS (DL.pt_cmp (od_in hr) (pvD 0) (pu_lst (pu_cons (pu_str (by rfl)) (pu_cons (pu_str (by rfl)) pu_nil)) (hl := by first | decide | exact Nat.le_of_ble_eq_true rfl)) (by rfl)) (pu_last (pu_ret (pu_ix hr (pvD 1) (pu_if (DL.pt_cmp (od_eq hr) (pvD 0) (pu_str (by rfl)) (by rfl)) pu_int (pu_bin od_sub (pu_callB cd_len (pvD 1) (by rfl) FX.z_len PySem.boot_len) pu_int))))) pu_snil)
  (pu_seq (pu_set (i := 4) sc_law_answer.nd rfl (by first | exact .inl rfl | exact .inr rfl) (pu_cmp (od_eq hr) (pvD 0) (pu_str (by rfl)) (by rfl)))
  (pu_seq (pu_ifS (DL.pt_cmp (od_eq hr) (pvD 0) (pu_str (by rfl)) (by rfl)) (pu_last (pu_set (i := 4) sc_law_answer.nd rfl (by first | exact .inl rfl | exact .inr rfl) (pu_cmp od_gt (pu_m1 md_count PySem.F.slot_str_count PySem.F.type_str_count (pvD 1) (pu_str (by rfl))) pu_int (by rfl)))) pu_snil)
  (pu_seq (pu_ifS (DL.pt_cmp (od_eq hr) (pvD 0) (pu_str (by rfl)) (by rfl)) (pu_last (pu_set (i := 4) sc_law_answer.nd rfl (by first | exact .inl rfl | exact .inr rfl) (pu_cmp (od_eq hr) (pu_m1 md_count PySem.F.slot_str_count PySem.F.type_str_count (pvD 1) (pu_str (by rfl))) pu_int (by rfl)))) pu_snil)
  (pu_seq (pu_ifS (DL.pt_cmp (od_eq hr) (pvD 0) (pu_str (by rfl)) (by rfl)) (pu_last (pu_set (i := 4) sc_law_answer.nd rfl (by first | exact .inl rfl | exact .inr rfl) (pu_cmp (od_in hr) (pu_m1 md_count PySem.F.slot_str_count PySem.F.type_str_count (pvD 1) (pu_str (by rfl))) (pu_lst (pu_cons pu_int (pu_cons pu_int (pu_cons pu_int (pu_cons pu_int (pu_cons pu_int (pu_cons pu_int (pu_cons pu_int pu_nil))))))) (hl := by first | decide | exact Nat.le_of_ble_eq_true rfl)) (by rfl)))) pu_snil)
  (pu_seq (pu_ifS (DL.pt_cmp (od_eq hr) (pvD 0) (pu_str (by rfl)) (by rfl)) (pu_last (pu_set (i := 4) sc_law_answer.nd rfl (by first | exact .inl rfl | exact .inr rfl) (pu_cmp (od_eq hr) (pu_bin od_add (pu_slice (pvD 1) puo_no (puo_so pu_int)) (pu_slice (pvD 1) (puo_so (pu_neg pu_int)) puo_no)) (pu_str (by rfl)) (by rfl)))) pu_snil)
  (pu_seq (pu_ifS (DL.pt_cmp (od_eq hr) (pvD 0) (pu_str (by rfl)) (by rfl)) (pu_seq (by first | exact pu_setLc (x := "at") (j := 5) rfl sc_law_answer.nd rfl rfl (by rfl) (pu_iR2 (by rfl) FX.z_range pu_int (pu_callB cd_len (pvD 1) (by rfl) FX.z_len PySem.boot_len)) (by show L2.BlkOk ["way", "text", "more", "ties", "good", "changes", "at"] (defScope s_law_answer) _ [("at", 6)]; exact ⟨rfl, by decide +kernel, by decide +kernel, by decide +kernel, by decide +kernel⟩) (fun _ _ _ _ _ => pg_name (i := 6) sc_law_answer.nd rfl (by first | exact .inl rfl | exact .inr rfl)) (fun _ _ _ _ _ => (pts_yes (DL.pt_cmp (od_ne hr) (pu_ix hr (pvD 1) (pvD 6)) (pu_ix hr (pvD 1) (pu_bin od_sub (pvD 6) pu_int)) (by rfl)))) (fun _ _ _ _ _ => (pvD 6)) | exact pu_set (i := 5) sc_law_answer.nd rfl (by first | exact .inl rfl | exact .inr rfl) (pu_lc (x := "at") rfl sc_law_answer.nd (pu_iR2 (by rfl) FX.z_range pu_int (pu_callB cd_len (pvD 1) (by rfl) FX.z_len PySem.boot_len)) (by show L2.BlkOk ["way", "text", "more", "ties", "good", "changes", "at"] (defScope s_law_answer) _ [("at", 6)]; exact ⟨rfl, by decide +kernel, by decide +kernel, by decide +kernel, by decide +kernel⟩) (fun _ _ _ _ _ => pg_name (i := 6) sc_law_answer.nd rfl (by first | exact .inl rfl | exact .inr rfl)) (fun _ _ _ _ _ => (pts_yes (DL.pt_cmp (od_ne hr) (pu_ix hr (pvD 1) (pvD 6)) (pu_ix hr (pvD 1) (pu_bin od_sub (pvD 6) pu_int)) (by rfl)))) (fun _ _ _ _ _ => (pvD 6))))
    (pu_last (pu_set (i := 4) sc_law_answer.nd rfl (by first | exact .inl rfl | exact .inr rfl) (pu_or (pu_and (pu_cmp (od_eq hr) (pu_ix hr (pvD 1) pu_int) (pu_str (by rfl)) (by rfl)) (pu_one (pu_cmp (od_eq hr) (pvD 5) (pu_lst pu_nil (hl := by first | decide | exact Nat.le_of_ble_eq_true rfl)) (by rfl)))) (pu_one (pu_and (pu_cmp (od_eq hr) (pu_ix hr (pvD 1) pu_int) (pu_str (by rfl)) (by rfl)) (pu_one (pu_cmp (od_eq hr) (pu_callB cd_len (pvD 5) (by rfl) FX.z_len PySem.boot_len) pu_int (by rfl))))))))) pu_snil)
  (pu_last (pu_ret (pu_if (pt_v (pvD 4)) (pu_str (by rfl)) (pu_str (by rfl))))))))))))))
theorem ok_law_word : FnOk P w K mg base CX0 1 FX.a_law_word FX.d_law_word ["sign"] (spD K T mg 1 (F_law_word FX.Gam)) := okD FX.F_law_word sc_law_word fun cdv A outer s H E hr hcd =>
  (pu_last (pu_ret (pu_ix hr (pu_disp (ppd_cons (by rfl) (pu_str (by rfl)) (ppd_cons (by rfl) (pu_str (by rfl)) ppd_nil))) (pvD 0))))
theorem ok_law_voices : FnOk P w K mg base CX0 2 FX.a_law_voices FX.d_law_voices ["text"] (spD K T mg 1 (F_law_voices FX.Gam)) := okD FX.F_law_voices sc_law_voices fun cdv A outer s H E hr hcd =>
  (pu_last (pu_ret (pu_callT cd_tuple (pu_lc (x := "sign") rfl sc_law_voices.nd (pu_iS (pvD 0)) (by show L2.BlkOk ["text", "sign"] (defScope s_law_voices) _ [("sign", 1)]; exact ⟨rfl, by decide +kernel, by decide +kernel, by decide +kernel, by decide +kernel⟩) (fun _ _ _ _ _ => pg_name (i := 1) sc_law_voices.nd rfl (by first | exact .inl rfl | exact .inr rfl)) (fun _ _ _ _ _ => pts_no) (fun _ _ _ _ _ => (pu_call (ok_law_word FX TB) (hr.mono (by decide)) (by rfl) FX.g_law_word FX.F_law_word.kp FX.b_law_word passD (pu_cons (pvD 1) pu_nil)))) (by rfl) FX.z_tuple PyProof.Rows.boot_tuple)))
theorem ok_law_flip : FnOk P w K mg base CX0 2 FX.a_law_flip FX.d_law_flip ["text", "at"] (spD K T mg 2 (F_law_flip FX.Gam)) := okD FX.F_law_flip sc_law_flip fun cdv A outer s H E hr hcd =>
  (pu_last (pu_ret (pu_bin od_add (pu_bin od_add (pu_slice (pvD 0) puo_no (puo_so (pvD 1))) (pu_call (ok_law_turned FX TB) (hr.mono (by decide)) (by rfl) FX.g_law_turned FX.F_law_turned.kp FX.b_law_turned passD (pu_cons (pu_ix hr (pvD 0) (pvD 1)) pu_nil))) (pu_slice (pvD 0) (puo_so (pu_bin od_add (pvD 1) pu_int)) puo_no))))
-- _law_told: Try
theorem ok_desk_row : FnOk P w K mg base CX0 1 FX.a_desk_row FX.d_desk_row ["self"] (spD K T mg 1 (F_desk_row FX.Gam)) := okD FX.F_desk_row sc_desk_row fun cdv A outer s H E hr hcd =>
  (pu_last (pu_ret (pu_fldD FX.cl_D FX.n__row (pvD 0))))
theorem ok_desk_answer : FnOk P w K mg base CX0 1 FX.a_desk_answer FX.d_desk_answer ["self"] (spD K T mg 1 (F_desk_answer FX.Gam)) := okD FX.F_desk_answer sc_desk_answer fun cdv A outer s H E hr hcd =>
  (pu_last (pu_ret (pu_fldD FX.cl_D FX.n__answer (pvD 0))))
theorem ok_desk_keep : FnOk P w K mg base CX0 5 FX.a_desk_keep FX.d_desk_keep ["self", "voices"] (spD K T mg 2 (F_desk_keep FX.Gam)) := okD FX.F_desk_keep sc_desk_keep fun cdv A outer s H E hr hcd =>
  (pu_seq (pu_fldS FX.cl_D FX.n__row (pvD 0) (pvD 1))
  (pu_last (pu_fldS FX.cl_D FX.n__answer (pvD 0) (pu_if (DL.pt_cmp (od_eq hr) (pu_callB cd_len (pvD 1) (by rfl) FX.z_len PySem.boot_len) pu_int (by rfl)) pu_non (pu_call (ok_told_answer FX TB) (hr.mono (by decide)) (by rfl) FX.g_told_answer FX.F_told_answer.kp FX.b_told_answer passD (pu_cons (pu_fldD FX.cl_D FX.n__way (pvD 0)) (pu_cons (pvD 1) pu_nil)))))))
theorem ok_desk_add : FnOk P w K mg base (L2.CX P w) 6 FX.a_desk_add FX.d_desk_add ["self", "voice"] (spD K T mg 2 (F_desk_add FX.Gam)) := okX FX.F_desk_add sc_desk_add fun cdv A outer s H E hr hcd =>
  (pu_seq (pu_ifS (DL.pt_cmp (od_eq hr) (pu_callB cd_len (pu_fldD FX.cl_D FX.n__row (pvD 0)) (by rfl) FX.z_len PySem.boot_len) (pu_gc (by rfl) FX.c_MOST_VOICES fun _ => .int) (by rfl)) (pu_last (pu_rz (by rfl) (pu_raise rfl takesX FX.x_NotNow (by rfl)))) pu_snil)
  (pu_last (pu_expr (pu_meth FX.cl_D FX.M_desk_keep (ok_desk_keep FX TB) (hr.mono (by decide)) FX.b_desk_keep passD (pvD 0) (pu_cons (pu_bin od_add (pu_fldD FX.cl_D FX.n__row (pvD 0)) (pu_tup (pu_cons (pvD 1) pu_nil) (hl := by first | decide | exact Nat.le_of_ble_eq_true rfl))) pu_nil)))))
theorem ok_desk_places : FnOk P w K mg base CX0 7 FX.a_desk_places FX.d_desk_places ["self"] (spD K T mg 1 (F_desk_places FX.Gam)) := okD FX.F_desk_places sc_desk_places fun cdv A outer s H E hr hcd =>
  (pu_seq (pu_set (i := 1) sc_desk_places.nd rfl (by first | exact .inl rfl | exact .inr rfl) (pu_if (DL.pt_cmp (od_eq hr) (pu_callB cd_len (pu_fldD FX.cl_D FX.n__row (pvD 0)) (by rfl) FX.z_len PySem.boot_len) pu_int (by rfl)) (pu_tup pu_nil (hl := by first | decide | exact Nat.le_of_ble_eq_true rfl)) (pu_call (ok_matters FX TB) (hr.mono (by decide)) (by rfl) FX.g_matters FX.F_matters.kp FX.b_matters passD (pu_cons (pu_fldD FX.cl_D FX.n__way (pvD 0)) (pu_cons (pu_fldD FX.cl_D FX.n__row (pvD 0)) pu_nil)))))
  (pu_last (pu_ret (pu_if (DL.pt_cmp (od_eq hr) (pu_callB cd_len (pvD 1) (by rfl) FX.z_len PySem.boot_len) pu_int (by rfl)) (pu_str (by rfl)) (pu_joinG (z := [32]) rfl hr rfl (TB _ FX.m_desk_places.1) FX.m_desk_places.2 (hcd.symm.trans FX.e_desk_places) (by show GX.GOk ["self", "places", "place"] (defScope s_desk_places) _ [("place", 2)]; exact ⟨rfl, rfl, by decide +kernel, by decide +kernel, by decide +kernel, by decide +kernel, by decide +kernel⟩) sc_desk_places.nd (pu_iS (pvD 1)) (fun _ _ _ _ _ _ => pg_name (i := 2) sc_desk_places.nd rfl (by first | exact .inl rfl | exact .inr rfl)) (fun _ _ _ _ _ _ hg0 => pts_no) (fun _ _ _ _ _ _ hg0 => (pu_callT cd_str (pvD 2) (by rfl) FX.z_str PyProof.Rows.boot_str)))))))
theorem ok_desk_run : FnOk P w K mg base (L2.CX P w) 8 FX.a_desk_run FX.d_desk_run ["self", "line"] (spD K T mg 2 (F_desk_run FX.Gam)) := okX FX.F_desk_run sc_desk_run fun cdv A outer s H E hr hcd =>
  (pu_seq (pu_expr (pu_call (ok_check_text FX TB) (hr.mono (by decide)) (by rfl) FX.g_check_text FX.F_check_text.kp FX.b_check_text passX (pu_cons (pvD 1) pu_nil)))
  (pu_seq (pu_ifS (DL.pt_cmp (od_in hr) (pvD 1) (pu_gW (by rfl) FX.c_VOICES) (by rfl)) (pu_seq (pu_expr (pu_meth FX.cl_D FX.M_desk_add (ok_desk_add FX TB) (hr.mono (by decide)) FX.b_desk_add passX (pvD 0) (pu_cons (pvD 1) pu_nil)))
    (pu_last (pu_ret pu_non))) pu_snil)
  (pu_seq (pu_ifS (DL.pt_cmp (od_eq hr) (pvD 1) (pu_str (by rfl)) (by rfl)) (pu_last (pu_ret (pu_call (ok_text_of FX TB) (hr.mono (by decide)) (by rfl) FX.g_text_of FX.F_text_of.kp FX.b_text_of passD (pu_cons (pu_fldD FX.cl_D FX.n__row (pvD 0)) pu_nil)))) pu_snil)
  (pu_seq (pu_ifS (DL.pt_cmp (od_eq hr) (pvD 1) (pu_str (by rfl)) (by rfl)) (pu_last (pu_ret (pu_if (DL.pt_cmp od_is (pu_fldD FX.cl_D FX.n__answer (pvD 0)) pu_non (by rfl)) (pu_str (by rfl)) (pu_fldD FX.cl_D FX.n__answer (pvD 0))))) pu_snil)
  (pu_seq (pu_ifS (DL.pt_cmp (od_eq hr) (pvD 1) (pu_str (by rfl)) (by rfl)) (pu_last (pu_ret (pu_meth0 FX.cl_D FX.M_desk_places (ok_desk_places FX TB) (hr.mono (by decide)) FX.b_desk_places passD (pvD 0)))) pu_snil)
  (pu_last (pu_rz (by rfl) (pu_raise rfl takesX FX.x_InvalidText (by rfl)))))))))
theorem ok_law_shown : FnOk P w K mg base (L2.CX P w) 9 FX.a_law_shown FX.d_law_shown ["desk", "way", "text"] (spD K T mg 3 (F_law_shown FX.Gam)) := okX FX.F_law_shown sc_law_shown fun cdv A outer s H E hr hcd =>
  (pu_seq (pu_set (i := 3) sc_law_shown.nd rfl (by first | exact .inl rfl | exact .inr rfl) (pu_if (DL.pt_cmp (od_ne hr) (pvD 2) (pu_str (by rfl)) (by rfl)) (pu_call (ok_law_answer FX TB) (hr.mono (by decide)) (by rfl) FX.g_law_answer FX.F_law_answer.kp FX.b_law_answer passD (pu_cons (pvD 1) (pu_cons (pvD 2) pu_nil))) pu_non))
  (pu_seq (pu_ifS (DL.pt_not (pt_v (pu_call (ok_law_alike FX TB 3) (hr.mono (by decide)) (by rfl) FX.g_law_alike FX.F_law_alike.kp FX.b_law_alike passD (pu_cons (pu_lst (pu_cons (pu_prop FX.cl_D FX.P_desk_row (ok_desk_row FX TB) (hr.mono (by decide)) FX.b_desk_row passD (pvD 0)) (pu_cons (pu_prop FX.cl_D FX.P_desk_answer (ok_desk_answer FX TB) (hr.mono (by decide)) FX.b_desk_answer passD (pvD 0)) pu_nil)) (hl := by first | decide | exact Nat.le_of_ble_eq_true rfl)) (pu_cons (pu_lst (pu_cons (pu_call (ok_law_voices FX TB) (hr.mono (by decide)) (by rfl) FX.g_law_voices FX.F_law_voices.kp FX.b_law_voices passD (pu_cons (pvD 2) pu_nil)) (pu_cons (pu_if (DL.pt_cmp od_isNot (pvD 3) pu_non (by rfl)) (pu_call (ok_law_word FX TB) (hr.mono (by decide)) (by rfl) FX.g_law_word FX.F_law_word.kp FX.b_law_word passD (pu_cons (pvD 3) pu_nil)) pu_non) pu_nil)) (hl := by first | decide | exact Nat.le_of_ble_eq_true rfl)) pu_nil))))) (pu_last (pu_ret pu_bl)) pu_snil)
  (pu_seq (pu_ifS ((DL.pw_or (DL.pt_cmp (od_ne hr) (pu_meth FX.cl_D FX.M_desk_run (ok_desk_run FX TB) (hr.mono (by decide)) FX.b_desk_run passX (pvD 0) (pu_cons (pu_str (by rfl)) pu_nil)) (pvD 2) (by rfl)) (DL.pw_oneO (DL.pt_cmp (od_ne hr) (pu_meth FX.cl_D FX.M_desk_run (ok_desk_run FX TB) (hr.mono (by decide)) FX.b_desk_run passX (pvD 0) (pu_cons (pu_str (by rfl)) pu_nil)) (pu_if (DL.pt_cmp od_isNot (pvD 3) pu_non (by rfl)) (pu_call (ok_law_word FX TB) (hr.mono (by decide)) (by rfl) FX.g_law_word FX.F_law_word.kp FX.b_law_word passD (pu_cons (pvD 3) pu_nil)) (pu_str (by rfl))) (by rfl))))).pt (pu_last (pu_ret pu_bl)) pu_snil)
  (pu_seq (by first | exact pu_setLc (x := "at") (j := 4) rfl sc_law_shown.nd rfl rfl (by rfl) (pu_iR1 (by rfl) FX.z_range (pu_callB cd_len (pvD 2) (by rfl) FX.z_len PySem.boot_len)) (by show L2.BlkOk ["desk", "way", "text", "here", "some", "at"] (defScope s_law_shown) _ [("at", 5)]; exact ⟨rfl, by decide +kernel, by decide +kernel, by decide +kernel, by decide +kernel⟩) (fun _ _ _ _ _ => pg_name (i := 5) sc_law_shown.nd rfl (by first | exact .inl rfl | exact .inr rfl)) (fun _ _ _ _ _ => (pts_yes (DL.pt_cmp (od_ne hr) (pu_call (ok_law_answer FX TB) (hr.mono (by decide)) (by rfl) FX.g_law_answer FX.F_law_answer.kp FX.b_law_answer passD (pu_cons (pvD 1) (pu_cons (pu_call (ok_law_flip FX TB) (hr.mono (by decide)) (by rfl) FX.g_law_flip FX.F_law_flip.kp FX.b_law_flip passD (pu_cons (pvD 2) (pu_cons (pvD 5) pu_nil))) pu_nil))) (pvD 3) (by rfl)))) (fun _ _ _ _ _ => (pu_callT cd_str (pvD 5) (by rfl) FX.z_str PyProof.Rows.boot_str)) | exact pu_set (i := 4) sc_law_shown.nd rfl (by first | exact .inl rfl | exact .inr rfl) (pu_lc (x := "at") rfl sc_law_shown.nd (pu_iR1 (by rfl) FX.z_range (pu_callB cd_len (pvD 2) (by rfl) FX.z_len PySem.boot_len)) (by show L2.BlkOk ["desk", "way", "text", "here", "some", "at"] (defScope s_law_shown) _ [("at", 5)]; exact ⟨rfl, by decide +kernel, by decide +kernel, by decide +kernel, by decide +kernel⟩) (fun _ _ _ _ _ => pg_name (i := 5) sc_law_shown.nd rfl (by first | exact .inl rfl | exact .inr rfl)) (fun _ _ _ _ _ => (pts_yes (DL.pt_cmp (od_ne hr) (pu_call (ok_law_answer FX TB) (hr.mono (by decide)) (by rfl) FX.g_law_answer FX.F_law_answer.kp FX.b_law_answer passD (pu_cons (pvD 1) (pu_cons (pu_call (ok_law_flip FX TB) (hr.mono (by decide)) (by rfl) FX.g_law_flip FX.F_law_flip.kp FX.b_law_flip passD (pu_cons (pvD 2) (pu_cons (pvD 5) pu_nil))) pu_nil))) (pvD 3) (by rfl)))) (fun _ _ _ _ _ => (pu_callT cd_str (pvD 5) (by rfl) FX.z_str PyProof.Rows.boot_str))))
  (pu_last (pu_ret (pu_cmp (od_eq hr) (pu_meth FX.cl_D FX.M_desk_run (ok_desk_run FX TB) (hr.mono (by decide)) FX.b_desk_run passX (pvD 0) (pu_cons (pu_str (by rfl)) pu_nil)) (pu_if (DL.pt_cmp (od_ne hr) (pvD 4) (pu_lst pu_nil (hl := by first | decide | exact Nat.le_of_ble_eq_true rfl)) (by rfl)) (pu_m1 md_join PySem.F.slot_str_join PySem.F.type_str_join (pu_str (by rfl)) (pvD 4)) (pu_str (by rfl))) (by rfl))))))))
theorem ok_desk_init : FnOk P w K mg base CX0 2 FX.a_desk_init FX.d_desk_init ["self", "way"] (spD K T mg 2 (F_desk_init FX.Gam)) := okD FX.F_desk_init sc_desk_init fun cdv A outer s H E hr hcd =>
  (pu_seq (pu_expr (pu_call (ok_check_way FX TB) (hr.mono (by decide)) (by rfl) FX.g_check_way FX.F_check_way.kp FX.b_check_way passD (pu_cons (pvD 1) pu_nil)))
  (pu_seq (pu_fldS FX.cl_D FX.n__way (pvD 0) (pvD 1))
  (pu_seq (pu_fldS FX.cl_D FX.n__row (pvD 0) (pu_tup pu_nil (hl := by first | decide | exact Nat.le_of_ble_eq_true rfl)))
  (pu_last (pu_fldS FX.cl_D FX.n__answer (pvD 0) pu_non)))))
theorem ok_desk_undo : FnOk P w K mg base (L2.CX P w) 6 FX.a_desk_undo FX.d_desk_undo ["self"] (spD K T mg 1 (F_desk_undo FX.Gam)) := okX FX.F_desk_undo sc_desk_undo fun cdv A outer s H E hr hcd =>
  (pu_seq (pu_ifS (DL.pt_cmp (od_eq hr) (pu_callB cd_len (pu_fldD FX.cl_D FX.n__row (pvD 0)) (by rfl) FX.z_len PySem.boot_len) pu_int (by rfl)) (pu_last (pu_rz (by rfl) (pu_raise rfl takesX FX.x_NothingToUndo (by rfl)))) pu_snil)
  (pu_last (pu_expr (pu_meth FX.cl_D FX.M_desk_keep (ok_desk_keep FX TB) (hr.mono (by decide)) FX.b_desk_keep passD (pvD 0) (pu_cons (pu_slice (pu_fldD FX.cl_D FX.n__row (pvD 0)) puo_no (puo_so (pu_neg pu_int))) pu_nil)))))
omit TB in
theorem told_of {A : Around} {outer : List Env} {s : Shared} {H : Hp} {E : XK} {f : Addr} {cd : Value} (cdv : Value) : LamX.GivesTo (cxOf CX0 P w K mg base ["script", "row", "way", "text", "desk", "turn", "deed", "sign"] "law" (defScope s_law) f cd A outer s H E).nox ["work", "e", "known"] "_law_told" (defScope s_law_told_u) FX.a_law_told_u cdv (defBody s_law_told_u) "work" lamQ (TTell2 mg tellW) :=
  told_gives4 (X := (cxOf CX0 P w K mg base ["script", "row", "way", "text", "desk", "turn", "deed", "sign"] "law" (defScope s_law) f cd A outer s H E).nox) rfl (by decide) rfl rfl rfl rfl rfl rfl rfl rfl FX.gc_VoiceError FX.gc_InvalidText FX.gc_NotNow FX.gc_NotText FX.gc_NothingToUndo FX.z_isinstance rfl rfl rfl rfl rfl rfl rfl rfl rfl rfl rfl (by
    intro y c v h1 h2
    unfold tellW at h1
    split at h1
    · rename_i hy; have hy := eq_of_beq hy; subst hy; cases h1; cases FX.gc_InvalidText.symm.trans h2; exact FX.tc_InvalidText
    split at h1
    · rename_i hy; have hy := eq_of_beq hy; subst hy; cases h1; cases FX.gc_NotNow.symm.trans h2; exact FX.tc_NotNow
    split at h1
    · rename_i hy; have hy := eq_of_beq hy; subst hy; cases h1; cases FX.gc_NotText.symm.trans h2; exact FX.tc_NotText
    split at h1
    · rename_i hy; have hy := eq_of_beq hy; subst hy; cases h1; cases FX.gc_NothingToUndo.symm.trans h2; exact FX.tc_NothingToUndo
    cases h1)
end
noncomputable def B_law (Γ : Cfg) : Addr → SM :=
  fun a =>
  sSeq (sPar 2 3 (eCall (F_law_pick Γ) [eV 1, eCall (F_law_ways Γ) []]) (eC (.str [])))
  (sSeq (sMkDk 4 a (F_desk_init Γ) (eV 2))
  (sSeq (sIf (tOr (tV (e2 (op2 neD) (eTold tellW (eMeth "undo" (F_desk_undo Γ) (eV 4) [])) (eC (.str [117, 110, 100, 111])))) (tNot (tV (eCall (F_law_shown Γ) [eV 4, eV 2, eV 3])))) (sRet (eC (.bl false))) (sNil))
  (sSeq (sFor 5 (iR1 (eCall (F_law_taken Γ) [eV 1, eC (.int (18))])) (sSeq (sSet 6 (eCall (F_law_taken Γ) [eV 1, eC (.int (8))]))
    (sIf (tV (e2 (op2 eqD) (eV 6) (eC (.int (0))))) (sIf (tV (e2 (op2 neD) (eTold tellW (eMeth "run" (F_desk_run Γ) (eV 4) [eCall (F_law_pick Γ) [eV 1, eLst [eC (.str []), eC (.str [65, 108, 108, 111, 119]), eC (.str [100, 101, 110, 121, 32]), eC (.str [43]), eC (.str [97, 108, 108, 111, 119, 32, 100, 101, 110, 121]), eC (.str [97, 110, 115, 119, 101, 114, 32])]]])) (eC (.str [105, 110, 118, 97, 108, 105, 100])))) (sRet (eC (.bl false))) (sNil)) (sIf (tV (e2 (op2 eqD) (eV 6) (eC (.int (1))))) (sIf (tV (e2 (op2 neD) (eTold tellW (eMeth "run" (F_desk_run Γ) (eV 4) [eCall (F_law_pick Γ) [eV 1, eLst [eC .non, eC (.int (5)), eLst [eC (.str [100, 101, 110, 121])], eTup [eC (.str [100, 101, 110, 121])]]]])) (eC (.str [116, 101, 120, 116])))) (sRet (eC (.bl false))) (sNil)) (sIf (tAnd (tV (e2 (op2 eqD) (eV 6) (eC (.int (2))))) (tV (e2 (op2 neD) (eV 3) (eC (.str []))))) (sSeq (sEx (eMeth "undo" (F_desk_undo Γ) (eV 4) []))
          (sSet 3 (eSl (eV 3) pNo (pSo (e1 (op1 negD) (eC (.int (1)))))))) (sIf (tV (e2 (op2 ltD) (e1 (op1 lenD) (eV 3)) (eC (.int (12))))) (sSeq (sSet 7 (eCall (F_law_pick Γ) [eV 1, eLst [eC (.str [43]), eC (.str [45])]]))
            (sSeq (sIf (tV (e2 (op2 isNotD) (eMeth "run" (F_desk_run Γ) (eV 4) [eCall (F_law_word Γ) [eV 7]]) (eC .non))) (sRet (eC (.bl false))) (sNil))
            (sSet 3 (e2 (op2 addD) (eV 3) (eV 7))))) (sIf (tV (e2 (op2 neD) (eTold tellW (eMeth "run" (F_desk_run Γ) (eV 4) [eCall (F_law_pick Γ) [eV 1, eLst [eC (.str [97, 108, 108, 111, 119]), eC (.str [100, 101, 110, 121])]]])) (eC (.str [110, 111, 119])))) (sRet (eC (.bl false))) (sNil))))))))
  (sRet (eCall (F_law_shown Γ) [eV 4, eV 2, eV 3])))))
section
variable {P : Program} {w : World} {K : PySem.W.Frag} {mg : Str → Option Value} {base : Heap} {T : Tb} {CS : List (Addr × Addr)} (FX : Fx w K mg T CS) (TB : ∀ p ∈ CS, GxR.TabB base mg p.1 p.2)
include FX TB
theorem ok_law (hT : ∀ P ∈ T, P ∈ CS.map (·.2)) (hL : ∀ p ∈ T.ls, p.1 ∈ CS.map (·.2)) (hD : ∀ p ∈ T.ls, ¬ p.1 ∈ T) (hm : ∀ ns : List Int, ns.length ≤ 63 → (∀ z ∈ ns, Builtin.Int.intBits z ≤ 1048576) → ∀ a, ∃ z', B_law FX.Gam a (rhoL 8) ⟨ns, 0, 15609, 0, none⟩ = .rt (.bl true) z') : FnOk P w K mg base CX0 11 FX.a_law FX.d_law ["script"] (spLaw K CS) :=
  ok_lawDA FX.F_law sc_law rfl rfl (by first | exact .inl rfl | exact .inr rfl) (by decide) (by decide) (fun _ _ _ _ _ _ => by rfl) (fun cdv A outer s H E hr hcd =>
  (pu_seqA (by first | exact pu_par rfl sc_law.nd rfl rfl (by decide) rfl rfl (pu_cons (pu_call (ok_law_pick FX TB) (hr.mono (by decide)) (by rfl) FX.g_law_pick FX.F_law_pick.kp FX.b_law_pick passD (pu_cons (pvD 1) (pu_cons (pu_call0 (ok_law_ways FX TB) (hr.mono (by decide)) (by rfl) FX.g_law_ways FX.F_law_ways.kp FX.b_law_ways passD) pu_nil))) (pu_cons (pu_str (by rfl)) pu_nil)) (by rfl) | exact pu_unp rfl (pg_name (i := 2) sc_law.nd rfl (by first | exact .inl rfl | exact .inr rfl)) (pg_name (i := 3) sc_law.nd rfl (by first | exact .inl rfl | exact .inr rfl)) (pu_cons (pu_call (ok_law_pick FX TB) (hr.mono (by decide)) (by rfl) FX.g_law_pick FX.F_law_pick.kp FX.b_law_pick passD (pu_cons (pvD 1) (pu_cons (pu_call0 (ok_law_ways FX TB) (hr.mono (by decide)) (by rfl) FX.g_law_ways FX.F_law_ways.kp FX.b_law_ways passD) pu_nil))) (pu_cons (pu_str (by rfl)) pu_nil)))
  (pu_newDsk (i := 4) FX.Mk_D (ok_desk_init FX TB) (hr.mono (by decide)) (by rfl) FX.g_D FX.b_desk_init (pu_cons (pvD 2) pu_nil) sc_law.nd rfl (by first | exact .inl rfl | exact .inr rfl) fun a =>
  (pu_seq (pu_ifS ((DL.pw_or (DL.pt_cmp (od_ne hr) (pu_told3 (k := 6) (bs := []) (by rfl) FX.g_law_told_u FX.F_law_told_u FX.b_law_told_u sc_law_told_u rfl (.inl rfl) (fun cdv => told_of FX cdv) ⟨(TB _ FX.m_law).code, (TB _ FX.m_law).bm, (TB _ FX.m_law).gP⟩ (hcd.symm.trans FX.e_law) (by rw [FX.L_law]; exact List.mem_singleton.mpr rfl) (by rw [FX.L_law]; intro p hp _; rw [List.mem_singleton.mp hp]; rfl) (hr.mono (by decide)) (by show LamD ["script", "row", "way", "text", "desk", "turn", "deed", "sign"] (defScope s_law) ({ kind := PySem.ScopeKind.function, names := [(PySem.Str.ofString "desk", PySem.NameKind.free)], isGenerator := false, isCoroutine := false, more := [] : PySem.Scope }) []; exact ⟨rfl, rfl, rfl, by decide +kernel, by decide +kernel, by decide +kernel, by decide +kernel⟩) (.no (by rfl) (fun _ _ _ _ => by rfl)) (fun A outer s H E f' c' hl => (pu_meth0 FX.cl_D FX.M_desk_undo (ok_desk_undo FX TB) (hl.mono (by decide)) FX.b_desk_undo (passL2 rfl rfl) (pvD 4)))) (pu_str (by rfl)) (by rfl)) (DL.pw_oneO (DL.pt_not (pt_v (pu_call (ok_law_shown FX TB) (hr.mono (by decide)) (by rfl) FX.g_law_shown FX.F_law_shown.kp FX.b_law_shown passF (pu_cons (pvD 4) (pu_cons (pvD 2) (pu_cons (pvD 3) pu_nil))))))))).pt (pu_last (pu_ret pu_bl)) pu_snil)
  (pu_seq (pu_for PassesOwn.never rfl (pu_iR1 (by rfl) FX.z_range (pu_call (ok_law_taken FX TB) (hr.mono (by decide)) (by rfl) FX.g_law_taken FX.F_law_taken.kp FX.b_law_taken passD (pu_cons (pvD 1) (pu_cons pu_int pu_nil)))) (pg_name (i := 5) sc_law.nd rfl (by first | exact .inl rfl | exact .inr rfl)) (pu_seq (pu_set (i := 6) sc_law.nd rfl (by first | exact .inl rfl | exact .inr rfl) (pu_call (ok_law_taken FX TB) (hr.mono (by decide)) (by rfl) FX.g_law_taken FX.F_law_taken.kp FX.b_law_taken passD (pu_cons (pvD 1) (pu_cons pu_int pu_nil))))
    (pu_last (pu_ifS (DL.pt_cmp (od_eq hr) (pvD 6) pu_int (by rfl)) (pu_last (pu_ifS (DL.pt_cmp (od_ne hr) (pu_told3 (k := 8) (bs := []) (by rfl) FX.g_law_told_u FX.F_law_told_u FX.b_law_told_u sc_law_told_u rfl (.inl rfl) (fun cdv => told_of FX cdv) ⟨(TB _ FX.m_law).code, (TB _ FX.m_law).bm, (TB _ FX.m_law).gP⟩ (hcd.symm.trans FX.e_law) (by rw [FX.L_law]; exact List.mem_singleton.mpr rfl) (by rw [FX.L_law]; intro p hp _; rw [List.mem_singleton.mp hp]; rfl) (hr.mono (by decide)) (by show LamD ["script", "row", "way", "text", "desk", "turn", "deed", "sign"] (defScope s_law) ({ kind := PySem.ScopeKind.function, names := [ (PySem.Str.ofString "desk", PySem.NameKind.free), (PySem.Str.ofString "row", PySem.NameKind.free), (PySem.Str.ofString "_law_pick", PySem.NameKind.globalImplicit)], isGenerator := false, isCoroutine := false, more := [] : PySem.Scope }) []; exact ⟨rfl, rfl, rfl, by decide +kernel, by decide +kernel, by decide +kernel, by decide +kernel⟩) (.no (by rfl) (fun _ _ _ _ => by rfl)) (fun A outer s H E f' c' hl => (pu_meth FX.cl_D FX.M_desk_run (ok_desk_run FX TB) (hl.mono (by decide)) FX.b_desk_run (passL2 rfl rfl) (pvD 4) (pu_cons (pu_call (ok_law_pick FX TB) (hl.mono (by decide)) (by rfl) FX.g_law_pick FX.F_law_pick.kp FX.b_law_pick passD (pu_cons (pvD 1) (pu_cons (pu_lst (pu_cons (pu_str (by rfl)) (pu_cons (pu_str (by rfl)) (pu_cons (pu_str (by rfl)) (pu_cons (pu_str (by rfl)) (pu_cons (pu_str (by rfl)) (pu_cons (pu_str (by rfl)) pu_nil)))))) (hl := by first | decide | exact Nat.le_of_ble_eq_true rfl)) pu_nil))) pu_nil)))) (pu_str (by rfl)) (by rfl)) (pu_last (pu_ret pu_bl)) pu_snil)) (pu_last (pu_ifS (DL.pt_cmp (od_eq hr) (pvD 6) pu_int (by rfl)) (pu_last (pu_ifS (DL.pt_cmp (od_ne hr) (pu_told3 (k := 8) (bs := []) (by rfl) FX.g_law_told_u FX.F_law_told_u FX.b_law_told_u sc_law_told_u rfl (.inl rfl) (fun cdv => told_of FX cdv) ⟨(TB _ FX.m_law).code, (TB _ FX.m_law).bm, (TB _ FX.m_law).gP⟩ (hcd.symm.trans FX.e_law) (by rw [FX.L_law]; exact List.mem_singleton.mpr rfl) (by rw [FX.L_law]; intro p hp _; rw [List.mem_singleton.mp hp]; rfl) (hr.mono (by decide)) (by show LamD ["script", "row", "way", "text", "desk", "turn", "deed", "sign"] (defScope s_law) ({ kind := PySem.ScopeKind.function, names := [ (PySem.Str.ofString "desk", PySem.NameKind.free), (PySem.Str.ofString "row", PySem.NameKind.free), (PySem.Str.ofString "_law_pick", PySem.NameKind.globalImplicit)], isGenerator := false, isCoroutine := false, more := [] : PySem.Scope }) []; exact ⟨rfl, rfl, rfl, by decide +kernel, by decide +kernel, by decide +kernel, by decide +kernel⟩) (.no (by rfl) (fun _ _ _ _ => by rfl)) (fun A outer s H E f' c' hl => (pu_meth FX.cl_D FX.M_desk_run (ok_desk_run FX TB) (hl.mono (by decide)) FX.b_desk_run (passL2 rfl rfl) (pvD 4) (pu_cons (pu_call (ok_law_pick FX TB) (hl.mono (by decide)) (by rfl) FX.g_law_pick FX.F_law_pick.kp FX.b_law_pick passD (pu_cons (pvD 1) (pu_cons (pu_lst (pu_cons pu_non (pu_cons pu_int (pu_cons (pu_lst (pu_cons (pu_str (by rfl)) pu_nil) (hl := by first | decide | exact Nat.le_of_ble_eq_true rfl)) (pu_cons (pu_tup (pu_cons (pu_str (by rfl)) pu_nil) (hl := by first | decide | exact Nat.le_of_ble_eq_true rfl)) pu_nil)))) (hl := by first | decide | exact Nat.le_of_ble_eq_true rfl)) pu_nil))) pu_nil)))) (pu_str (by rfl)) (by rfl)) (pu_last (pu_ret pu_bl)) pu_snil)) (pu_last (pu_ifS ((DL.pw_and (DL.pt_cmp (od_eq hr) (pvD 6) pu_int (by rfl)) (DL.pw_one (DL.pt_cmp (od_ne hr) (pvD 3) (pu_str (by rfl)) (by rfl))))).pt (pu_seq (pu_expr (pu_meth0 FX.cl_D FX.M_desk_undo (ok_desk_undo FX TB) (hr.mono (by decide)) FX.b_desk_undo passF (pvD 4)))
          (pu_last (pu_set (i := 3) sc_law.nd rfl (by first | exact .inl rfl | exact .inr rfl) (pu_slice (pvD 3) puo_no (puo_so (pu_neg pu_int)))))) (pu_last (pu_ifS (DL.pt_cmp od_lt (pu_callB cd_len (pvD 3) (by rfl) FX.z_len PySem.boot_len) pu_int (by rfl)) (pu_seq (pu_set (i := 7) sc_law.nd rfl (by first | exact .inl rfl | exact .inr rfl) (pu_call (ok_law_pick FX TB) (hr.mono (by decide)) (by rfl) FX.g_law_pick FX.F_law_pick.kp FX.b_law_pick passD (pu_cons (pvD 1) (pu_cons (pu_lst (pu_cons (pu_str (by rfl)) (pu_cons (pu_str (by rfl)) pu_nil)) (hl := by first | decide | exact Nat.le_of_ble_eq_true rfl)) pu_nil))))
            (pu_seq (pu_ifS (DL.pt_cmp od_isNot (pu_meth FX.cl_D FX.M_desk_run (ok_desk_run FX TB) (hr.mono (by decide)) FX.b_desk_run passF (pvD 4) (pu_cons (pu_call (ok_law_word FX TB) (hr.mono (by decide)) (by rfl) FX.g_law_word FX.F_law_word.kp FX.b_law_word passD (pu_cons (pvD 7) pu_nil)) pu_nil)) pu_non (by rfl)) (pu_last (pu_ret pu_bl)) pu_snil)
            (pu_last (pu_set (i := 3) sc_law.nd rfl (by first | exact .inl rfl | exact .inr rfl) (pu_bin od_add (pvD 3) (pvD 7)))))) (pu_last (pu_ifS (DL.pt_cmp (od_ne hr) (pu_told3 (k := 8) (bs := []) (by rfl) FX.g_law_told_u FX.F_law_told_u FX.b_law_told_u sc_law_told_u rfl (.inl rfl) (fun cdv => told_of FX cdv) ⟨(TB _ FX.m_law).code, (TB _ FX.m_law).bm, (TB _ FX.m_law).gP⟩ (hcd.symm.trans FX.e_law) (by rw [FX.L_law]; exact List.mem_singleton.mpr rfl) (by rw [FX.L_law]; intro p hp _; rw [List.mem_singleton.mp hp]; rfl) (hr.mono (by decide)) (by show LamD ["script", "row", "way", "text", "desk", "turn", "deed", "sign"] (defScope s_law) ({ kind := PySem.ScopeKind.function, names := [ (PySem.Str.ofString "desk", PySem.NameKind.free), (PySem.Str.ofString "row", PySem.NameKind.free), (PySem.Str.ofString "_law_pick", PySem.NameKind.globalImplicit)], isGenerator := false, isCoroutine := false, more := [] : PySem.Scope }) []; exact ⟨rfl, rfl, rfl, by decide +kernel, by decide +kernel, by decide +kernel, by decide +kernel⟩) (.no (by rfl) (fun _ _ _ _ => by rfl)) (fun A outer s H E f' c' hl => (pu_meth FX.cl_D FX.M_desk_run (ok_desk_run FX TB) (hl.mono (by decide)) FX.b_desk_run (passL2 rfl rfl) (pvD 4) (pu_cons (pu_call (ok_law_pick FX TB) (hl.mono (by decide)) (by rfl) FX.g_law_pick FX.F_law_pick.kp FX.b_law_pick passD (pu_cons (pvD 1) (pu_cons (pu_lst (pu_cons (pu_str (by rfl)) (pu_cons (pu_str (by rfl)) pu_nil)) (hl := by first | decide | exact Nat.le_of_ble_eq_true rfl)) pu_nil))) pu_nil)))) (pu_str (by rfl)) (by rfl)) (pu_last (pu_ret pu_bl)) pu_snil))))))))))))
  (pu_last (pu_ret (pu_call (ok_law_shown FX TB) (hr.mono (by decide)) (by rfl) FX.g_law_shown FX.F_law_shown.kp FX.b_law_shown passF (pu_cons (pvD 4) (pu_cons (pvD 2) (pu_cons (pvD 3) pu_nil))))))))))) hT hL hD hm
end
end K09
set_option Elab.async false
set_option linter.all false
set_option maxRecDepth 100000
set_option maxHeartbeats 4000000
namespace C
open PySem PySem.Spec PyProof.Rows L2 DL
variable {Γ : Cfg}
structure Good (z : S) : Prop where
  p0 : 0 ≤ z.place
  s0 : 0 ≤ z.seed
  s1 : z.seed < 2147483647
  r0 : 0 ≤ z.rest
theorem atI_there {α : Type} {xs : List α} {i : Int} (h0 : 0 ≤ i) (h1 : i < xs.length) : atI xs i = xs[i.toNat]? := by
  unfold atI ixN
  rw [if_pos h0, if_pos h1]
  rfl
theorem taken_ok {z : S} (g : Good z) {many : Int} (h1 : 0 < many) (h2 : many < 1000) : WP (F_law_taken Γ [.row, .int many]) z fun d z' => ∃ r, d = .int r ∧ 0 ≤ r ∧ r < many ∧ Good z' := by
  obtain ⟨p0, s0, s1, r0⟩ := g
  have b : many < 1073741824 := by omega
  have m0 : ∀ x : Int, 0 ≤ x % many := fun x => Int.emod_nonneg x (by omega)
  have m1 : ∀ x : Int, x % many < many := fun x => Int.emod_lt_of_pos x h1
  simp [F_law_taken, B_law_taken, rho0, h1, powD, mulI]
  split
  · exact ⟨b, m0 _, m1 _, p0, s0, s1, Int.ediv_nonneg r0 (by omega)⟩
  · split
    · exact ⟨m0 _, m1 _, by show 0 ≤ z.place + 1; omega, by show 0 ≤ _ % _; omega, by show _ % _ < _; omega, r0⟩
    · rename_i h3 h4
      obtain ⟨c, hc⟩ : ∃ c, atI z.script z.place = some c := by
        rw [atI_there p0 (by omega)]
        exact ⟨_, List.getElem?_eq_getElem (by omega)⟩
      simp [hc, h1, b]
      split
      · exact ⟨m0 _, m1 _, by show 0 ≤ z.place + 1; omega, by show 0 ≤ _ % _; omega, by show _ % _ < _; omega, Int.ediv_nonneg (by omega) (by omega)⟩
      · exact ⟨m0 _, m1 _, by show 0 ≤ z.place + 1; omega, by show 0 ≤ _ % _; omega, by show _ % _ < _; omega, r0⟩
theorem pick_ok {z : S} (g : Good z) {ks : List D} (h1 : ks ≠ []) (h2 : ks.length < 1000) : WP (F_law_pick Γ [.row, .lst ks]) z fun d z' => d ∈ ks ∧ Good z' := by
  have h0 : 0 < ks.length := List.length_pos_iff.mpr h1
  simp [F_law_pick, B_law_pick, rho0]
  refine WP_mono (taken_ok g (by omega) (by omega)) fun d z' ⟨r, e, r0, r1, g'⟩ => ?_
  subst e
  have e2 : atI ks r = some ks[r.toNat] := by
    rw [atI_there r0 r1, List.getElem?_eq_getElem (by omega)]
  simp [ixA, ixD, e2, g']
/-- a row of signs -/
def txt (bs : List Bool) : List Nat := bs.map fun b => if b then 43 else 45
theorem draw_ok : ∀ (xs : List D) (most : D) {z : S}, Good z → WP (compL 2 tYesD (eCall (F_law_pick Γ) [eV 0, eLst [eC (.str [43]), eC (.str [45])]]) xs [some (.val .row), some (.val most), none]) z fun ds z' => ∃ bs : List Bool, ds = (txt bs).map (fun c => D.str [c]) ∧ bs.length = xs.length ∧ Good z'
  | [], most, z, g => by
    simp
    exact ⟨[], rfl, rfl, g⟩
  | x :: xs, most, z, g => by
    rw [compL_cons]
    simp
    refine WP_mono (pick_ok g (by simp) (by simp)) fun d z' ⟨hd, g'⟩ => ?_
    refine WP_mono (draw_ok xs most g') fun ds z2 ⟨bs, e, hl, g2⟩ => ?_
    subst e
    simp at hd
    rcases hd with rfl | rfl
    · exact ⟨true :: bs, rfl, by simp [hl], g2⟩
    · exact ⟨false :: bs, rfl, by simp [hl], g2⟩
theorem strs_txt : ∀ bs : List Bool, strsD ((txt bs).map fun c => D.str [c]) = some ((txt bs).map fun c => [c])
  | [] => rfl
  | b :: bs => by
    show strsD (D.str _ :: _) = _
    unfold strsD
    rw [show List.map (fun c => D.str [c]) (List.map (fun b => if b = true then 43 else 45) bs) = (txt bs).map fun c => D.str [c] from rfl, strs_txt bs]
    rfl
theorem joinL_one : ∀ zs : List Nat, joinL [] (zs.map fun c => [c]) = zs
  | [] => rfl
  | [z] => rfl
  | z :: w :: r => by
    show [z] ++ [] ++ joinL [] ((w :: r).map fun c => [c]) = _
    rw [joinL_one (w :: r)]
    rfl
theorem join_txt {bs : List Bool} (h : bs.length ≤ 1000) : joinD [] (.lst ((txt bs).map fun c => D.str [c])) = some (.str (txt bs)) := by
  unfold joinD
  simp only [items_lst, Option.bind_some, strs_txt]
  rw [joinL_one, if_pos]
  have : ∀ zs : List Nat, ((zs.map fun c => [c]).map List.length).sum = zs.length := fun zs => by
    induction zs with
    | nil => rfl
    | cons z zs ih => simp at ih ⊢; omega
  rw [this]
  simp [txt]
  omega
def sg (b : Bool) : Nat := if b then 43 else 45
def nm : Nat → List Nat
  | 0 => [97, 108, 108, 111, 119, 32, 111, 118, 101, 114]
  | 1 => [97, 108, 119, 97, 121, 115, 32, 97, 108, 108, 111, 119]
  | 2 => [97, 108, 119, 97, 121, 115, 32, 100, 101, 110, 121]
  | 3 => [98, 111, 116, 104, 32, 101, 110, 100, 115]
  | 4 => [100, 101, 110, 121, 32, 111, 118, 101, 114]
  | 5 => [102, 105, 114, 115, 116]
  | 6 => [105, 115, 108, 97, 110, 100]
  | 7 => [108, 97, 115, 116]
  | 8 => [109, 111, 115, 116, 32, 111, 114, 32, 97, 108, 108, 111, 119]
  | 9 => [109, 111, 115, 116, 32, 111, 114, 32, 100, 101, 110, 121]
  | 10 => [109, 111, 115, 116, 32, 111, 114, 32, 102, 105, 114, 115, 116]
  | 11 => [109, 111, 115, 116, 32, 111, 114, 32, 108, 97, 115, 116]
  | _ => [111, 100, 100]
theorem okS_txt {bs : List Bool} : okS (txt bs) = true := by
  unfold okS txt
  rw [List.all_map, List.all_eq_true]
  intro b _
  cases b <;> rfl
theorem txt_len {bs : List Bool} : (txt bs).length = bs.length := by simp [txt]
theorem txt_cnt {bs : List Bool} : (txt bs).count 43 = bs.count true ∧ (txt bs).count 45 = bs.count false := by
  induction bs with
  | nil => exact ⟨rfl, rfl⟩
  | cons b bs ih =>
    have e : txt (b :: bs) = (if b then 43 else 45) :: txt bs := rfl
    rw [e, List.count_cons, List.count_cons, List.count_cons, List.count_cons, ih.1, ih.2]
    cases b <;> simp
theorem addD_str {a b : List Nat} (h : a.length + b.length ≤ 16777216) : addD (.str a) (.str b) = some (.str (a ++ b)) := by
  show (if a.length + b.length ≤ sizeLine then _ else _) = _
  rw [if_pos (by rw [sizeLine_eq]; exact h)]
def hd (bs : List Bool) : Bool := bs.head?.getD true
def la (bs : List Bool) : Bool := bs.getLast?.getD true
theorem atI_0 {bs : List Bool} (h : bs ≠ []) : atI (txt bs) 0 = some (sg (hd bs)) := by
  cases bs with
  | nil => exact absurd rfl h
  | cons b r => rw [atI_pos (by omega)]; rfl
theorem get_last {bs : List Bool} (h : bs ≠ []) {α : Type} (f : Bool → α) : (bs.map f)[bs.length - 1]? = some (f (la bs)) := by
  unfold la
  rw [List.getElem?_map, ← List.getLast?_eq_getElem?]
  cases e : bs.getLast? with
  | none => exact absurd (List.getLast?_eq_none_iff.mp e) h
  | some x => rfl
theorem atI_m1 {bs : List Bool} (h : bs ≠ []) : atI (txt bs) (-1) = some (sg (la bs)) := by
  have hp := List.length_pos_iff.mpr h
  rw [atI_neg (by omega) (by rw [txt_len]; omega), txt_len, show ((-1 : Int) + bs.length).toNat = bs.length - 1 by omega]
  exact get_last h _
theorem atI_l {bs : List Bool} (h : bs ≠ []) : atI (txt bs) ((bs.length : Int) - 1) = some (sg (la bs)) := by
  have hp := List.length_pos_iff.mpr h
  rw [atI_pos (by omega), show ((bs.length : Int) - 1).toNat = bs.length - 1 by omega]
  exact get_last h _
theorem cut_1 {bs : List Bool} (h : bs ≠ []) : cutL (txt bs) none (some 1) = [sg (hd bs)] := by
  cases bs with
  | nil => exact absurd rfl h
  | cons b r => rw [cutL_hi (by omega)]; rfl
theorem cut_m1 {bs : List Bool} (h : bs ≠ []) : cutL (txt bs) (some (-1)) none = [sg (la bs)] := by
  have hp := List.length_pos_iff.mpr h
  rw [cutL_last (by omega) (by rw [txt_len]; omega), txt_len, show ((-1 : Int) + bs.length).toNat = bs.length - 1 by omega]
  have h1 : bs.length - 1 < (txt bs).length := by rw [txt_len]; omega
  rw [List.drop_eq_getElem_cons h1, List.drop_of_length_le (by rw [txt_len]; omega)]
  have h2 := get_last h (fun b => if b then 43 else 45)
  rw [show (bs.map fun b => if b then 43 else 45) = txt bs from rfl, List.getElem?_eq_getElem h1] at h2
  rw [Option.some.inj h2]
  rfl
/-- the changes of a row that begins behind p -/
def chg : Bool → List Bool → List Bool
  | _, [] => []
  | p, b :: r => if b = p then chg p r else b :: chg b r
def isl : List Bool → Bool
  | [] => false
  | true :: r => decide (chg true r = [])
  | false :: r => decide ((chg false r).length = 2)
def ans : Nat → List Bool → Bool
  | 0, bs => decide (true ∈ bs)
  | 1, _ => true
  | 2, _ => false
  | 3, bs => hd bs && la bs
  | 4, bs => !decide (false ∈ bs)
  | 5, bs => hd bs
  | 6, bs => isl bs
  | 7, bs => la bs
  | 8, bs => decide (bs.count false ≤ bs.count true)
  | 9, bs => decide (bs.count false < bs.count true)
  | 10, bs => if bs.count true = bs.count false then hd bs else decide (bs.count false < bs.count true)
  | 11, bs => if bs.count true = bs.count false then la bs else decide (bs.count false < bs.count true)
  | _, bs => decide (bs.count false % 2 = 0)
theorem inD_ints7 {w : Int} : inD (.int w) (.lst [.int 0, .int 2, .int 4, .int 6, .int 8, .int 10, .int 12]) = some (.bl ([0, 2, 4, 6, 8, 10, 12].any fun z => decide (z = w))) := inD_ints (zs := [0, 2, 4, 6, 8, 10, 12])
/-- where a row changes -/
def cks (bs : List Bool) : List Nat := (List.range (bs.length - 1)).filter fun k => (bs[k + 1]? != bs[k]?)
theorem cks_chg : ∀ (b : Bool) (r : List Bool), ((List.range r.length).filter fun k => ((b :: r)[k + 1]? != (b :: r)[k]?)).map (fun k => (b :: r)[k + 1]?) = (chg b r).map some
  | b, [] => rfl
  | b, c :: r => by
    rw [List.length_cons, List.range_succ_eq_map, List.filter_cons]
    have ih := cks_chg c r
    have e : ((List.map Nat.succ (List.range r.length)).filter fun k => ((b :: c :: r)[k + 1]? != (b :: c :: r)[k]?)).map (fun k => (b :: c :: r)[k + 1]?) = ((List.range r.length).filter fun k => ((c :: r)[k + 1]? != (c :: r)[k]?)).map (fun k => (c :: r)[k + 1]?) := by
      rw [List.filter_map, List.map_map]
      rfl
    unfold chg
    by_cases h : c = b
    · subst h
      rw [if_neg (by simp), e, ih, if_pos rfl]
    · rw [if_pos (by simp [h]), List.map_cons, e, ih, if_neg h]
      rfl
theorem cks_len (b : Bool) (r : List Bool) : (cks (b :: r)).length = (chg b r).length := by
  have h := congrArg List.length (cks_chg b r)
  simpa [cks] using h
theorem txt_get {bs : List Bool} {k : Nat} (h : k < bs.length) : (txt bs)[k]? = some (sg bs[k]) := by
  unfold txt
  rw [List.getElem?_map, List.getElem?_eq_getElem h]
  rfl
end C
set_option Elab.async false
set_option linter.all false
set_option maxRecDepth 100000
set_option maxHeartbeats 4000000
namespace C
open PySem PySem.Spec PyProof.Rows L2 DL
variable {Γ : Cfg}
def vc : Bool → List Nat
  | true => [97, 108, 108, 111, 119]
  | false => [100, 101, 110, 121]
def vs (bs : List Bool) : List D := bs.map fun b => .str (vc b)
theorem vs_map (bs : List Bool) : vs bs = (bs.map vc).map .str := by unfold vs; rw [List.map_map]; rfl
theorem okS_vc (b : Bool) : okS (vc b) = true := by cases b <;> rfl
theorem ok_vs (bs : List Bool) : ∀ z ∈ bs.map vc, okS z = true := by
  intro z hz
  obtain ⟨b, _, rfl⟩ := List.mem_map.mp hz
  exact okS_vc b
theorem vc_inj {a b : Bool} : vc a = vc b ↔ a = b := by cases a <;> cases b <;> simp [vc]
theorem vs_len {bs : List Bool} : (vs bs).length = bs.length := by simp [vs]
theorem vs_0 {bs : List Bool} (h : bs ≠ []) : atI (vs bs) 0 = some (.str (vc (hd bs))) := by
  cases bs with
  | nil => exact absurd rfl h
  | cons b r => rw [atI_pos (by omega)]; rfl
theorem vs_m1 {bs : List Bool} (h : bs ≠ []) : atI (vs bs) (-1) = some (.str (vc (la bs))) := by
  have hp := List.length_pos_iff.mpr h
  rw [atI_neg (by omega) (by rw [vs_len]; omega), vs_len, show ((-1 : Int) + bs.length).toNat = bs.length - 1 by omega]
  exact get_last h _
theorem any_vc {c : Bool} {bs : List Bool} : ((bs.map vc).any fun z => decide (z = vc c)) = decide (c ∈ bs) := by
  induction bs with
  | nil => rfl
  | cons b bs ih =>
    rw [List.map_cons, List.any_cons, ih]
    by_cases h : b = c
    · subst h; simp
    · have h2 : ¬ vc b = vc c := fun e => h (vc_inj.mp e)
      have h3 : ¬ c = b := fun e => h e.symm
      simp [h2, h3]
theorem in_vs {c : Bool} {bs : List Bool} : inD (.str (vc c)) (.tup (vs bs)) = some (.bl (decide (c ∈ bs))) := by
  rw [vs_map, inD_tup (okS_vc c) (ok_vs bs), any_vc]
theorem cnt_vs {c : Bool} {bs : List Bool} : countT (.tup (vs bs)) (.str (vc c)) = some (.int (bs.count c)) := by
  rw [vs_map, countT_strs, List.countP_map]
  congr 2
  unfold List.count
  apply congrArg
  apply congrFun
  apply congrArg
  funext b
  show decide (vc b = vc c) = (b == c)
  cases b <;> cases c <;> rfl
theorem in_t {bs : List Bool} : inD (.str [97, 108, 108, 111, 119]) (.tup (vs bs)) = some (.bl (decide (true ∈ bs))) := in_vs (c := true)
theorem in_f {bs : List Bool} : inD (.str [100, 101, 110, 121]) (.tup (vs bs)) = some (.bl (decide (false ∈ bs))) := in_vs (c := false)
theorem cnt_t {bs : List Bool} : countT (.tup (vs bs)) (.str [97, 108, 108, 111, 119]) = some (.int (bs.count true)) := cnt_vs (c := true)
theorem cnt_f {bs : List Bool} : countT (.tup (vs bs)) (.str [100, 101, 110, 121]) = some (.int (bs.count false)) := cnt_vs (c := false)
/-- a greater voice -/
def grt (bs : List Bool) : D := if bs.count true = bs.count false then .non else if bs.count false < bs.count true then .str (vc true) else .str (vc false)
theorem greater_ok {bs : List Bool} : F_greater_voice Γ [.tup (vs bs)] = mpure (grt bs) := WP_pure_of fun z => by
  simp [F_greater_voice, B_greater_voice, rho0, cnt_t, cnt_f, grt]
  by_cases h : bs.count true = bs.count false
  · simp [h]
  · have h2 : ¬ ((bs.count true : Int) = bs.count false) := by omega
    by_cases h3 : bs.count false < bs.count true
    · simp [h, h2, h3, vc]
    · simp [h, h2, h3, vc]
theorem most_ok {bs : List Bool} {o : D} : F_most_or Γ [.tup (vs bs), o] = mpure (if bs.count true = bs.count false then o else .str (vc (decide (bs.count false < bs.count true)))) := WP_pure_of fun z => by
  simp [F_most_or, B_most_or, rho0, greater_ok, grt]
  by_cases h : bs.count true = bs.count false
  · simp [h, isNonD]
  · by_cases h3 : bs.count false < bs.count true
    · simp [h, h3, vc, isNonD]
    · simp [h, h3, vc, isNonD]
/-- a row's stretches -/
theorem vs_get {bs : List Bool} {k : Nat} (h : k < bs.length) : (vs bs)[k]? = some (.str (vc bs[k])) := by
  unfold vs
  rw [List.getElem?_map, List.getElem?_eq_getElem h]
  rfl
def str (bs : List Bool) : List Bool := match bs with
  | [] => []
  | b :: r => b :: chg b r
theorem strs_eq : ∀ bs : List Bool, (((List.range bs.length).filter fun k => k == 0 || bs[k]? != bs[k - 1]?).map fun k => bs[k]?) = (str bs).map some
  | [] => rfl
  | b :: r => by
    rw [List.length_cons, List.range_succ_eq_map, List.filter_cons, if_pos (by rfl), List.map_cons, List.filter_map, List.map_map]
    have e : (List.map ((fun k => (b :: r)[k]?) ∘ Nat.succ) (List.filter ((fun k => k == 0 || (b :: r)[k]? != (b :: r)[k - 1]?) ∘ Nat.succ) (List.range r.length))) = ((List.range r.length).filter fun k => ((b :: r)[k + 1]? != (b :: r)[k]?)).map (fun k => (b :: r)[k + 1]?) := rfl
    rw [e, cks_chg]
    rfl
theorem stretches_ok {bs : List Bool} (h1 : bs.length ≤ 12) : F_stretches Γ [.tup (vs bs)] = mpure (.tup (vs (str bs))) := WP_pure_of fun z => by
  simp [F_stretches, B_stretches, rho0, vs_len]
  refine ⟨by omega, by simp [rangeD, sizeLine_eq]; omega, ?_⟩
  rw [compL_range (tb := fun k => k == 0 || bs[k]? != bs[k - 1]?) (fb := fun k => match bs[k]? with | some b => .str (vc b) | none => .non) fun k hk => ⟨WP_pure_of fun z => ?_, fun _ => WP_pure_of fun z => ?_⟩]
  · rw [WP_pure]
    refine ⟨?_, rfl⟩
    have h := congrArg (List.map fun o : Option Bool => match o with | some b => D.str (vc b) | none => .non) (strs_eq bs)
    rw [List.map_map, List.map_map] at h
    exact h
  · have e1 : atI (vs bs) (k : Int) = some (.str (vc bs[k])) := by rw [atI_pos (by omega), Int.toNat_natCast, vs_get hk]
    cases k with
    | zero => simp
    | succ k =>
      have e2 : atI (vs bs) (k : Int) = some (.str (vc bs[k])) := by
        rw [atI_pos (by omega), Int.toNat_natCast, vs_get (by omega)]
      have e3 : ¬ ((k : Int) + 1 = 0) := by omega
      have e1 : atI (vs bs) ((k : Int) + 1) = some (.str (vc bs[k + 1])) := by rw [atI_pos (by omega), show ((k : Int) + 1).toNat = k + 1 by omega, vs_get hk]
      simp [e1, e2, e3, neD_str, okS_vc]
      rw [List.getElem?_eq_getElem hk, List.getElem?_eq_getElem (by omega)]
      cases bs[k + 1] <;> cases bs[k] <;> rfl
  · have e1 : atI (vs bs) (k : Int) = some (.str (vc bs[k])) := by rw [atI_pos (by omega), Int.toNat_natCast, vs_get hk]
    simp [e1]
    rw [List.getElem?_eq_getElem hk]
theorem alt : ∀ (r : List Bool) (p : Bool), (chg p r).length = 2 → chg p r = [!p, p]
  | [], p, h => by simp [chg] at h
  | b :: r, p, h => by
    unfold chg at h ⊢
    by_cases e : b = p
    · rw [if_pos e] at h ⊢
      exact alt r p h
    · rw [if_neg e] at h ⊢
      have e2 : b = !p := by cases b <;> cases p <;> simp_all
      subst e2
      rw [List.length_cons] at h
      have one : ∀ (r : List Bool) (q : Bool), (chg q r).length = 1 → chg q r = [!q] := by
        intro r
        induction r with
        | nil => intro q h; simp [chg] at h
        | cons c r ih =>
          intro q h
          unfold chg at h ⊢
          by_cases e : c = q
          · rw [if_pos e] at h ⊢
            exact ih q h
          · rw [if_neg e] at h ⊢
            have e2 : c = !q := by cases c <;> cases q <;> simp_all
            subst e2
            have : (chg (!q) r) = [] := List.length_eq_zero_iff.mp (by simpa using h)
            rw [this]
      rw [one r (!p) (by omega)]
      simp
theorem vcs_inj {a b : List Bool} : a.map vc = b.map vc ↔ a = b := by
  constructor
  · intro h
    exact List.map_inj_right (f := vc) (fun x y => vc_inj.mp) |>.mp h
  · intro h; rw [h]
theorem isl_any {bs : List Bool} (h0 : bs ≠ []) : (([[vc true], [vc false, vc true, vc false]] : List (List (List Nat))).any fun b => decide (b = (str bs).map vc)) = isl bs := by
  have d2 : ([vc true] = (str bs).map vc) ↔ [true] = str bs := by
    rw [show [vc true] = [true].map vc from rfl]; exact vcs_inj
  have d3 : ([vc false, vc true, vc false] = (str bs).map vc) ↔ [false, true, false] = str bs := by
    rw [show [vc false, vc true, vc false] = [false, true, false].map vc from rfl]; exact vcs_inj
  rw [Bool.eq_iff_iff]
  simp only [List.any_cons, List.any_nil, Bool.or_false, Bool.or_eq_true, decide_eq_true_eq, d2, d3]
  cases bs with
  | nil => exact absurd rfl h0
  | cons b r =>
    cases b with
    | true =>
      unfold str isl
      rw [decide_eq_true_eq]
      constructor
      · intro h
        rcases h with h | h
        · exact (List.cons.inj h).2.symm
        · cases (List.cons.inj h).1
      · intro h
        exact .inl (show [true] = true :: chg true r by rw [h])
    | false =>
      unfold str isl
      rw [decide_eq_true_eq]
      constructor
      · intro h
        rcases h with h | h
        · cases (List.cons.inj h).1
        · rw [← (List.cons.inj h).2]; rfl
      · intro h
        exact .inr (show [false, true, false] = false :: chg false r by rw [alt r false h]; rfl)
theorem isl_in {bs : List Bool} (h0 : bs ≠ []) : inD (.tup (vs (str bs))) (.tup [.tup [.str (vc true)], .tup [.str (vc false), .str (vc true), .str (vc false)]]) = some (.bl (isl bs)) := by
  have h := inD_tups (a := (str bs).map vc) (bss := [[vc true], [vc false, vc true, vc false]]) (ok_vs _) (by
    intro b hb z hz
    simp at hb
    rcases hb with rfl | rfl
    · simp at hz; rw [hz]; exact okS_vc _
    · simp at hz; rcases hz with rfl | rfl | rfl <;> exact okS_vc _)
  rw [isl_any h0, ← vs_map] at h
  exact h
theorem isl_in2 {bs : List Bool} (h0 : bs ≠ []) : inD (.tup (vs (str bs))) (.tup [.tup [.str [97, 108, 108, 111, 119]], .tup [.str [100, 101, 110, 121], .str [97, 108, 108, 111, 119], .str [100, 101, 110, 121]]]) = some (.bl (isl bs)) := isl_in h0
theorem island_a {bs : List Bool} (h0 : bs ≠ []) (h1 : bs.length ≤ 12) (z : S) (Q : D → S → Prop) : WP (eIf (tV (e2 (op2 inD) (eCall (F_stretches Γ) [eV 0]) (eTup [eTup [eC (.str [97, 108, 108, 111, 119])], eTup [eC (.str [100, 101, 110, 121]), eC (.str [97, 108, 108, 111, 119]), eC (.str [100, 101, 110, 121])]]))) (eC (.str [97, 108, 108, 111, 119])) (eC (.str [100, 101, 110, 121])) [some (.val (.tup (vs bs)))]) z Q = Q (.str (vc (isl bs))) z := by
  rw [eIf_ev, tV_ev, e2_ev, eCall_ev, evs_cons, eV_zero, WP_pure, evs_nil, stretches_ok h1, WP_pure]
  simp only [eTup_ev, evs_cons, evs_nil, eC_ev, WP_pure, op2_ev, isl_in2 h0, WP_some, asB_bl]
  cases isl bs <;> rfl
theorem island_ok {bs : List Bool} (h0 : bs ≠ []) (h1 : bs.length ≤ 12) : F_island_ways Γ [.tup (vs bs)] = mpure (.str (vc (isl bs))) := WP_pure_of fun z => by
  unfold F_island_ways B_island_ways
  rw [run_ev, sRet_ev, show rho0 1 [D.tup (vs bs)] = [some (.val (.tup (vs bs)))] from rfl, island_a h0 h1]
  exact ⟨rfl, rfl⟩
section
variable {bs : List Bool} (h0 : bs ≠ []) (h1 : bs.length ≤ 12)
include h0 h1
theorem p0 : F_allow_over Γ [.tup (vs bs)] = mpure (.str (vc (ans 0 bs))) := WP_pure_of fun z => by
  simp [F_allow_over, B_allow_over, rho0, in_t, ans]
  by_cases h : true ∈ bs <;> simp [h, vc]
theorem p1 : F_always_allow Γ [.tup (vs bs)] = mpure (.str (vc (ans 1 bs))) := WP_pure_of fun z => by
  simp [F_always_allow, B_always_allow, rho0, ans, vc]
theorem p2 : F_always_deny Γ [.tup (vs bs)] = mpure (.str (vc (ans 2 bs))) := WP_pure_of fun z => by
  simp [F_always_deny, B_always_deny, rho0, ans, vc]
theorem p3 : F_both_ends_ways Γ [.tup (vs bs)] = mpure (.str (vc (ans 3 bs))) := WP_pure_of fun z => by
  simp [F_both_ends_ways, B_both_ends_ways, rho0, ans, vs_0 h0, vs_m1 h0, eqD_str, okS_vc]
  cases hd bs <;> cases la bs <;> simp [vc]
theorem p4 : F_deny_over Γ [.tup (vs bs)] = mpure (.str (vc (ans 4 bs))) := WP_pure_of fun z => by
  simp [F_deny_over, B_deny_over, rho0, in_f, ans]
  by_cases h : false ∈ bs <;> simp [h, vc]
theorem p5 : F_first Γ [.tup (vs bs)] = mpure (.str (vc (ans 5 bs))) := WP_pure_of fun z => by
  simp [F_first, B_first, rho0, ans, vs_0 h0]
theorem p6 : F_island_ways Γ [.tup (vs bs)] = mpure (.str (vc (ans 6 bs))) := island_ok h0 h1
theorem p7 : F_last Γ [.tup (vs bs)] = mpure (.str (vc (ans 7 bs))) := WP_pure_of fun z => by
  simp [F_last, B_last, rho0, ans, vs_m1 h0]
theorem p8 : F_most_or_allow_ways Γ [.tup (vs bs)] = mpure (.str (vc (ans 8 bs))) := WP_pure_of fun z => by
  simp [F_most_or_allow_ways, B_most_or_allow_ways, rho0, ans, most_ok]
  split
  · rw [decide_eq_true (by omega)]; rfl
  · congr 2
    exact decide_eq_decide.mpr (by omega)
theorem p9 : F_most_or_deny_ways Γ [.tup (vs bs)] = mpure (.str (vc (ans 9 bs))) := WP_pure_of fun z => by
  simp [F_most_or_deny_ways, B_most_or_deny_ways, rho0, ans, most_ok]
  intro h
  rw [decide_eq_false (by omega)]; rfl
theorem p10 : F_most_or_first Γ [.tup (vs bs)] = mpure (.str (vc (ans 10 bs))) := WP_pure_of fun z => by
  simp [F_most_or_first, B_most_or_first, rho0, ans, most_ok, vs_0 h0]
  split <;> rfl
theorem p11 : F_most_or_last Γ [.tup (vs bs)] = mpure (.str (vc (ans 11 bs))) := WP_pure_of fun z => by
  simp [F_most_or_last, B_most_or_last, rho0, ans, most_ok, vs_m1 h0]
  split <;> rfl
theorem p12 : F_odd Γ [.tup (vs bs)] = mpure (.str (vc (ans 12 bs))) := WP_pure_of fun z => by
  simp [F_odd, B_odd, rho0, ans, cnt_f]
  split
  · rw [decide_eq_false (by omega)]; rfl
  · rw [decide_eq_true (by omega)]; rfl
end
end C
set_option Elab.async false
set_option linter.all false
set_option maxRecDepth 100000
set_option maxHeartbeats 4000000
namespace C
open PySem PySem.Spec PyProof.Rows L2 DL
variable {Γ : Cfg}
def W : List (List Nat) := [nm 0, nm 1, nm 2, nm 3, nm 4, nm 5, nm 6, nm 7, nm 8, nm 9, nm 10, nm 11, nm 12]
theorem w_ways : w_WAYS = .tup (W.map .str) := rfl
theorem okW : ∀ z ∈ W, okS z = true := by decide
theorem nmW : ∀ i, i < 13 → nm i ∈ W := by
  have h : ∀ i : Fin 13, nm i.val ∈ W := by decide
  exact fun i hi => h ⟨i, hi⟩
theorem inW : ∀ z ∈ W, ∃ i, i < 13 ∧ z = nm i := by
  have h : ∀ z ∈ W, ∃ i : Fin 13, z = nm i.val := by decide
  intro z hz
  obtain ⟨i, e⟩ := h z hz
  exact ⟨i.val, i.isLt, e⟩
theorem check_way_ok {i : Nat} (hi : i < 13) : F_check_way Γ [.str (nm i)] = mpure .non := WP_pure_of fun z => by
  have e : notInD (.str (nm i)) w_WAYS = some (.bl false) := by
    rw [w_ways, notInD_tup (okW _ (nmW i hi)) okW]
    congr 2
    rw [Bool.not_eq_false', List.any_eq_true]
    exact ⟨nm i, nmW i hi, by simp⟩
  simp [F_check_way, B_check_way, rho0, e]
theorem in_voices (b : Bool) : notInD (.str (vc b)) w_VOICES = some (.bl false) := by
  rw [show w_VOICES = .tup (([true, false].map vc).map .str) from rfl, notInD_tup (okS_vc b) (ok_vs _), any_vc]
  cases b <;> rfl
theorem wrong_loop {Qr : D → S → Prop} : ∀ (bs : List Bool) (k : Nat) (ρ : EnD) (z : S) (Qn : EnD → S → Prop), ρ.length = 3 → ownAt ρ 1 = false → ownAt ρ 2 = false → (∀ ρ', Qn ρ' z) →
    WS (forP 1 2 (sIf (tV (e2 (op2 notInD) (eV 2) (eC w_VOICES))) (sRet (eV 1)) sNil) (enumD k (vs bs)) ρ z) Qn Qr
  | [], k, ρ, z, Qn, hl, o1, o2, q => q ρ
  | b :: bs, k, ρ, z, Qn, hl, o1, o2, q => by
    match ρ, hl with
    | [x0, x1, x2], _ =>
      refine forP_cons o1 o2 ?_
      simp [in_voices]
      exact wrong_loop bs (k + 1) _ z Qn rfl rfl rfl q
theorem wrong_ok {bs : List Bool} : F_first_wrong Γ [.tup (vs bs)] = mpure .non := WP_pure_of fun z => by
  simp [F_first_wrong, B_first_wrong, rho0]
  exact wrong_loop bs 0 _ z _ rfl rfl rfl fun ρ' => rfl
theorem check_row_ok {bs : List Bool} (h0 : bs ≠ []) (h1 : bs.length ≤ 12) : F_check_row Γ [.tup (vs bs)] = mpure .non := WP_pure_of fun z => by
  have hp := List.length_pos_iff.mpr h0
  have e1 : (1 : Int) ≤ bs.length := by omega
  have e2 : (bs.length : Int) ≤ 12 := by omega
  simp [F_check_row, B_check_row, rho0, isiD, tyD, isK, vs_len, e1, e2, wrong_ok, isNonD]
/-- the def that a way's name hands out -/
theorem look : ∀ i, i < 13 → getS (tb_ANSWERS Γ) (nm i) = some (.fn i (Γ.A i))
  | 0, _ => by simp [getS, tb_ANSWERS, nm]
  | 1, _ => by simp [getS, tb_ANSWERS, nm]
  | 2, _ => by simp [getS, tb_ANSWERS, nm]
  | 3, _ => by simp [getS, tb_ANSWERS, nm]
  | 4, _ => by simp [getS, tb_ANSWERS, nm]
  | 5, _ => by simp [getS, tb_ANSWERS, nm]
  | 6, _ => by simp [getS, tb_ANSWERS, nm]
  | 7, _ => by simp [getS, tb_ANSWERS, nm]
  | 8, _ => by simp [getS, tb_ANSWERS, nm]
  | 9, _ => by simp [getS, tb_ANSWERS, nm]
  | 10, _ => by simp [getS, tb_ANSWERS, nm]
  | 11, _ => by simp [getS, tb_ANSWERS, nm]
  | 12, _ => by simp [getS, tb_ANSWERS, nm]
theorem told_of {i : Nat} {F : List D → M D} {r : D} {row : D} (hi : i < 13) (hF : fs_ANSWERS Γ i = some F) (h : F [row] = mpure r) : F_told_answer Γ [.str (nm i), row] = mpure r := WP_pure_of fun z => by
  unfold F_told_answer B_told_answer
  rw [run_ev, sSeq_ev, sSet_ev, e1_ev]
  simp [rho0, look i hi]
  rw [eCallN_ev (j := i) rfl hF]
  simp [h]
section
variable {bs : List Bool} (h0 : bs ≠ []) (h1 : bs.length ≤ 12)
include h0 h1
theorem told_ok (i : Nat) (hi : i < 13) : F_told_answer Γ [.str (nm i), .tup (vs bs)] = mpure (.str (vc (ans i bs))) := by
  match i, hi with
  | 0, h => exact told_of h rfl (p0 h0 h1)
  | 1, h => exact told_of h rfl (p1 h0 h1)
  | 2, h => exact told_of h rfl (p2 h0 h1)
  | 3, h => exact told_of h rfl (p3 h0 h1)
  | 4, h => exact told_of h rfl (p4 h0 h1)
  | 5, h => exact told_of h rfl (p5 h0 h1)
  | 6, h => exact told_of h rfl (p6 h0 h1)
  | 7, h => exact told_of h rfl (p7 h0 h1)
  | 8, h => exact told_of h rfl (p8 h0 h1)
  | 9, h => exact told_of h rfl (p9 h0 h1)
  | 10, h => exact told_of h rfl (p10 h0 h1)
  | 11, h => exact told_of h rfl (p11 h0 h1)
  | 12, h => exact told_of h rfl (p12 h0 h1)
theorem answer_ok {i : Nat} (hi : i < 13) : F_answer Γ [.str (nm i), .tup (vs bs)] = mpure (.str (vc (ans i bs))) := WP_pure_of fun z => by
  simp [F_answer, B_answer, rho0, check_way_ok hi, check_row_ok h0 h1, told_ok h0 h1 i hi]
end
end C
set_option Elab.async false
set_option linter.all false
set_option maxRecDepth 100000
set_option maxHeartbeats 4000000
namespace C
open PySem PySem.Spec PyProof.Rows L2 DL
variable {Γ : Cfg}
def flp (bs : List Bool) (k : Nat) : List Bool := bs.take k ++ [!(bs[k]?.getD true)] ++ bs.drop (k + 1)
theorem flp_len {bs : List Bool} {k : Nat} (h : k < bs.length) : (flp bs k).length = bs.length := by
  simp [flp]; omega
theorem flp_ne {bs : List Bool} {k : Nat} : flp bs k ≠ [] := by simp [flp]
theorem turned_ok (b : Bool) : F_turned Γ [.str (vc b)] = mpure (.str (vc !b)) := WP_pure_of fun z => by
  cases b <;> simp [F_turned, B_turned, rho0, eqD_str, vc]
theorem addD_tup {a b : List D} (h : a.length + b.length ≤ 16777216) : addD (.tup a) (.tup b) = some (.tup (a ++ b)) := by
  show (if a.length + b.length ≤ sizeLine then _ else _) = _
  rw [if_pos (by rw [sizeLine_eq]; exact h)]
theorem turned_at_ok {bs : List Bool} {k : Nat} (h : k < bs.length) (h1 : bs.length ≤ 12) : F_turned_at Γ [.tup (vs bs), .int k] = mpure (.tup (vs (flp bs k))) := WP_pure_of fun z => by
  have e1 : atI (vs bs) (k : Int) = some (.str (vc bs[k])) := by rw [atI_pos (by omega), Int.toNat_natCast, vs_get h]
  have e2 : cutL (vs bs) none (some (k : Int)) = vs (bs.take k) := by
    rw [cutL_hi (by omega), Int.toNat_natCast]; unfold vs; rw [List.map_take]
  have e3 : cutL (vs bs) (some ((k : Int) + 1)) none = vs (bs.drop (k + 1)) := by
    rw [cutL_lo (by omega), show ((k : Int) + 1).toNat = k + 1 by omega]; unfold vs; rw [List.map_drop]
  have l1 : (vs (bs.take k)).length + 1 ≤ 16777216 := by rw [vs_len, List.length_take]; omega
  have l2 : (vs (bs.take k)).length + 1 + (vs (bs.drop (k + 1))).length ≤ 16777216 := by rw [vs_len, vs_len, List.length_take, List.length_drop]; omega
  have e4 : addD (.tup (vs (bs.take k))) (.tup [.str (vc !bs[k])]) = some (.tup (vs (bs.take k) ++ [.str (vc !bs[k])])) := addD_tup l1
  have e5 : addD (.tup (vs (bs.take k) ++ [.str (vc !bs[k])])) (.tup (vs (bs.drop (k + 1)))) = some (.tup (vs (bs.take k) ++ [.str (vc !bs[k])] ++ vs (bs.drop (k + 1)))) := addD_tup (by rw [List.length_append]; exact l2)
  simp [F_turned_at, B_turned_at, rho0, e1, e2, e3, turned_ok, e4]
  rw [e5]
  simp
  unfold flp
  rw [List.getElem?_eq_getElem h]
  simp [vs]
theorem word_ok (b : Bool) : F_law_word Γ [.str [sg b]] = mpure (.str (vc b)) := WP_pure_of fun z => by
  cases b <;> simp [F_law_word, B_law_word, rho0, sg, vc, DL.putAll, putS, getS]
theorem voices_ok {bs : List Bool} (h1 : bs.length ≤ 12) : F_law_voices Γ [.str (txt bs)] = mpure (.tup (vs bs)) := WP_pure_of fun z => by
  have e : ∀ d, compL 1 tYesD (eCall (F_law_word Γ) [eV 1]) ((txt bs).map fun c => .str [c]) [some (.val d), none] = mpure (vs bs) := fun d => by
    clear h1
    induction bs with
    | nil => rfl
    | cons b bs ih =>
      apply WP_pure_of
      intro z
      rw [show (txt (b :: bs)).map (fun c => D.str [c]) = .str [sg b] :: (txt bs).map fun c => .str [c] from rfl, compL_cons]
      simp [word_ok, ih]
      rfl
  simp [F_law_voices, B_law_voices, rho0, txt_len, e]
  rw [sizeLine_eq]; omega
theorem sg_lt (b : Bool) : sg b < 1114112 := by cases b <;> decide
theorem sg_ok (b : Bool) : okS [sg b] = true := by cases b <;> rfl
theorem sg_inj {a b : Bool} : [sg a] = [sg b] ↔ a = b := by cases a <;> cases b <;> simp [sg]
/-- where a voice matters -/
def mts (i : Nat) (bs : List Bool) : List Nat := (List.range bs.length).filter fun k => (ans i (flp bs k) != ans i bs)
theorem matters_ok {bs : List Bool} (h0 : bs ≠ []) (h1 : bs.length ≤ 12) {i : Nat} (hi : i < 13) : F_matters Γ [.str (nm i), .tup (vs bs)] = mpure (.tup ((mts i bs).map fun (k : Nat) => .int k)) := WP_pure_of fun z => by
  simp [F_matters, B_matters, rho0, answer_ok h0 h1 hi, vs_len]
  refine ⟨by omega, by simp [rangeD, sizeLine_eq]; omega, ?_⟩
  rw [compL_range (tb := fun k => (ans i (flp bs k) != ans i bs)) (fb := fun k => .int k) fun k hk => ⟨WP_pure_of fun z => ?_, fun _ => WP_pure_of fun z => ?_⟩]
  · rw [WP_pure]; exact ⟨rfl, rfl⟩
  · have e := turned_at_ok (Γ := Γ) hk h1
    have e2 := told_ok (Γ := Γ) (bs := flp bs k) flp_ne (by rw [flp_len hk]; exact h1) i hi
    simp [e, e2, neD_str, okS_vc]
    cases ans i (flp bs k) <;> cases ans i bs <;> rfl
  · simp
theorem lturned_ok {bs : List Bool} (h1 : bs.length ≤ 12) : F_law_turned Γ [.str (txt bs)] = mpure (.str (txt (bs.map not))) := WP_pure_of fun z => by
  have e : ∀ d, compL 1 tYesD (eIf (tV (e2 (op2 eqD) (eV 1) (eC (.str [43])))) (eC (.str [45])) (eC (.str [43]))) ((txt bs).map fun c => .str [c]) [some (.val d), none] = mpure ((txt (bs.map not)).map fun c => .str [c]) := fun d => by
    clear h1
    induction bs with
    | nil => rfl
    | cons b bs ih =>
      apply WP_pure_of
      intro z
      rw [show (txt (b :: bs)).map (fun c => D.str [c]) = .str [sg b] :: (txt bs).map fun c => .str [c] from rfl, compL_cons]
      cases b
      · simp [eqD_str, sg, ih]
        rfl
      · simp [eqD_str, sg, ih]
        rfl
  simp [F_law_turned, B_law_turned, rho0, txt_len, e]
  refine ⟨by rw [sizeLine_eq]; omega, ?_⟩
  have hj := join_txt (bs := bs.map not) (by rw [List.length_map]; omega)
  rw [hj]
  exact ⟨rfl, rfl⟩
end C
set_option Elab.async false
set_option linter.all false
set_option maxRecDepth 100000
set_option maxHeartbeats 4000000
namespace C
open PySem PySem.Spec PyProof.Rows L2 DL
variable {Γ : Cfg}
theorem ansL0 {bs : List Bool} (h0 : bs ≠ []) (h1 : bs.length ≤ 12) (z : S) : WP (F_law_answer Γ [.str (nm 0), .str (txt bs)]) z fun d z' => d = .str [sg (ans 0 bs)] ∧ z' = z := by
  have hl : bs.length ≤ 16777216 := by omega
  have hc := (txt_cnt (bs := bs)).1
  have hc2 := (txt_cnt (bs := bs)).2
  simp [F_law_answer, B_law_answer, rho0, nm, ans, slD_str, cutL_hi, cutL_lo, eqD_str, okS_txt, inD_lst2, inD_ints7, hl, hc, hc2, ixA_str, atI_0 h0, atI_m1 h0, atI_l h0, lenD_str, txt_len, cut_1 h0, cut_m1 h0, addD_str, DL.putAll, putS, getS, -List.count_pos_iff]
  simp only [List.count_pos_iff]
  by_cases h : true ∈ bs <;> simp [h, sg]
theorem ansL1 {bs : List Bool} (h0 : bs ≠ []) (h1 : bs.length ≤ 12) (z : S) : WP (F_law_answer Γ [.str (nm 1), .str (txt bs)]) z fun d z' => d = .str [sg (ans 1 bs)] ∧ z' = z := by
  have hl : bs.length ≤ 16777216 := by omega
  have hc := (txt_cnt (bs := bs)).1
  have hc2 := (txt_cnt (bs := bs)).2
  simp [F_law_answer, B_law_answer, rho0, nm, ans, slD_str, cutL_hi, cutL_lo, eqD_str, okS_txt, inD_lst2, inD_ints7, hl, hc, hc2, ixA_str, atI_0 h0, atI_m1 h0, atI_l h0, lenD_str, txt_len, cut_1 h0, cut_m1 h0, addD_str, DL.putAll, putS, getS, -List.count_pos_iff]
  rfl
theorem ansL2 {bs : List Bool} (h0 : bs ≠ []) (h1 : bs.length ≤ 12) (z : S) : WP (F_law_answer Γ [.str (nm 2), .str (txt bs)]) z fun d z' => d = .str [sg (ans 2 bs)] ∧ z' = z := by
  have hl : bs.length ≤ 16777216 := by omega
  have hc := (txt_cnt (bs := bs)).1
  have hc2 := (txt_cnt (bs := bs)).2
  simp [F_law_answer, B_law_answer, rho0, nm, ans, slD_str, cutL_hi, cutL_lo, eqD_str, okS_txt, inD_lst2, inD_ints7, hl, hc, hc2, ixA_str, atI_0 h0, atI_m1 h0, atI_l h0, lenD_str, txt_len, cut_1 h0, cut_m1 h0, addD_str, DL.putAll, putS, getS, -List.count_pos_iff]
  rfl
theorem ansL3 {bs : List Bool} (h0 : bs ≠ []) (h1 : bs.length ≤ 12) (z : S) : WP (F_law_answer Γ [.str (nm 3), .str (txt bs)]) z fun d z' => d = .str [sg (ans 3 bs)] ∧ z' = z := by
  have hl : bs.length ≤ 16777216 := by omega
  have hc := (txt_cnt (bs := bs)).1
  have hc2 := (txt_cnt (bs := bs)).2
  simp [F_law_answer, B_law_answer, rho0, nm, ans, slD_str, cutL_hi, cutL_lo, eqD_str, okS_txt, inD_lst2, inD_ints7, hl, hc, hc2, ixA_str, atI_0 h0, atI_m1 h0, atI_l h0, lenD_str, txt_len, cut_1 h0, cut_m1 h0, addD_str, DL.putAll, putS, getS, -List.count_pos_iff]
  cases hd bs <;> cases la bs <;> simp [sg, eqD_str]
theorem ansL4 {bs : List Bool} (h0 : bs ≠ []) (h1 : bs.length ≤ 12) (z : S) : WP (F_law_answer Γ [.str (nm 4), .str (txt bs)]) z fun d z' => d = .str [sg (ans 4 bs)] ∧ z' = z := by
  have hl : bs.length ≤ 16777216 := by omega
  have hc := (txt_cnt (bs := bs)).1
  have hc2 := (txt_cnt (bs := bs)).2
  simp [F_law_answer, B_law_answer, rho0, nm, ans, slD_str, cutL_hi, cutL_lo, eqD_str, okS_txt, inD_lst2, inD_ints7, hl, hc, hc2, ixA_str, atI_0 h0, atI_m1 h0, atI_l h0, lenD_str, txt_len, cut_1 h0, cut_m1 h0, addD_str, DL.putAll, putS, getS, -List.count_pos_iff]
  simp only [List.count_eq_zero]
  by_cases h : false ∈ bs <;> simp [h, sg]
theorem ansL5 {bs : List Bool} (h0 : bs ≠ []) (h1 : bs.length ≤ 12) (z : S) : WP (F_law_answer Γ [.str (nm 5), .str (txt bs)]) z fun d z' => d = .str [sg (ans 5 bs)] ∧ z' = z := by
  have hl : bs.length ≤ 16777216 := by omega
  have hc := (txt_cnt (bs := bs)).1
  have hc2 := (txt_cnt (bs := bs)).2
  simp [F_law_answer, B_law_answer, rho0, nm, ans, slD_str, cutL_hi, cutL_lo, eqD_str, okS_txt, inD_lst2, inD_ints7, hl, hc, hc2, ixA_str, atI_0 h0, atI_m1 h0, atI_l h0, lenD_str, txt_len, cut_1 h0, cut_m1 h0, addD_str, DL.putAll, putS, getS, -List.count_pos_iff]

theorem ansL7 {bs : List Bool} (h0 : bs ≠ []) (h1 : bs.length ≤ 12) (z : S) : WP (F_law_answer Γ [.str (nm 7), .str (txt bs)]) z fun d z' => d = .str [sg (ans 7 bs)] ∧ z' = z := by
  have hl : bs.length ≤ 16777216 := by omega
  have hc := (txt_cnt (bs := bs)).1
  have hc2 := (txt_cnt (bs := bs)).2
  simp [F_law_answer, B_law_answer, rho0, nm, ans, slD_str, cutL_hi, cutL_lo, eqD_str, okS_txt, inD_lst2, inD_ints7, hl, hc, hc2, ixA_str, atI_0 h0, atI_m1 h0, atI_l h0, lenD_str, txt_len, cut_1 h0, cut_m1 h0, addD_str, DL.putAll, putS, getS, -List.count_pos_iff]

theorem ansL8 {bs : List Bool} (h0 : bs ≠ []) (h1 : bs.length ≤ 12) (z : S) : WP (F_law_answer Γ [.str (nm 8), .str (txt bs)]) z fun d z' => d = .str [sg (ans 8 bs)] ∧ z' = z := by
  have hl : bs.length ≤ 16777216 := by omega
  have hc := (txt_cnt (bs := bs)).1
  have hc2 := (txt_cnt (bs := bs)).2
  simp [F_law_answer, B_law_answer, rho0, nm, ans, slD_str, cutL_hi, cutL_lo, eqD_str, okS_txt, inD_lst2, inD_ints7, hl, hc, hc2, ixA_str, atI_0 h0, atI_m1 h0, atI_l h0, lenD_str, txt_len, cut_1 h0, cut_m1 h0, addD_str, DL.putAll, putS, getS, -List.count_pos_iff]
  split
  · rw [decide_eq_true (by omega)]; rfl
  · split
    · rw [decide_eq_true (by omega)]; rfl
    · rw [decide_eq_false (by omega)]; rfl
theorem ansL9 {bs : List Bool} (h0 : bs ≠ []) (h1 : bs.length ≤ 12) (z : S) : WP (F_law_answer Γ [.str (nm 9), .str (txt bs)]) z fun d z' => d = .str [sg (ans 9 bs)] ∧ z' = z := by
  have hl : bs.length ≤ 16777216 := by omega
  have hc := (txt_cnt (bs := bs)).1
  have hc2 := (txt_cnt (bs := bs)).2
  simp [F_law_answer, B_law_answer, rho0, nm, ans, slD_str, cutL_hi, cutL_lo, eqD_str, okS_txt, inD_lst2, inD_ints7, hl, hc, hc2, ixA_str, atI_0 h0, atI_m1 h0, atI_l h0, lenD_str, txt_len, cut_1 h0, cut_m1 h0, addD_str, DL.putAll, putS, getS, -List.count_pos_iff]
  split
  · rw [decide_eq_false (by omega)]; rfl
  · split
    · rw [decide_eq_true (by omega)]; rfl
    · rw [decide_eq_false (by omega)]; rfl
theorem ansL10 {bs : List Bool} (h0 : bs ≠ []) (h1 : bs.length ≤ 12) (z : S) : WP (F_law_answer Γ [.str (nm 10), .str (txt bs)]) z fun d z' => d = .str [sg (ans 10 bs)] ∧ z' = z := by
  have hl : bs.length ≤ 16777216 := by omega
  have hc := (txt_cnt (bs := bs)).1
  have hc2 := (txt_cnt (bs := bs)).2
  simp [F_law_answer, B_law_answer, rho0, nm, ans, slD_str, cutL_hi, cutL_lo, eqD_str, okS_txt, inD_lst2, inD_ints7, hl, hc, hc2, ixA_str, atI_0 h0, atI_m1 h0, atI_l h0, lenD_str, txt_len, cut_1 h0, cut_m1 h0, addD_str, DL.putAll, putS, getS, -List.count_pos_iff]
  split
  · rw [if_pos (by omega)]
  · split
    · rw [if_neg (by omega), decide_eq_true (by omega)]; rfl
    · rw [if_neg (by omega), decide_eq_false (by omega)]; rfl
theorem ansL11 {bs : List Bool} (h0 : bs ≠ []) (h1 : bs.length ≤ 12) (z : S) : WP (F_law_answer Γ [.str (nm 11), .str (txt bs)]) z fun d z' => d = .str [sg (ans 11 bs)] ∧ z' = z := by
  have hl : bs.length ≤ 16777216 := by omega
  have hc := (txt_cnt (bs := bs)).1
  have hc2 := (txt_cnt (bs := bs)).2
  simp [F_law_answer, B_law_answer, rho0, nm, ans, slD_str, cutL_hi, cutL_lo, eqD_str, okS_txt, inD_lst2, inD_ints7, hl, hc, hc2, ixA_str, atI_0 h0, atI_m1 h0, atI_l h0, lenD_str, txt_len, cut_1 h0, cut_m1 h0, addD_str, DL.putAll, putS, getS, -List.count_pos_iff]
  split
  · rw [if_pos (by omega)]
  · split
    · rw [if_neg (by omega), decide_eq_true (by omega)]; rfl
    · rw [if_neg (by omega), decide_eq_false (by omega)]; rfl
theorem ansL12 {bs : List Bool} (h0 : bs ≠ []) (h1 : bs.length ≤ 12) (z : S) : WP (F_law_answer Γ [.str (nm 12), .str (txt bs)]) z fun d z' => d = .str [sg (ans 12 bs)] ∧ z' = z := by
  have hl : bs.length ≤ 16777216 := by omega
  have hc := (txt_cnt (bs := bs)).1
  have hc2 := (txt_cnt (bs := bs)).2
  simp [F_law_answer, B_law_answer, rho0, nm, ans, slD_str, cutL_hi, cutL_lo, eqD_str, okS_txt, inD_lst2, inD_ints7, hl, hc, hc2, ixA_str, atI_0 h0, atI_m1 h0, atI_l h0, lenD_str, txt_len, cut_1 h0, cut_m1 h0, addD_str, DL.putAll, putS, getS, -List.count_pos_iff]
  have h3 := List.count_le_length (a := false) (l := bs)
  split
  · rw [decide_eq_true (by omega)]; rfl
  · rw [decide_eq_false (by omega)]; rfl
theorem chgs_ok {bs : List Bool} (h0 : bs ≠ []) (h1 : bs.length ≤ 12) {a m t g : D} : compL 6 (tV (e2 (op2 neD) (e2 (op2 ixA) (eV 1) (eV 6)) (e2 (op2 ixA) (eV 1) (e2 (op2 subD) (eV 6) (eC (.int (1))))))) (eV 6) (rangeD 1 (bs.length - 1)) [some (.val a), some (.val (.str (txt bs))), some (.val m), none, some (.val g), none, none] =
    mpure ((cks bs).map fun k => .int (1 + (k : Int))) := by
  unfold cks
  refine compL_range (tb := fun k => (bs[k + 1]? != bs[k]?)) (fb := fun k => .int (1 + (k : Int))) fun k hk => ⟨WP_pure_of fun z => ?_, fun _ => WP_pure_of fun z => ?_⟩
  · have hl : bs.length ≤ 16777216 := by omega
    have e1 : atI (txt bs) (1 + (k : Int)) = some (sg bs[k + 1]) := by
      rw [atI_pos (by omega), show (1 + (k : Int)).toNat = k + 1 by omega, txt_get (by omega)]
    have e2 : atI (txt bs) (1 + (k : Int) - 1) = some (sg bs[k]) := by
      rw [atI_pos (by omega), show (1 + (k : Int) - 1).toNat = k by omega, txt_get (by omega)]
    have ok : ∀ b, sg b < 1114112 := fun b => by cases b <;> decide
    simp [ixA_str, txt_len, hl, e1, e2, neD_str, ok]
    rw [List.getElem?_eq_getElem (by omega), List.getElem?_eq_getElem (by omega)]
    cases bs[k + 1] <;> cases bs[k] <;> rfl
  · simp
theorem ansL6 {bs : List Bool} (h0 : bs ≠ []) (h1 : bs.length ≤ 12) (z : S) : WP (F_law_answer Γ [.str (nm 6), .str (txt bs)]) z fun d z' => d = .str [sg (ans 6 bs)] ∧ z' = z := by
  have hl : bs.length ≤ 16777216 := by omega
  have hc := (txt_cnt (bs := bs)).1
  have hc2 := (txt_cnt (bs := bs)).2
  simp [F_law_answer, B_law_answer, rho0, nm, ans, slD_str, cutL_hi, cutL_lo, eqD_str, okS_txt, inD_lst2, inD_ints7, hl, hc, hc2, ixA_str, atI_0 h0, atI_m1 h0, atI_l h0, lenD_str, txt_len, cut_1 h0, cut_m1 h0, addD_str, DL.putAll, putS, getS, -List.count_pos_iff]
  refine ⟨by omega, by simp [rangeD, sizeLine_eq]; omega, ?_⟩
  have e0 := chgs_ok h0 h1 (a := .str [105, 115, 108, 97, 110, 100]) (m := .int (↑(List.count true bs) - ↑(List.count false bs))) (t := .non) (g := .bl false)
  rw [e0, WP_pure]
  have e1 : eqD (.lst ((cks bs).map fun (k : Nat) => D.int (1 + (k : Int)))) (.lst []) = some (.bl (decide (cks bs = []))) := by
    have h := (eqD_ints (a := (cks bs).map fun (k : Nat) => 1 + (k : Int)) (b := [])).1
    rw [List.map_map] at h
    have e2 : ((cks bs).map fun (k : Nat) => 1 + (k : Int)) = [] ↔ cks bs = [] := by simp
    rw [show decide (((cks bs).map fun (k : Nat) => 1 + (k : Int)) = []) = decide (cks bs = []) from decide_eq_decide.mpr e2] at h
    exact h
  rw [e1]
  cases bs with
  | nil => exact absurd rfl h0
  | cons b r =>
    have hc := cks_len b r
    cases b with
    | true =>
      have h3 : (chg true r = []) ↔ cks (true :: r) = [] := by rw [← List.length_eq_zero_iff, ← List.length_eq_zero_iff, hc]
      by_cases h4 : cks (true :: r) = []
      · simp [hd, sg, eqD_str, isl, h4, h3.mpr h4]
      · simp [hd, sg, eqD_str, isl, h4, mt h3.mp h4]
    | false =>
      by_cases h4 : (chg false r).length = 2
      · simp [hd, sg, eqD_str, isl, h4, hc]
      · simp [hd, sg, eqD_str, isl, h4, hc]
        omega
theorem lans_ok {bs : List Bool} (h0 : bs ≠ []) (h1 : bs.length ≤ 12) : ∀ i, i < 13 → F_law_answer Γ [.str (nm i), .str (txt bs)] = mpure (.str [sg (ans i bs)])
  | 0, _ => WP_pure_of fun z => ansL0 h0 h1 z
  | 1, _ => WP_pure_of fun z => ansL1 h0 h1 z
  | 2, _ => WP_pure_of fun z => ansL2 h0 h1 z
  | 3, _ => WP_pure_of fun z => ansL3 h0 h1 z
  | 4, _ => WP_pure_of fun z => ansL4 h0 h1 z
  | 5, _ => WP_pure_of fun z => ansL5 h0 h1 z
  | 6, _ => WP_pure_of fun z => ansL6 h0 h1 z
  | 7, _ => WP_pure_of fun z => ansL7 h0 h1 z
  | 8, _ => WP_pure_of fun z => ansL8 h0 h1 z
  | 9, _ => WP_pure_of fun z => ansL9 h0 h1 z
  | 10, _ => WP_pure_of fun z => ansL10 h0 h1 z
  | 11, _ => WP_pure_of fun z => ansL11 h0 h1 z
  | 12, _ => WP_pure_of fun z => ansL12 h0 h1 z
theorem lturn1_ok (b : Bool) : F_law_turned Γ [.str [sg b]] = mpure (.str [sg !b]) := WP_pure_of fun z => by
  cases b
  · simp [F_law_turned, B_law_turned, rho0, sg, sizeLine_eq, compL_cons, eqD_str, joinD, strsD, joinL]
  · simp [F_law_turned, B_law_turned, rho0, sg, sizeLine_eq, compL_cons, eqD_str, joinD, strsD, joinL]
theorem flip_ok {bs : List Bool} {k : Nat} (h : k < bs.length) (h1 : bs.length ≤ 12) : F_law_flip Γ [.str (txt bs), .int k] = mpure (.str (txt (flp bs k))) := WP_pure_of fun z => by
  have hl : bs.length ≤ 16777216 := by omega
  have e1 : atI (txt bs) (k : Int) = some (sg bs[k]) := by rw [atI_pos (by omega), Int.toNat_natCast, txt_get h]
  have e2 : cutL (txt bs) none (some (k : Int)) = txt (bs.take k) := by
    rw [cutL_hi (by omega), Int.toNat_natCast]; unfold txt; rw [List.map_take]
  have e3 : cutL (txt bs) (some ((k : Int) + 1)) none = txt (bs.drop (k + 1)) := by
    rw [cutL_lo (by omega), show ((k : Int) + 1).toNat = k + 1 by omega]; unfold txt; rw [List.map_drop]
  have l1 : (bs.take k).length + 1 ≤ 16777216 := by rw [List.length_take]; omega
  have l2 : (bs.take k).length + 1 + (bs.drop (k + 1)).length ≤ 16777216 := by rw [List.length_take, List.length_drop]; omega
  have e4 : addD (.str (txt (bs.take k))) (.str [sg !bs[k]]) = some (.str (txt (bs.take k) ++ [sg !bs[k]])) := addD_str (by rw [txt_len]; exact l1)
  have e5 : addD (.str (txt (bs.take k) ++ [sg !bs[k]])) (.str (txt (bs.drop (k + 1)))) = some (.str (txt (bs.take k) ++ [sg !bs[k]] ++ txt (bs.drop (k + 1)))) := addD_str (by rw [List.length_append, txt_len, txt_len]; exact l2)
  simp [F_law_flip, B_law_flip, rho0, slD_str, txt_len, hl, e1, e2, e3, lturn1_ok, ixA_str, e4]
  rw [e5]
  simp
  unfold flp
  rw [List.getElem?_eq_getElem h]
  simp [txt, sg]
theorem alike_int {n : Nat} {i : Int} : F_law_alike Γ (n + 1) [.int i, .int i] = mpure (.bl true) := WP_pure_of fun z => by
  simp [F_law_alike, B_law_alike, rho0, isiD, tyD, isK, isNonD]
theorem alike_str {n : Nat} {a : List Nat} (h : okS a = true) : F_law_alike Γ (n + 1) [.str a, .str a] = mpure (.bl true) := WP_pure_of fun z => by
  simp [F_law_alike, B_law_alike, rho0, isiD, tyD, isK, isNonD, eqD_str, h]
theorem alike_ints {n : Nat} {is : List Int} (h : is.length ≤ 1000) : F_law_alike Γ (n + 2) [.tup (is.map .int), .tup (is.map .int)] = mpure (.bl true) := WP_pure_of fun z => by
  have e : compL 2 (tNot (tV (eCall (F_law_alike Γ (n + 1)) [e2 (op2 ixA) (eV 0) (eV 2), e2 (op2 ixA) (eV 1) (eV 2)]))) (eV 2) (rangeD 0 is.length) [some (.val (.tup (is.map .int))), some (.val (.tup (is.map .int))), none] = mpure [] := by
    rw [compL_range (tb := fun _ => false) (fb := fun k => .int k) fun k hk => ⟨WP_pure_of fun z => ?_, fun h => by cases h⟩]
    · rw [List.filter_eq_nil_iff.mpr (by simp)]; rfl
    · have e1 : atI (is.map D.int) (k : Int) = some (.int is[k]) := by
        rw [atI_pos (by omega), Int.toNat_natCast, List.getElem?_map, List.getElem?_eq_getElem hk]; rfl
      simp [e1, alike_int]
  have e2 : eqD (.lst []) (.lst []) = some (.bl true) := rfl
  rw [show F_law_alike Γ (n + 2) = runD 3 (B_law_alike Γ (F_law_alike Γ (n + 1))) from rfl]
  have e3 : neD (.bl false) (.bl false) = some (.bl false) := rfl
  simp [B_law_alike, rho0, isiD, tyD, isK, isNonD, e, e2, e3]
  refine ⟨by omega, by simp [rangeD, sizeLine_eq]; omega⟩
end C
set_option Elab.async false
set_option linter.all false
set_option maxRecDepth 100000
set_option maxHeartbeats 4000000
namespace C
open PySem PySem.Spec PyProof.Rows L2 DL
variable {Γ : Cfg}
theorem compL_map {α : Type} {g : α → D} {i : Nat} {t : EnD → M Bool} {f : EnD → M D} {tb : α → Bool} {fb : α → D} {ρ : EnD} : ∀ {l : List α}, (∀ x ∈ l, t ((ρ.set i none).set i (some (.val (g x)))) = mpure (tb x) ∧ (tb x = true → f ((ρ.set i none).set i (some (.val (g x)))) = mpure (fb x))) → compL i t f (l.map g) ρ = mpure ((l.filter tb).map fb)
  | [], _ => rfl
  | x :: l, h => by
    apply WP_pure_of
    intro z
    rw [List.map_cons, compL_cons, (h x (List.mem_cons_self ..)).1, WP_pure, compL_map fun y hy => h y (List.mem_cons_of_mem _ hy)]
    cases e : tb x with
    | true =>
      rw [if_pos rfl, (h x (List.mem_cons_self ..)).2 e, WP_pure, WP_pure, List.filter_cons_of_pos e]
      exact ⟨rfl, rfl⟩
    | false =>
      rw [if_neg Bool.false_ne_true, WP_pure, List.filter_cons_of_neg (by rw [e]; exact Bool.false_ne_true)]
      exact ⟨rfl, rfl⟩
/-! texts: written, read, refused -/
section
variable {α : Type} {z z1 : S} {ρ ρ1 : EnD} {i : Nat}
theorem WP_eq {m : M α} {x : α} (h : WP m z fun d z' => d = x ∧ z' = z1) : m z = .ok x z1 := by
  unfold WP at h
  split at h
  · rename_i e; obtain ⟨rfl, rfl⟩ := h; exact e
  · exact h.elim
theorem sIf_true {t : EnD → M Bool} {a b : SM} (h : WP (t ρ) z fun c z' => c = true ∧ z' = z) : sIf t a b ρ z = a ρ z := by
  unfold sIf; rw [WP_eq h]; rfl
theorem sSeq_exc {a b : SM} {x : Exn} (h : a ρ z = .exc x z1) : sSeq a b ρ z = .exc x z1 := by unfold sSeq; rw [h]
theorem sSeq_nx {a b : SM} (h : WS (a ρ z) (fun ρ' z' => ρ' = ρ1 ∧ z' = z1) fun _ _ => False) : sSeq a b ρ z = b ρ1 z1 := by
  unfold WS at h
  unfold sSeq
  cases e : a ρ z with
  | nx ρ' z' => rw [e] at h; obtain ⟨rfl, rfl⟩ := h; rfl
  | rt d z' => rw [e] at h; exact h.elim
  | bk ρ' z' => rw [e] at h; exact h.elim
  | ct ρ' z' => rw [e] at h; exact h.elim
  | exc x z' => rw [e] at h; exact h.elim
  | bad => rw [e] at h; exact h.elim
theorem run_exc {n : Nat} {b : SM} {ds : List D} {x : Exn} (h : b (rho0 n ds) z = .exc x z1) : runD n b ds z = .exc x z1 := by unfold runD; rw [h]
theorem rz_exc {x : Str} (h : Γ.E x = true) : sRz Γ x ρ z = .exc ⟨x, none⟩ z := by unfold sRz; rw [if_pos h]; rfl
theorem ob_exc {r : Res α} {k : α → S → Out} {x : Exn} (h : r = .exc x z) : obind r k = .exc x z := by rw [h]; rfl
theorem call_exc {F : List D → M D} {fs : List (EnD → M D)} {ds : List D} {x : Exn} (h1 : WP (evs fs ρ) z fun d z' => d = ds ∧ z' = z) (h2 : F ds z = .exc x z) : eCall F fs ρ z = .exc x z := by
  unfold eCall mbind
  rw [WP_eq h1]
  exact h2
/-- an error is told -/
theorem told_exc {W : Str → Option (List Nat)} {f : EnD → M D} {x : Str} {w : List Nat} {Q : D → S → Prop} (hn : noOwn ρ = true) (h : f ρ z = .exc ⟨x, none⟩ z) (hw : W x = some w) (q : Q (.str w) z) : WP (eTold W f ρ) z Q := by
  unfold WP eTold
  rw [hn, if_pos rfl, h]
  simp only [hw]
  exact q
theorem eJoinG_ev {sep : List Nat} {xs : EnD → M (List D)} {t : EnD → M Bool} {f : EnD → M D} {Q : D → S → Prop} : WP (eJoinG sep i xs t f ρ) z Q = WP (xs ρ) z fun l z' => if l.length ≤ sizeLine ∧ ownAt ρ i = false then WP (compL i t f l ρ) z' fun ds z'' => WP (mopt ((strsD ds).bind fun zs => if JoinOk (DL.ST sep) (zs.map DL.ST) = true then some (.str (joinL sep zs)) else none)) z'' Q else False := by
  unfold eJoinG; rw [WP_bind]; congr; funext x z1; rw [WP_ite, WP_bind]; rfl
theorem joinOk_ones {ws : List Nat} (h : ws.length ≤ 1000) : JoinOk (DL.ST []) ((ws.map fun c => [c]).map DL.ST) = true := by
  have e : ∀ (ws : List Nat) (k : Nat), ((ws.map fun c => [c]).map DL.ST).foldl (fun a t => a + t.length + (DL.ST []).length) k = k + ws.length := by
    intro ws
    induction ws with
    | nil => intro k; rfl
    | cons c ws ih =>
      intro k
      rw [List.map_cons, List.map_cons, List.foldl_cons, ih, ST_len, ST_len]
      simp only [List.length_cons, List.length_nil]
      omega
  unfold JoinOk
  rw [← Array.foldl_toList]
  show (!Builtin.Str.tooLong (((ws.map fun c => [c]).map DL.ST).foldl (fun a t => a + t.length + (DL.ST []).length) 0)) = true
  rw [e]
  unfold Builtin.Str.tooLong
  rw [Bool.not_eq_true', decide_eq_false_iff_not, sizeLine_eq]
  omega
theorem eStopG_ev {b : Bool} {xs : EnD → M (List D)} {t : EnD → M Bool} {f : EnD → M D} {Q : D → S → Prop} : WP (eStopG b i xs t f ρ) z Q = WP (xs ρ) z fun l z' => if ownAt ρ i = false then WP (stopL b i t f l ρ) z' fun c z'' => Q (.bl c) z'' else False := by
  unfold eStopG; rw [WP_bind]; congr; funext x z1; rw [WP_ite, WP_bind]; rfl
theorem all_map {g : α → D} {f : EnD → M D} {fb : α → Bool} : ∀ {l : List α}, (∀ x ∈ l, f ((ρ.set i none).set i (some (.val (g x)))) = mpure (.bl (fb x))) → stopL false i tYesD f (l.map g) ρ = mpure (l.all fb)
  | [], _ => rfl
  | x :: l, h => by
    have ih := all_map (l := l) fun y hy => h y (List.mem_cons_of_mem _ hy)
    have h1 := h x (List.mem_cons_self ..)
    rw [List.map_cons]
    unfold stopL
    rw [h1, ih]
    funext z
    cases hb : fb x <;> simp [mbind, mne, tYesD, mpure, mopt, asB, hb]
end
theorem text_of_ok {bs : List Bool} (h : bs.length ≤ 1000) : F_text_of Γ [.tup (vs bs)] = mpure (.str (txt bs)) := WP_pure_of fun z => by
  have e : ∀ ρ : EnD, ρ.length = 2 → compL 1 tYesD (e1 (op1 (tblD tb_SIGN_OF)) (eV 1)) (bs.map fun b => D.str (vc b)) ρ = mpure ((bs.filter fun _ => true).map fun b => D.str [sg b]) := fun ρ hρ => by
    match ρ, hρ with
    | [r0, r1], _ =>
      refine compL_map fun b _ => ⟨rfl, fun _ => WP_pure_of fun z => ?_⟩
      cases b <;> simp [vc, sg, tb_SIGN_OF, tblD, getS]
  have e2 : (bs.filter fun _ => true).map (fun b => D.str [sg b]) = (txt bs).map fun c => D.str [c] := by
    rw [List.filter_eq_self.mpr fun _ _ => rfl]
    unfold txt
    rw [List.map_map]
    rfl
  have e3 : iterD (.tup (vs bs)) = some (bs.map fun b => D.str (vc b)) := rfl
  unfold F_text_of B_text_of
  rw [run_ev, show rho0 2 [D.tup (vs bs)] = [some (.val (.tup (vs bs))), none] from rfl, sRet_ev, eJoinG_ev]
  simp only [iS_ev, eV_zero, WP_pure, WP_some, e3, List.length_map, ownAt_succ, ownAt_zn]
  rw [if_pos ⟨by rw [sizeLine_eq]; omega, trivial⟩, e _ rfl, WP_pure, e2, strs_txt, Option.bind_some, if_pos (joinOk_ones (by rw [txt_len]; exact h)), joinL_one, WP_some]
  exact ⟨rfl, rfl⟩
theorem check_text_ok {w : List Nat} : F_check_text Γ [.str w] = mpure .non := WP_pure_of fun z => by
  simp [F_check_text, B_check_text, rho0, isiD, tyD, isK]
theorem check_text_bad {d : D} {z : S} (hE : Γ.E "NotText" = true) (h : isiD ["str"] d = some (.bl false)) : F_check_text Γ [d] z = .exc ⟨"NotText", none⟩ z := by
  refine run_exc ?_
  rw [show rho0 1 [d] = [some (.val d)] from rfl]
  unfold B_check_text
  rw [sIf_true, rz_exc hE]
  simp only [tNot_ev, tV_ev, e1_ev, eV_zero, WP_pure, op1_ev, h, WP_some, asB_bl, Bool.not_false]
  exact ⟨trivial, trivial⟩
theorem alike_vs {n : Nat} {bs : List Bool} (h : bs.length ≤ 1000) : F_law_alike Γ (n + 2) [.tup (vs bs), .tup (vs bs)] = mpure (.bl true) := WP_pure_of fun z => by
  have e : compL 2 (tNot (tV (eCall (F_law_alike Γ (n + 1)) [e2 (op2 ixA) (eV 0) (eV 2), e2 (op2 ixA) (eV 1) (eV 2)]))) (eV 2) (rangeD 0 bs.length) [some (.val (.tup (vs bs))), some (.val (.tup (vs bs))), none] = mpure [] := by
    rw [compL_range (tb := fun _ => false) (fb := fun k => .int k) fun k hk => ⟨WP_pure_of fun z => ?_, fun h => by cases h⟩]
    · rw [List.filter_eq_nil_iff.mpr (by simp)]; rfl
    · have e1 : atI (vs bs) (k : Int) = some (.str (vc bs[k])) := by rw [atI_pos (by omega), Int.toNat_natCast, vs_get hk]
      have e2 : okS (vc bs[k]) = true := by cases bs[k] <;> rfl
      simp [e1, alike_str e2]
  have e2 : eqD (.lst []) (.lst []) = some (.bl true) := rfl
  rw [show F_law_alike Γ (n + 2) = runD 3 (B_law_alike Γ (F_law_alike Γ (n + 1))) from rfl]
  have e3 : neD (.bl false) (.bl false) = some (.bl false) := rfl
  simp [B_law_alike, rho0, isiD, tyD, isK, isNonD, vs_len, e, e2, e3]
  refine ⟨by omega, by simp [rangeD, sizeLine_eq]; omega⟩
theorem lways_ok : F_law_ways Γ [] = mpure (.lst (W.map .str)) := rfl
end C
set_option Elab.async false
set_option linter.all false
set_option maxRecDepth 100000
set_option maxHeartbeats 4000000
namespace K09
open PySem PySem.Spec PyProof.Rows L2 DL C
variable {Γ : Cfg}
/-! drawing, the desk kept -/
theorem takenD {z : S} (g : Good z) {many : Int} (h1 : 0 < many) (h2 : many < 1000) : WP (F_law_taken Γ [.row, .int many]) z fun d z' => ∃ r, d = .int r ∧ 0 ≤ r ∧ r < many ∧ Good z' ∧ z'.dk = z.dk := by
  obtain ⟨p0, s0, s1, r0⟩ := g
  have b : many < 1073741824 := by omega
  have m0 : ∀ x : Int, 0 ≤ x % many := fun x => Int.emod_nonneg x (by omega)
  have m1 : ∀ x : Int, x % many < many := fun x => Int.emod_lt_of_pos x h1
  simp [F_law_taken, B_law_taken, rho0, h1, powD, mulI]
  split
  · exact ⟨b, m0 _, m1 _, p0, s0, s1, Int.ediv_nonneg r0 (by omega)⟩
  · split
    · exact ⟨m0 _, m1 _, by show 0 ≤ z.place + 1; omega, by show 0 ≤ _ % _; omega, by show _ % _ < _; omega, r0⟩
    · rename_i h3 h4
      obtain ⟨c, hc⟩ : ∃ c, atI z.script z.place = some c := by
        rw [atI_there p0 (by omega)]
        exact ⟨_, List.getElem?_eq_getElem (by omega)⟩
      simp [hc, h1, b]
      split
      · exact ⟨m0 _, m1 _, by show 0 ≤ z.place + 1; omega, by show 0 ≤ _ % _; omega, by show _ % _ < _; omega, Int.ediv_nonneg (by omega) (by omega)⟩
      · exact ⟨m0 _, m1 _, by show 0 ≤ z.place + 1; omega, by show 0 ≤ _ % _; omega, by show _ % _ < _; omega, r0⟩
theorem pickD {z : S} (g : Good z) {ks : List D} (h1 : ks ≠ []) (h2 : ks.length < 1000) : WP (F_law_pick Γ [.row, .lst ks]) z fun d z' => d ∈ ks ∧ Good z' ∧ z'.dk = z.dk := by
  have h0 : 0 < ks.length := List.length_pos_iff.mpr h1
  simp [F_law_pick, B_law_pick, rho0]
  refine WP_mono (takenD g (by omega) (by omega)) fun d z' ⟨r, e, r0, r1, g', gd⟩ => ?_
  subst e
  have e2 : atI ks r = some ks[r.toNat] := by
    rw [atI_there r0 r1, List.getElem?_eq_getElem (by omega)]
  simp [ixA, ixD, e2, g', gd]
/-! the desk -/
def an (i : Nat) (bs : List Bool) : D := if bs = [] then .non else .str (vc (ans i bs))
def f3 (w r n : D) : List (Str × D) := [(("_way" : Str), w), (("_row" : Str), r), (("_answer" : Str), n)]
abbrev fl (i : Nat) (bs : List Bool) : List (Str × D) := f3 (.str (nm i)) (.tup (vs bs)) (an i bs)
section
variable {z z1 z2 : S} {a : Addr} {i : Nat} {bs cs : List Bool} {ρ : EnD} {f m : Str} {d v w r n : D} {fs : List (Str × D)} {fv : EnD → M D}
theorem lk_way : (f3 w r n).lookup ("_way" : Str) = some w := rfl
theorem lk_row : (f3 w r n).lookup ("_row" : Str) = some r := rfl
theorem lk_ans : (f3 w r n).lookup ("_answer" : Str) = some n := rfl
theorem lk_run : (f3 w r n).lookup ("run" : Str) = none := rfl
theorem lk_undo : (f3 w r n).lookup ("undo" : Str) = none := rfl
theorem lk_add : (f3 w r n).lookup ("_add" : Str) = none := rfl
theorem lk_keep : (f3 w r n).lookup ("_keep" : Str) = none := rfl
theorem lk_places : (f3 w r n).lookup ("_places" : Str) = none := rfl
theorem put_row : putD ("_row" : Str) v (f3 w r n) = f3 w v n := rfl
theorem put_ans : putD ("_answer" : Str) v (f3 w r n) = f3 w r v := rfl
theorem dkF_at (h : z.dk = some (a, fs)) : dkF (dskV a) z = some (a, fs) := by
  unfold dkF
  rw [h]
  exact if_pos ⟨rfl, rfl⟩
theorem fld_eq {fe : EnD → M D} (hf : fe ρ z = .ok (dskV a) z) (h : z.dk = some (a, fs)) (l : fs.lookup f = some d) : eFldD f fe ρ z = .ok d z := by
  unfold eFldD
  rw [mbind_ok hf]
  simp only [dkF_at h, Option.bind_some, l]
theorem fld_wp {fe : EnD → M D} (hf : fe ρ z = .ok (dskV a) z) (h : z.dk = some (a, fs)) (l : fs.lookup f = some d) {Q : D → S → Prop} (q : Q d z) : WP (eFldD f fe ρ) z Q := by
  unfold WP
  rw [fld_eq hf h l]
  exact q
theorem fldS_eq {fe : EnD → M D} (hv : fv ρ z = .ok v z1) (hf : fe ρ z1 = .ok (dskV a) z1) (h : z1.dk = some (a, fs)) (hn : noS v = true) (hl : fs.length < 1000) : sFldS f fe fv ρ z = .nx ρ { z1 with dk := some (a, putD f v fs) } := by
  unfold sFldS
  rw [hv]
  simp only [obind]
  rw [hf]
  simp only [obind, dkF_at h]
  rw [if_pos ⟨hn, hl⟩]
theorem meth_eq {F : List D → M D} {fo : EnD → M D} {gs : List (EnD → M D)} {ds : List D} (hf : fo ρ z = .ok (dskV a) z) (h : z.dk = some (a, fs)) (l : fs.lookup m = none) (hg : evs gs ρ z = .ok ds z1) : eMeth m F fo gs ρ z = F (dskV a :: ds) z1 := by
  unfold eMeth
  rw [mbind_ok hf]
  simp only [dkF_at h, l, Option.isNone_none, if_true]
  rw [mbind_ok hg]
theorem prop_eq {F : List D → M D} {fe : EnD → M D} (hf : fe ρ z = .ok (dskV a) z) (h : z.dk = some (a, fs)) : eProp F fe ρ z = F [dskV a] z := by
  unfold eProp
  rw [mbind_ok hf]
  simp only [dkF_at h]
theorem ex_ok {e : EnD → M D} (h : e ρ z = .ok d z1) : sEx e ρ z = .nx ρ z1 := by unfold sEx; rw [h]; rfl
theorem ex_exc {e : EnD → M D} {x : Exn} (h : e ρ z = .exc x z1) : sEx e ρ z = .exc x z1 := by unfold sEx; rw [h]; rfl
theorem ret_ok {e : EnD → M D} (h : e ρ z = .ok d z1) : sRet e ρ z = .rt d z1 := by unfold sRet; rw [h]; rfl
theorem seq_nx {A B : SM} {ρ1 : EnD} (h : A ρ z = .nx ρ1 z1) : sSeq A B ρ z = B ρ1 z1 := by unfold sSeq; rw [h]
theorem seq_rt {A B : SM} (h : A ρ z = .rt d z1) : sSeq A B ρ z = .rt d z1 := by unfold sSeq; rw [h]
theorem run_nx {k : Nat} {b : SM} {ds : List D} {ρ1 : EnD} (h : b (rho0 k ds) z = .nx ρ1 z1) : runD k b ds z = .ok .non z1 := by unfold runD; rw [h]
theorem run_rt {k : Nat} {b : SM} {ds : List D} (h : b (rho0 k ds) z = .rt d z1) : runD k b ds z = .ok d z1 := by unfold runD; rw [h]
theorem if_t {t : EnD → M Bool} {A B : SM} (h : t ρ z = .ok true z1) : sIf t A B ρ z = A ρ z1 := by unfold sIf; rw [h]; rfl
theorem if_f {t : EnD → M Bool} {A B : SM} (h : t ρ z = .ok false z1) : sIf t A B ρ z = B ρ z1 := by unfold sIf; rw [h]; rfl
theorem eIf_t {t : EnD → M Bool} {e g : EnD → M D} (h : t ρ z = .ok true z1) : eIf t e g ρ z = e ρ z1 := by unfold eIf; rw [mbind_ok h]; rfl
theorem eIf_f {t : EnD → M Bool} {e g : EnD → M D} (h : t ρ z = .ok false z1) : eIf t e g ρ z = g ρ z1 := by unfold eIf; rw [mbind_ok h]; rfl
theorem noS_vs (bs : List Bool) : noS (.tup (vs bs)) = true := by
  show noSs (vs bs) = true
  induction bs with
  | nil => rfl
  | cons b r ih => show (noS (.str (vc b)) && noSs (vs r)) = true; rw [ih]; rfl
theorem noS_an : noS (an i bs) = true := by unfold an; split <;> rfl
theorem eq_len : eqD (.int (bs.length : Int)) (.int 0) = some (.bl (decide (bs = []))) := by
  rw [eqD_int]
  cases bs with
  | nil => rfl
  | cons b r => simp; omega
theorem len_vs : lenD (.tup (vs bs)) = some (.int bs.length) := by
  show some (D.int ((vs bs).length : Int)) = _
  rw [vs_len]
theorem evs_c {e : EnD → M D} {es : List (EnD → M D)} {ds : List D} (h : e ρ z = .ok d z1) (t : evs es ρ z1 = .ok ds z2) : evs (e :: es) ρ z = .ok (d :: ds) z2 := by
  show mbind (e ρ) (fun d => mbind (evs es ρ) fun ds => mpure (d :: ds)) z = _
  rw [mbind_ok h, mbind_ok t]; rfl
theorem evs_n : evs [] ρ z = .ok [] z := rfl
theorem call_ok {F : List D → M D} {gs : List (EnD → M D)} {ds : List D} (h : evs gs ρ z = .ok ds z1) (hF : F ds z1 = .ok d z2) : eCall F gs ρ z = .ok d z2 := by
  unfold eCall; rw [mbind_ok h, hF]
theorem pure_at {F : M D} (h : F = mpure d) : F z = .ok d z := by rw [h]; rfl
theorem f3_len : (f3 w r n).length < 1000 := by show 3 < 1000; decide
theorem init_ok (hi : i < 13) (hz : z.dk = some (a, [])) : F_desk_init Γ [dskV a, .str (nm i)] z = .ok .non { z with dk := some (a, fl i []) } := by
  refine run_nx (ρ1 := [some (.val (dskV a)), some (.val (.str (nm i)))]) ?_
  unfold B_desk_init
  rw [show rho0 2 [dskV a, .str (nm i)] = [some (.val (dskV a)), some (.val (.str (nm i)))] from rfl]
  rw [seq_nx (ex_ok (call_ok (evs_c rfl evs_n) (pure_at (check_way_ok hi)))), seq_nx (fldS_eq (v := .str (nm i)) rfl rfl hz rfl (by decide)), seq_nx (fldS_eq (z1 := { z with dk := some (a, putD ("_way" : Str) (.str (nm i)) []) }) (v := .tup []) rfl rfl rfl rfl (by show 1 < 1000; decide)),
    fldS_eq (z1 := { z with dk := some (a, putD ("_row" : Str) (.tup []) (putD ("_way" : Str) (.str (nm i)) [])) }) (v := .non) rfl rfl rfl rfl (by show 2 < 1000; decide)]
  rfl
theorem keep_ok (hi : i < 13) (hl : cs.length ≤ 12) (hz : z.dk = some (a, f3 (.str (nm i)) r n)) : F_desk_keep Γ [dskV a, .tup (vs cs)] z = .ok .non { z with dk := some (a, fl i cs) } := by
  refine run_nx (ρ1 := [some (.val (dskV a)), some (.val (.tup (vs cs)))]) ?_
  unfold B_desk_keep
  rw [show rho0 2 [dskV a, .tup (vs cs)] = [some (.val (dskV a)), some (.val (.tup (vs cs)))] from rfl, seq_nx (fldS_eq (v := .tup (vs cs)) rfl rfl hz (noS_vs cs) f3_len), put_row]
  have hv : (eIf (tV (e2 (op2 eqD) (e1 (op1 lenD) (eV 1)) (eC (.int (0))))) (eC .non) (eCall (F_told_answer Γ) [eFldD "_way" (eV 0), eV 1])) [some (.val (dskV a)), some (.val (.tup (vs cs)))] { z with dk := some (a, f3 (.str (nm i)) (.tup (vs cs)) n) } = .ok (an i cs) { z with dk := some (a, f3 (.str (nm i)) (.tup (vs cs)) n) } := by
    have hc : (tV (e2 (op2 eqD) (e1 (op1 lenD) (eV 1)) (eC (.int (0))))) [some (.val (dskV a)), some (.val (.tup (vs cs)))] { z with dk := some (a, f3 (.str (nm i)) (.tup (vs cs)) n) } = .ok (decide (cs = [])) { z with dk := some (a, f3 (.str (nm i)) (.tup (vs cs)) n) } := by
      refine WP_eq ?_
      simp only [tV_ev, e2_ev, e1_ev, op1_ev, op2_ev, eV_succ, eV_zero, WP_pure, eC_ev, len_vs, WP_some, eq_len, asB_bl]
      first | exact ⟨rfl, rfl⟩ | exact ⟨rfl, trivial⟩ | exact ⟨trivial, trivial⟩
    by_cases c : cs = []
    · rw [decide_eq_true c] at hc
      rw [eIf_t hc]
      unfold an
      rw [if_pos c]
      rfl
    · rw [decide_eq_false c] at hc
      rw [eIf_f hc]
      unfold an
      rw [if_neg c]
      exact call_ok (evs_c (fld_eq rfl rfl lk_way) (evs_c rfl evs_n)) (pure_at (told_ok c hl i hi))
  rw [fldS_eq hv rfl rfl noS_an f3_len, put_ans]
theorem vs_snoc (b : Bool) : vs (bs ++ [b]) = vs bs ++ [.str (vc b)] := by simp [vs]
theorem row_fld (hz : z.dk = some (a, fl i bs)) : eFldD ("_row" : Str) (eV 0) (some (.val (dskV a)) :: ρ) z = .ok (.tup (vs bs)) z := fld_eq rfl hz lk_row
theorem len_c {k : Int} (hz : z.dk = some (a, fl i bs)) : (tV (e2 (op2 eqD) (e1 (op1 lenD) (eFldD ("_row" : Str) (eV 0))) (eC (.int k)))) (some (.val (dskV a)) :: ρ) z = .ok (decide ((bs.length : Int) = k)) z := by
  refine WP_eq ?_
  simp only [tV_ev, e2_ev, e1_ev]
  refine fld_wp rfl hz lk_row ?_
  simp only [op1_ev, op2_ev, len_vs, WP_some, eC_ev, WP_pure, eqD_int, asB_bl]
  exact ⟨trivial, trivial⟩
theorem add_ok (hi : i < 13) (hl : bs.length < 12) (b : Bool) (hz : z.dk = some (a, fl i bs)) : F_desk_add Γ [dskV a, .str (vc b)] z = .ok .non { z with dk := some (a, fl i (bs ++ [b])) } := by
  refine run_nx (ρ1 := [some (.val (dskV a)), some (.val (.str (vc b)))]) ?_
  unfold B_desk_add
  have hc := len_c (k := 12) (ρ := [some (.val (.str (vc b)))]) hz
  rw [decide_eq_false (by omega)] at hc
  rw [show rho0 2 [dskV a, .str (vc b)] = [some (.val (dskV a)), some (.val (.str (vc b)))] from rfl, seq_nx (ρ1 := [some (.val (dskV a)), some (.val (.str (vc b)))]) (z1 := z) (by rw [if_f hc]; rfl)]
  have he : (e2 (op2 addD) (eFldD ("_row" : Str) (eV 0)) (eTup [eV 1])) [some (.val (dskV a)), some (.val (.str (vc b)))] z = .ok (.tup (vs (bs ++ [b]))) z := by
    refine WP_eq ?_
    rw [e2_ev]
    refine fld_wp rfl hz lk_row ?_
    simp only [eTup_ev, evs_cons, evs_nil, eV_succ, eV_zero, WP_pure, op2_ev]
    rw [addD_tup (by rw [vs_len]; simp; omega), WP_some, vs_snoc]
    first | exact ⟨rfl, rfl⟩ | exact ⟨rfl, trivial⟩ | exact ⟨trivial, trivial⟩
  exact ex_ok ((meth_eq rfl hz lk_keep (evs_c he evs_n)).trans (keep_ok hi (by simp; omega) hz))
theorem add_full (hE : Γ.E "NotNow" = true) (hl : bs.length = 12) (hz : z.dk = some (a, fl i bs)) : F_desk_add Γ [dskV a, d] z = .exc ⟨"NotNow", none⟩ z := by
  refine run_exc ?_
  unfold B_desk_add
  have hc := len_c (k := 12) (ρ := [some (.val d)]) hz
  rw [decide_eq_true (by omega)] at hc
  rw [show rho0 2 [dskV a, d] = [some (.val (dskV a)), some (.val d)] from rfl]
  exact sSeq_exc (by rw [if_t hc]; exact rz_exc hE)
theorem cut_end {α : Type} {xs : List α} (h : xs ≠ []) : cutL xs none (some (-1)) = xs.dropLast := by
  have hp := List.length_pos_iff.mpr h
  unfold cutL
  have e : HT.sIx xs.length xs.length (some (-1)) = xs.length - 1 := by
    show (if (-1 : Int) < 0 then ((-1 : Int) + (xs.length : Int)).toNat else min (-1 : Int).toNat xs.length) = _
    rw [if_pos (by omega)]
    omega
  rw [HT.sIx_none, e, List.drop_zero, Nat.sub_zero, List.dropLast_eq_take]
theorem vs_dl : (vs bs).dropLast = vs bs.dropLast := by unfold vs; rw [List.map_dropLast]
theorem txt_dl : (txt bs).dropLast = txt bs.dropLast := by unfold txt; rw [List.map_dropLast]
theorem vs_ne (h : bs ≠ []) : vs bs ≠ [] := fun e => h (by have := congrArg List.length e; rw [vs_len] at this; exact List.length_eq_zero_iff.mp this)
theorem undo_ok (hi : i < 13) (h0 : bs ≠ []) (hl : bs.length ≤ 12) (hz : z.dk = some (a, fl i bs)) : F_desk_undo Γ [dskV a] z = .ok .non { z with dk := some (a, fl i bs.dropLast) } := by
  refine run_nx (ρ1 := [some (.val (dskV a))]) ?_
  unfold B_desk_undo
  have hp := List.length_pos_iff.mpr h0
  have hc := len_c (k := 0) (ρ := []) hz
  rw [decide_eq_false (by omega)] at hc
  rw [show rho0 1 [dskV a] = [some (.val (dskV a))] from rfl, seq_nx (ρ1 := [some (.val (dskV a))]) (z1 := z) (by rw [if_f hc]; rfl)]
  have he : (eSl (eFldD ("_row" : Str) (eV 0)) pNo (pSo (e1 (op1 negD) (eC (.int (1)))))) [some (.val (dskV a))] z = .ok (.tup (vs bs.dropLast)) z := by
    refine WP_eq ?_
    rw [eSl_ev]
    refine fld_wp rfl hz lk_row ?_
    simp only [pNo_ev, pSo_ev, e1_ev, eC_ev, WP_pure, op1_ev, negD, WP_some, asI_int, Option.map_some, slD_tup]
    rw [show (-(1 : Int)) = -1 from rfl, cut_end (vs_ne h0), vs_dl]
    first | exact ⟨rfl, rfl⟩ | exact ⟨rfl, trivial⟩ | exact ⟨trivial, trivial⟩
  exact ex_ok ((meth_eq rfl hz lk_keep (evs_c he evs_n)).trans (keep_ok hi (by rw [List.length_dropLast]; omega) hz))
theorem undo_none (hE : Γ.E "NothingToUndo" = true) (hz : z.dk = some (a, fl i [])) : F_desk_undo Γ [dskV a] z = .exc ⟨"NothingToUndo", none⟩ z := by
  refine run_exc ?_
  unfold B_desk_undo
  have hc := len_c (k := 0) (ρ := []) hz
  rw [decide_eq_true (by rfl)] at hc
  rw [show rho0 1 [dskV a] = [some (.val (dskV a))] from rfl]
  exact sSeq_exc (by rw [if_t hc]; exact rz_exc hE)
end
end K09
set_option Elab.async false
set_option linter.all false
set_option maxRecDepth 100000
set_option maxHeartbeats 4000000
namespace K09
open PySem PySem.Spec PyProof.Rows L2 DL C
variable {Γ : Cfg}
/-- the text of a place -/
def numS (k : Nat) : List Nat := (toString (k : Int) : Str).cps.toList
def noneS : List Nat := [110, 111, 110, 101]
theorem str_num {k : Nat} (h : k < 1000) : strI (.int k) = some (.str (numS k)) := by
  show (if 0 ≤ (k : Int) ∧ (k : Int) < 1000 then some (D.str (numS k)) else none) = _
  rw [if_pos ⟨by omega, by omega⟩]
theorem num_ok : ∀ k, k < 12 → okS (numS k) = true ∧ (numS k).length ≤ 2 := by
  have h : ∀ k : Fin 12, okS (numS k.val) = true ∧ (numS k.val).length ≤ 2 := by decide +kernel
  intro k hk
  exact h ⟨k, hk⟩
def plc (i : Nat) (bs : List Bool) : List Nat := if bs = [] then noneS else if mts i bs = [] then noneS else joinL [32] ((mts i bs).map numS)
theorem strsD_map : ∀ ws : List (List Nat), strsD (ws.map .str) = some ws
  | [] => rfl
  | w :: ws => by
    show (strsD (ws.map .str)).map (fun zs => w :: zs) = _
    rw [strsD_map ws]; rfl
theorem mts_lt {i : Nat} {bs : List Bool} : ∀ k ∈ mts i bs, k < bs.length := fun k hk => by
  unfold mts at hk
  exact List.mem_range.mp (List.mem_filter.mp hk).1
theorem mts_len {i : Nat} {bs : List Bool} : (mts i bs).length ≤ bs.length := by
  unfold mts
  have := List.length_filter_le (fun k => (ans i (flp bs k) != ans i bs)) (List.range bs.length)
  rw [List.length_range] at this
  exact this
theorem nums_len {ks : List Nat} (h : ∀ k ∈ ks, k < 12) : ((ks.map numS).map List.length).sum ≤ 2 * ks.length := by
  induction ks with
  | nil => simp
  | cons k ks ih =>
    have h1 := (num_ok k (h k (List.mem_cons_self ..))).2
    have h2 := ih fun j hj => h j (List.mem_cons_of_mem _ hj)
    simp only [List.map_cons, List.sum_cons, List.length_cons]
    omega
theorem joinOk_nums {ks : List Nat} (h : ∀ k ∈ ks, k < 12) (hl : ks.length ≤ 12) : JoinOk (DL.ST [32]) ((ks.map numS).map DL.ST) = true := by
  have e : ∀ (ks : List Nat) (n : Nat), (∀ k ∈ ks, k < 12) → ((ks.map numS).map DL.ST).foldl (fun a t => a + t.length + (DL.ST [32]).length) n ≤ n + 3 * ks.length := by
    intro ks
    induction ks with
    | nil => intro n _; simp
    | cons k ks ih =>
      intro n h
      have h1 := (num_ok k (h k (List.mem_cons_self ..))).2
      have h2 := ih (n + (DL.ST (numS k)).length + (DL.ST [32]).length) fun j hj => h j (List.mem_cons_of_mem _ hj)
      rw [List.map_cons, List.map_cons, List.foldl_cons]
      have h3 : (DL.ST [32]).length = 1 := by rw [ST_len]; rfl
      have h4 : (DL.ST (numS k)).length = (numS k).length := ST_len _
      rw [h3, h4] at h2 ⊢
      rw [List.length_cons]
      omega
  unfold JoinOk
  rw [← Array.foldl_toList]
  show (!Builtin.Str.tooLong (((ks.map numS).map DL.ST).foldl (fun a t => a + t.length + (DL.ST [32]).length) 0)) = true
  have h1 := e ks 0 h
  unfold Builtin.Str.tooLong
  rw [Bool.not_eq_true', decide_eq_false_iff_not, sizeLine_eq]
  omega
theorem okS_join : ∀ {ws : List (List Nat)}, (∀ w ∈ ws, okS w = true) → okS (joinL [32] ws) = true
  | [], _ => rfl
  | [w], h => h w (List.mem_cons_self ..)
  | w :: v :: r, h => by
    show okS (w ++ [32] ++ joinL [32] (v :: r)) = true
    have h1 := h w (List.mem_cons_self ..)
    have h2 := okS_join (ws := v :: r) fun x hx => h x (List.mem_cons_of_mem _ hx)
    unfold okS at h1 h2 ⊢
    rw [List.all_append, List.all_append, h1, h2]
    rfl
theorem plc_ok {i : Nat} {bs : List Bool} (hl : bs.length ≤ 12) : okS (plc i bs) = true := by
  unfold plc
  split
  · rfl
  · split
    · rfl
    · refine okS_join fun w hw => ?_
      obtain ⟨k, hk, rfl⟩ := List.mem_map.mp hw
      exact (num_ok k (Nat.lt_of_lt_of_le (mts_lt k hk) hl)).1
section
variable {z : S} {a : Addr} {i : Nat} {bs : List Bool} {d : D} {ρ : EnD}
theorem places_ok (hi : i < 13) (hl : bs.length ≤ 12) (hz : z.dk = some (a, fl i bs)) : F_desk_places Γ [dskV a] z = .ok (.str (plc i bs)) z := by
  refine run_rt ?_
  unfold B_desk_places
  rw [show rho0 3 [dskV a] = [some (.val (dskV a)), none, none] from rfl]
  have hc := len_c (k := 0) (ρ := [none, none]) hz
  by_cases c : bs = []
  · rw [decide_eq_true (by rw [c]; rfl)] at hc
    rw [seq_nx (ρ1 := [some (.val (dskV a)), some (.val (.tup [])), none]) (z1 := z) (by unfold sSet; rw [eIf_t hc]; rfl)]
    refine ret_ok ?_
    rw [eIf_t (z1 := z) rfl]
    unfold plc
    rw [if_pos c]
    rfl
  · have hp := List.length_pos_iff.mpr c
    rw [decide_eq_false (by omega)] at hc
    have hm : (eCall (F_matters Γ) [eFldD "_way" (eV 0), eFldD "_row" (eV 0)]) [some (.val (dskV a)), none, none] z = .ok (.tup ((mts i bs).map fun (k : Nat) => .int k)) z :=
      call_ok (evs_c (fld_eq rfl hz lk_way) (evs_c (fld_eq rfl hz lk_row) evs_n)) (pure_at (matters_ok c hl hi))
    rw [seq_nx (ρ1 := [some (.val (dskV a)), some (.val (.tup ((mts i bs).map fun (k : Nat) => .int k))), none]) (z1 := z) (by unfold sSet; rw [eIf_f hc, hm]; rfl)]
    refine ret_ok ?_
    have ml := mts_len (i := i) (bs := bs)
    have hk : ∀ k ∈ mts i bs, k < 12 := fun k hk => Nat.lt_of_lt_of_le (mts_lt k hk) hl
    have hc2 : (tV (e2 (op2 eqD) (e1 (op1 lenD) (eV 1)) (eC (.int (0))))) [some (.val (dskV a)), some (.val (.tup ((mts i bs).map fun (k : Nat) => .int k))), none] z = .ok (decide (mts i bs = [])) z := by
      refine WP_eq ?_
      have e1 : lenD (.tup ((mts i bs).map fun (k : Nat) => D.int k)) = some (.int (mts i bs).length) := by
        show some (D.int _) = _
        rw [List.length_map]
      have e2 : eqD (.int ((mts i bs).length : Int)) (.int 0) = some (.bl (decide (mts i bs = []))) := by
        rw [eqD_int]
        cases mts i bs with
        | nil => rfl
        | cons b r => simp; omega
      simp only [tV_ev, e2_ev, e1_ev, op1_ev, op2_ev, eV_succ, eV_zero, WP_pure, eC_ev, e1, WP_some, e2, asB_bl]
      exact ⟨trivial, trivial⟩
    unfold plc
    rw [if_neg c]
    by_cases c2 : mts i bs = []
    · rw [decide_eq_true c2] at hc2
      rw [eIf_t hc2, if_pos c2]
      rfl
    · rw [decide_eq_false c2] at hc2
      rw [eIf_f hc2, if_neg c2]
      refine WP_eq ?_
      have e4 : iterD (.tup ((mts i bs).map fun (k : Nat) => D.int k)) = some ((mts i bs).map fun (k : Nat) => D.int k) := rfl
      have e5 := compL_map (i := 2) (t := tYesD) (f := e1 (op1 strI) (eV 2)) (g := fun (k : Nat) => D.int k) (tb := fun _ => true) (fb := fun k => D.str (numS k)) (l := mts i bs) (ρ := [some (.val (dskV a)), some (.val (.tup ((mts i bs).map fun (k : Nat) => .int k))), none]) fun k hk' => ⟨rfl, fun _ => WP_pure_of fun z => by
        simp only [List.set_cons_succ, List.set_cons_zero, e1_ev, eV_succ, eV_zero, WP_pure, op1_ev, str_num (Nat.lt_of_lt_of_le (hk k hk') (by decide)), WP_some]
        exact ⟨trivial, trivial⟩⟩
      rw [List.filter_eq_self.mpr fun _ _ => rfl] at e5
      rw [eJoinG_ev, iS_ev, eV_succ, eV_zero, WP_pure, e4, WP_some, if_pos ⟨by rw [List.length_map, sizeLine_eq]; omega, rfl⟩, e5, WP_pure]
      rw [show ((mts i bs).map fun k => D.str (numS k)) = ((mts i bs).map numS).map .str by rw [List.map_map]; rfl, strsD_map, Option.bind_some, if_pos (joinOk_nums hk (by omega)), WP_some]
      exact ⟨rfl, rfl⟩
end
end K09
set_option Elab.async false
set_option linter.all false
set_option maxRecDepth 100000
set_option maxHeartbeats 4000000
namespace K09
open PySem PySem.Spec PyProof.Rows L2 DL C
variable {Γ : Cfg}
section
variable {z z1 : S} {a : Addr} {i : Nat} {bs : List Bool} {d : D} {ρ : EnD} {w : List Nat}
def LR : List Nat := [114, 111, 119]
def LA : List Nat := [97, 110, 115, 119, 101, 114]
def LM : List Nat := [109, 97, 116, 116, 101, 114, 115]
theorem w_voices : w_VOICES = .tup ([vc true, vc false].map .str) := rfl
theorem in_c (hw : okS w = true) {x : Option Sl} : (tV (e2 (op2 inD) (eV 1) (eC w_VOICES))) [x, some (.val (.str w))] z = .ok (decide (vc true = w) || decide (vc false = w)) z := by
  refine WP_eq ?_
  simp only [tV_ev, e2_ev, op2_ev, eV_succ, eV_zero, WP_pure, eC_ev]
  rw [w_voices, inD_tup hw (by decide), WP_some, asB_bl, WP_some]
  simp
theorem eq_c (hw : okS w = true) {v : List Nat} (hv : okS v = true) {x : Option Sl} : (tV (e2 (op2 eqD) (eV 1) (eC (.str v)))) [x, some (.val (.str w))] z = .ok (decide (w = v)) z := by
  refine WP_eq ?_
  simp only [tV_ev, e2_ev, op2_ev, eV_succ, eV_zero, WP_pure, eC_ev]
  rw [eqD_str hw hv, WP_some, asB_bl, WP_some]
  simp
theorem run_head {rest : SM} : sSeq (sEx (eCall (F_check_text Γ) [eV 1])) rest [some (.val (dskV a)), some (.val (.str w))] z = rest [some (.val (dskV a)), some (.val (.str w))] z :=
  seq_nx (ex_ok (call_ok (evs_c rfl evs_n) (pure_at check_text_ok)))
theorem rr : rho0 2 [dskV a, .str w] = [some (.val (dskV a)), some (.val (.str w))] := rfl
theorem if_skip {t : EnD → M Bool} {A rest : SM} (h : t ρ z = .ok false z) : sSeq (sIf t A sNil) rest ρ z = rest ρ z := seq_nx (by rw [if_f h]; rfl)
theorem run_no (hw : okS w = true) (h1 : vc true ≠ w) (h2 : vc false ≠ w) : F_desk_run Γ [dskV a, .str w] z = runD 2 (fun ρ z => (sSeq (sIf (tV (e2 (op2 eqD) (eV 1) (eC (.str LR)))) (sRet (eCall (F_text_of Γ) [eFldD "_row" (eV 0)])) (sNil))
  (sSeq (sIf (tV (e2 (op2 eqD) (eV 1) (eC (.str LA)))) (sRet (eIf (tV (e2 (op2 isD) (eFldD "_answer" (eV 0)) (eC .non))) (eC (.str noneS)) (eFldD "_answer" (eV 0)))) (sNil))
  (sSeq (sIf (tV (e2 (op2 eqD) (eV 1) (eC (.str LM)))) (sRet (eMeth "_places" (F_desk_places Γ) (eV 0) [])) (sNil))
  (sRz Γ "InvalidText")))) ρ z) [dskV a, .str w] z := by
  have hc := in_c (z := z) hw (x := some (.val (dskV a)))
  rw [decide_eq_false h1, decide_eq_false h2] at hc
  unfold F_desk_run B_desk_run runD
  rw [rr, run_head, if_skip hc]
  rfl
theorem run_row (hl : bs.length ≤ 12) (hz : z.dk = some (a, fl i bs)) : F_desk_run Γ [dskV a, .str LR] z = .ok (.str (txt bs)) z := by
  rw [run_no (by decide) (by decide) (by decide)]
  refine run_rt ?_
  rw [rr, seq_rt (d := .str (txt bs)) (z1 := z)]
  rw [if_t (eq_c (by decide) (by decide))]
  exact ret_ok (call_ok (evs_c (fld_eq rfl hz lk_row) evs_n) (pure_at (text_of_ok (by omega))))
theorem isD_an : isD (an i bs) .non = some (.bl (decide (bs = []))) := by
  unfold an
  split
  · rename_i h; rw [decide_eq_true h]; rfl
  · rename_i h; rw [decide_eq_false h]; rfl
def anS (i : Nat) (bs : List Bool) : List Nat := if bs = [] then noneS else vc (ans i bs)
theorem run_ans (hz : z.dk = some (a, fl i bs)) : F_desk_run Γ [dskV a, .str LA] z = .ok (.str (anS i bs)) z := by
  rw [run_no (by decide) (by decide) (by decide)]
  refine run_rt ?_
  have h1 := eq_c (z := z) (w := LA) (v := LR) (by decide) (by decide) (x := some (.val (dskV a)))
  rw [show decide (LA = LR) = false by decide] at h1
  rw [rr, if_skip h1, seq_rt (d := .str (anS i bs)) (z1 := z)]
  rw [if_t (eq_c (by decide) (by decide))]
  refine ret_ok ?_
  have hc : (tV (e2 (op2 isD) (eFldD "_answer" (eV 0)) (eC .non))) [some (.val (dskV a)), some (.val (.str LA))] z = .ok (decide (bs = [])) z := by
    refine WP_eq ?_
    rw [tV_ev, e2_ev]
    refine fld_wp rfl hz lk_ans ?_
    rw [eC_ev, WP_pure, op2_ev, isD_an, WP_some, asB_bl, WP_some]
    exact ⟨rfl, rfl⟩
  unfold anS
  by_cases c : bs = []
  · rw [decide_eq_true c] at hc
    rw [eIf_t hc, if_pos c]
    rfl
  · rw [decide_eq_false c] at hc
    rw [eIf_f hc, if_neg c, fld_eq rfl hz lk_ans]
    unfold an
    rw [if_neg c]
theorem run_mat (hi : i < 13) (hl : bs.length ≤ 12) (hz : z.dk = some (a, fl i bs)) : F_desk_run Γ [dskV a, .str LM] z = .ok (.str (plc i bs)) z := by
  rw [run_no (by decide) (by decide) (by decide)]
  refine run_rt ?_
  have h1 := eq_c (z := z) (w := LM) (v := LR) (by decide) (by decide) (x := some (.val (dskV a)))
  have h2 := eq_c (z := z) (w := LM) (v := LA) (by decide) (by decide) (x := some (.val (dskV a)))
  rw [show decide (LM = LR) = false by decide] at h1
  rw [show decide (LM = LA) = false by decide] at h2
  rw [rr, if_skip h1, if_skip h2, seq_rt (d := .str (plc i bs)) (z1 := z)]
  rw [if_t (eq_c (by decide) (by decide))]
  exact ret_ok ((meth_eq rfl hz lk_places evs_n).trans (places_ok hi hl hz))
theorem run_bad (hE : Γ.E "InvalidText" = true) (hw : okS w = true) (h1 : vc true ≠ w) (h2 : vc false ≠ w) (h3 : w ≠ LR) (h4 : w ≠ LA) (h5 : w ≠ LM) : F_desk_run Γ [dskV a, .str w] z = .exc ⟨"InvalidText", none⟩ z := by
  rw [run_no hw h1 h2]
  refine run_exc ?_
  have e3 := eq_c (z := z) (w := w) (v := LR) hw (by decide) (x := some (.val (dskV a)))
  have e4 := eq_c (z := z) (w := w) (v := LA) hw (by decide) (x := some (.val (dskV a)))
  have e5 := eq_c (z := z) (w := w) (v := LM) hw (by decide) (x := some (.val (dskV a)))
  rw [decide_eq_false h3] at e3
  rw [decide_eq_false h4] at e4
  rw [decide_eq_false h5] at e5
  rw [rr, if_skip e3, if_skip e4, if_skip e5]
  exact rz_exc hE
theorem run_not (hE : Γ.E "NotText" = true) (h : isiD ["str"] d = some (.bl false)) : F_desk_run Γ [dskV a, d] z = .exc ⟨"NotText", none⟩ z := by
  refine run_exc ?_
  unfold B_desk_run
  rw [show rho0 2 [dskV a, d] = [some (.val (dskV a)), some (.val d)] from rfl]
  exact sSeq_exc (ex_exc (call_exc (ds := [d]) (by simp only [evs_cons, evs_nil, eV_succ, eV_zero, WP_pure]; exact ⟨trivial, trivial⟩) (check_text_bad hE h)))
theorem run_voice_t (b : Bool) : (tV (e2 (op2 inD) (eV 1) (eC w_VOICES))) [some (.val (dskV a)), some (.val (.str (vc b)))] z = .ok true z := by
  rw [in_c (okS_vc b)]
  cases b <;> rfl
theorem run_add (hi : i < 13) (hl : bs.length < 12) (b : Bool) (hz : z.dk = some (a, fl i bs)) : F_desk_run Γ [dskV a, .str (vc b)] z = .ok .non { z with dk := some (a, fl i (bs ++ [b])) } := by
  refine run_rt ?_
  unfold B_desk_run
  rw [rr, run_head, seq_rt (d := .non) (z1 := { z with dk := some (a, fl i (bs ++ [b])) })]
  rw [if_t (run_voice_t b), seq_nx (ex_ok ((meth_eq rfl hz lk_add (evs_c rfl evs_n)).trans (add_ok hi hl b hz)))]
  rfl
theorem run_full (hE : Γ.E "NotNow" = true) (hl : bs.length = 12) (b : Bool) (hz : z.dk = some (a, fl i bs)) : F_desk_run Γ [dskV a, .str (vc b)] z = .exc ⟨"NotNow", none⟩ z := by
  refine run_exc ?_
  unfold B_desk_run
  rw [rr, run_head]
  refine sSeq_exc ?_
  rw [if_t (run_voice_t b)]
  exact sSeq_exc (ex_exc ((meth_eq rfl hz lk_add (evs_c rfl evs_n)).trans (add_full hE hl hz)))
end
end K09
set_option Elab.async false
set_option linter.all false
set_option maxRecDepth 100000
set_option maxHeartbeats 4000000
namespace K09
open PySem PySem.Spec PyProof.Rows L2 DL C
variable {Γ : Cfg}
theorem alike_non {n : Nat} : F_law_alike Γ (n + 1) [.non, .non] = mpure (.bl true) := WP_pure_of fun z => by
  have e1 : eqD .non .non = some (.bl true) := rfl
  simp [F_law_alike, B_law_alike, rho0, isiD, tyD, isK, isD, isNonD, e1]
theorem alike_pair {a b : D} (ha : F_law_alike Γ 2 [a, a] = mpure (.bl true)) (hb : F_law_alike Γ 2 [b, b] = mpure (.bl true)) : F_law_alike Γ 3 [.lst [a, b], .lst [a, b]] = mpure (.bl true) := WP_pure_of fun z => by
  have e : compL 2 (tNot (tV (eCall (F_law_alike Γ 2) [e2 (op2 ixA) (eV 0) (eV 2), e2 (op2 ixA) (eV 1) (eV 2)]))) (eV 2) (rangeD 0 2) [some (.val (.lst [a, b])), some (.val (.lst [a, b])), none] = mpure [] := by
    rw [compL_range (tb := fun _ => false) (fb := fun k => .int k) fun k hk => ⟨WP_pure_of fun z => ?_, fun h => by cases h⟩]
    · rfl
    · match k, hk with
      | 0, _ =>
        have e1 : ixA (.lst [a, b]) (.int (0 + ((0 : Nat) : Int))) = some a := rfl
        simp only [List.set_cons_succ, List.set_cons_zero, tNot_ev, tV_ev, eCall_ev, evs_cons, evs_nil, e2_ev, eV_succ, eV_zero, WP_pure, op2_ev, e1, WP_some, ha, asB_bl]
        (first | exact ⟨rfl, rfl⟩ | exact ⟨rfl, trivial⟩ | exact ⟨trivial, trivial⟩)
      | 1, _ =>
        have e1 : ixA (.lst [a, b]) (.int (0 + ((1 : Nat) : Int))) = some b := rfl
        simp only [List.set_cons_succ, List.set_cons_zero, tNot_ev, tV_ev, eCall_ev, evs_cons, evs_nil, e2_ev, eV_succ, eV_zero, WP_pure, op2_ev, e1, WP_some, hb, asB_bl]
        (first | exact ⟨rfl, rfl⟩ | exact ⟨rfl, trivial⟩ | exact ⟨trivial, trivial⟩)
  have e2 : eqD (.lst []) (.lst []) = some (.bl true) := rfl
  rw [show F_law_alike Γ 3 = runD 3 (B_law_alike Γ (F_law_alike Γ 2)) from rfl]
  have e3 : neD (.bl false) (.bl false) = some (.bl false) := rfl
  have e4 : neD (.bl true) (.bl true) = some (.bl false) := rfl
  have e5 : lenD (.lst [a, b]) = some (.int 2) := rfl
  have e6 : neD (.int 2) (.int 2) = some (.bl false) := rfl
  simp [B_law_alike, rho0, isiD, tyD, isK, isNonD, e, e2, e3, e4, e5, e6]
  show 2 ≤ sizeLine
  decide
section
variable {z z1 : S} {a : Addr} {i : Nat} {bs : List Bool} {d : D} {ρ : EnD}
theorem set_ok {j : Nat} {e : EnD → M D} (h : e ρ z = .ok d z1) (ho : ownAt ρ j = false) : sSet j e ρ z = .nx (ρ.set j (some (.val d))) z1 := by
  unfold sSet
  rw [h]
  show (if ownAt ρ j then _ else _) = _
  rw [ho]; rfl
def hereD (i : Nat) (bs : List Bool) : D := if bs = [] then .non else .str [sg (ans i bs)]
theorem ne_txt : neD (.str (txt bs)) (.str []) = some (.bl (!decide (bs = []))) := by
  rw [neD_str okS_txt rfl]
  cases bs with
  | nil => rfl
  | cons b r => rfl
theorem here_ok (hi : i < 13) (hl : bs.length ≤ 12) {x0 x3 x4 x5 : Option Sl} : (eIf (tV (e2 (op2 neD) (eV 2) (eC (.str [])))) (eCall (F_law_answer Γ) [eV 1, eV 2]) (eC .non)) [x0, some (.val (.str (nm i))), some (.val (.str (txt bs))), x3, x4, x5] z = .ok (hereD i bs) z := by
  have hc : (tV (e2 (op2 neD) (eV 2) (eC (.str [])))) [x0, some (.val (.str (nm i))), some (.val (.str (txt bs))), x3, x4, x5] z = .ok (!decide (bs = [])) z := by
    refine WP_eq ?_
    simp only [tV_ev, e2_ev, eV_succ, eV_zero, WP_pure, eC_ev, op2_ev, ne_txt, WP_some, asB_bl]
    (first | exact ⟨rfl, rfl⟩ | exact ⟨rfl, trivial⟩ | exact ⟨trivial, trivial⟩)
  unfold hereD
  by_cases c : bs = []
  · rw [decide_eq_true c] at hc
    rw [eIf_f hc, if_pos c]
    rfl
  · rw [decide_eq_false c] at hc
    rw [eIf_t hc, if_neg c]
    exact call_ok (evs_c rfl (evs_c rfl evs_n)) (pure_at (lans_ok c hl i hi))
theorem isNot_here : isNotD (hereD i bs) .non = some (.bl (!decide (bs = []))) := by
  unfold hereD
  split
  · rename_i h; rw [decide_eq_true h]; rfl
  · rename_i h; rw [decide_eq_false h]; rfl
/-- word(here) if here is not None else e -/
theorem word_here {e : EnD → M D} {v : D} (he : bs = [] → e ρ z = .ok v z) (hv : bs ≠ [] → v = .str (vc (ans i bs))) (h3 : eV 3 ρ z = .ok (hereD i bs) z) : (eIf (tV (e2 (op2 isNotD) (eV 3) (eC .non))) (eCall (F_law_word Γ) [eV 3]) e) ρ z = .ok v z := by
  have hc : (tV (e2 (op2 isNotD) (eV 3) (eC .non))) ρ z = .ok (!decide (bs = [])) z := by
    refine WP_eq ?_
    rw [tV_ev, e2_ev]
    rw [WP_ok h3]
    rw [eC_ev, WP_pure, op2_ev, isNot_here, WP_some, asB_bl, WP_some]
    (first | exact ⟨rfl, rfl⟩ | exact ⟨rfl, trivial⟩ | exact ⟨trivial, trivial⟩)
  by_cases c : bs = []
  · rw [decide_eq_true c] at hc
    rw [eIf_f hc, he c]
  · rw [decide_eq_false c] at hc
    rw [eIf_t hc, hv c]
    refine call_ok (evs_c h3 evs_n) (pure_at ?_)
    unfold hereD
    rw [if_neg c]
    exact word_ok _
theorem an_alike : F_law_alike Γ 2 [an i bs, an i bs] = mpure (.bl true) := by
  unfold an
  split
  · exact alike_non
  · exact alike_str (okS_vc _)
theorem row_prop (hz : z.dk = some (a, fl i bs)) {ρ : EnD} : eProp (F_desk_row Γ) (eV 0) (some (.val (dskV a)) :: ρ) z = .ok (.tup (vs bs)) z := by
  rw [prop_eq rfl hz]
  exact run_rt (ret_ok (fld_eq rfl hz lk_row))
theorem ans_prop (hz : z.dk = some (a, fl i bs)) {ρ : EnD} : eProp (F_desk_answer Γ) (eV 0) (some (.val (dskV a)) :: ρ) z = .ok (an i bs) z := by
  rw [prop_eq rfl hz]
  exact run_rt (ret_ok (fld_eq rfl hz lk_ans))
def mtL (i : Nat) (bs : List Bool) : List Nat := if bs = [] then [] else mts i bs
theorem plc_mtL : plc i bs = if mtL i bs = [] then noneS else joinL [32] ((mtL i bs).map numS) := by
  unfold plc mtL
  by_cases c : bs = []
  · rw [if_pos c, if_pos c, if_pos rfl]
  · rw [if_neg c, if_neg c]
theorem some_ok (hi : i < 13) (hl : bs.length ≤ 12) {x0 x4 : Option Sl} : (eLc 5 (iR1 (e1 (op1 lenD) (eV 2))) (tV (e2 (op2 neD) (eCall (F_law_answer Γ) [eV 1, eCall (F_law_flip Γ) [eV 2, eV 5]]) (eV 3))) (e1 (op1 strI) (eV 5))) [x0, some (.val (.str (nm i))), some (.val (.str (txt bs))), some (.val (hereD i bs)), x4, none] z = .ok (.lst ((mtL i bs).map fun k => .str (numS k))) z := by
  refine WP_eq ?_
  have e1 : lenD (.str (txt bs)) = some (.int bs.length) := by
    show (if (txt bs).length ≤ sizeLine then some (D.int ((txt bs).length : Int)) else none) = _
    rw [txt_len, if_pos (by rw [sizeLine_eq]; omega)]
  have hr : (rangeD 0 bs.length).length = bs.length := by simp [rangeD]
  have e2 : compL 5 (tV (e2 (op2 neD) (eCall (F_law_answer Γ) [eV 1, eCall (F_law_flip Γ) [eV 2, eV 5]]) (eV 3))) (DL.e1 (op1 strI) (eV 5)) (rangeD 0 bs.length) [x0, some (.val (.str (nm i))), some (.val (.str (txt bs))), some (.val (hereD i bs)), x4, none] = mpure ((mtL i bs).map fun k => .str (numS k)) := by
    rw [compL_range (tb := fun k => (ans i (flp bs k) != ans i bs)) (fb := fun k => D.str (numS k)) fun k hk => ⟨WP_pure_of fun z => ?_, fun _ => WP_pure_of fun z => ?_⟩]
    · unfold mtL
      by_cases c : bs = []
      · subst c; rfl
      · rw [if_neg c]; rfl
    · have c : bs ≠ [] := fun e => by rw [e] at hk; simp at hk
      have l2 := lans_ok (Γ := Γ) (bs := flp bs k) flp_ne (by rw [flp_len hk]; exact hl) i hi
      have hh : hereD i bs = .str [sg (ans i bs)] := by unfold hereD; rw [if_neg c]
      rw [hh]
      simp only [Int.zero_add, List.set_cons_succ, List.set_cons_zero, tV_ev, e2_ev, eCall_ev, evs_cons, evs_nil, eV_succ, eV_zero, WP_pure, flip_ok hk hl, l2, op2_ev, neD_str (sg_ok _) (sg_ok _), WP_some, asB_bl]
      cases ans i (flp bs k) <;> cases ans i bs <;> (first | exact ⟨rfl, rfl⟩ | exact ⟨rfl, trivial⟩ | exact ⟨trivial, trivial⟩)
    · simp only [Int.zero_add, List.set_cons_succ, List.set_cons_zero, e1_ev, eV_succ, eV_zero, WP_pure, op1_ev, str_num (show k < 1000 by omega), WP_some]
      (first | exact ⟨rfl, rfl⟩ | exact ⟨rfl, trivial⟩ | exact ⟨trivial, trivial⟩)
  rw [eLc_ev, iR1_ev, e1_ev, eV_succ, eV_succ, eV_zero, WP_pure, op1_ev, e1, WP_some, asI_int, WP_some, if_pos ⟨by omega, by omega⟩, Int.toNat_natCast, if_pos ⟨by rw [hr, sizeLine_eq]; omega, rfl⟩, e2, WP_pure]
  (first | exact ⟨rfl, rfl⟩ | exact ⟨rfl, trivial⟩ | exact ⟨trivial, trivial⟩)
theorem shown_ok (hi : i < 13) (hl : bs.length ≤ 12) (hz : z.dk = some (a, fl i bs)) : F_law_shown Γ [dskV a, .str (nm i), .str (txt bs)] z = .ok (.bl true) z := by
  refine run_rt ?_
  unfold B_law_shown
  rw [show rho0 6 [dskV a, .str (nm i), .str (txt bs)] = [some (.val (dskV a)), some (.val (.str (nm i))), some (.val (.str (txt bs))), none, none, none] from rfl]
  rw [seq_nx (set_ok (here_ok hi hl) rfl)]
  rw [show ([some (.val (dskV a)), some (.val (.str (nm i))), some (.val (.str (txt bs))), none, none, none] : EnD).set 3 (some (.val (hereD i bs))) = [some (.val (dskV a)), some (.val (.str (nm i))), some (.val (.str (txt bs))), some (.val (hereD i bs)), none, none] from rfl]
  generalize hρ : ([some (.val (dskV a)), some (.val (.str (nm i))), some (.val (.str (txt bs))), some (.val (hereD i bs)), none, none] : EnD) = ρ
  have h0 : eV 0 ρ z = .ok (dskV a) z := by rw [← hρ]; rfl
  have h2 : eV 2 ρ z = .ok (.str (txt bs)) z := by rw [← hρ]; rfl
  have h3 : eV 3 ρ z = .ok (hereD i bs) z := by rw [← hρ]; rfl
  have c1 : (tNot (tV (eCall (F_law_alike Γ 3) [eLst [eProp (F_desk_row Γ) (eV 0), eProp (F_desk_answer Γ) (eV 0)], eLst [eCall (F_law_voices Γ) [eV 2], eIf (tV (e2 (op2 isNotD) (eV 3) (eC .non))) (eCall (F_law_word Γ) [eV 3]) (eC .non)]]))) ρ z = .ok false z := by
    have l1 : eLst [eProp (F_desk_row Γ) (eV 0), eProp (F_desk_answer Γ) (eV 0)] ρ z = .ok (.lst [.tup (vs bs), an i bs]) z := by
      show mbind (evs _ ρ) _ z = _
      rw [mbind_ok (evs_c (by rw [← hρ]; exact row_prop hz) (evs_c (by rw [← hρ]; exact ans_prop hz) evs_n))]
      rfl
    have l2 : eLst [eCall (F_law_voices Γ) [eV 2], eIf (tV (e2 (op2 isNotD) (eV 3) (eC .non))) (eCall (F_law_word Γ) [eV 3]) (eC .non)] ρ z = .ok (.lst [.tup (vs bs), an i bs]) z := by
      show mbind (evs _ ρ) _ z = _
      rw [mbind_ok (evs_c (call_ok (evs_c h2 evs_n) (pure_at (voices_ok hl))) (evs_c (word_here (bs := bs) (i := i) (v := an i bs) (fun c => by unfold an; rw [if_pos c]; rfl) (fun c => by unfold an; rw [if_neg c]) h3) evs_n))]
      rfl
    have l3 : eCall (F_law_alike Γ 3) [eLst [eProp (F_desk_row Γ) (eV 0), eProp (F_desk_answer Γ) (eV 0)], eLst [eCall (F_law_voices Γ) [eV 2], eIf (tV (e2 (op2 isNotD) (eV 3) (eC .non))) (eCall (F_law_word Γ) [eV 3]) (eC .non)]] ρ z = .ok (.bl true) z :=
      call_ok (evs_c l1 (evs_c l2 evs_n)) (pure_at (alike_pair (alike_vs (n := 0) (by omega)) an_alike))
    refine WP_eq ?_
    rw [tNot_ev, tV_ev]
    rw [WP_ok l3]
    (first | exact ⟨rfl, rfl⟩ | exact ⟨rfl, trivial⟩ | exact ⟨trivial, trivial⟩)
  have c2 : (tOr (tV (e2 (op2 neD) (eMeth "run" (F_desk_run Γ) (eV 0) [eC (.str [114, 111, 119])]) (eV 2))) (tV (e2 (op2 neD) (eMeth "run" (F_desk_run Γ) (eV 0) [eC (.str [97, 110, 115, 119, 101, 114])]) (eIf (tV (e2 (op2 isNotD) (eV 3) (eC .non))) (eCall (F_law_word Γ) [eV 3]) (eC (.str [110, 111, 110, 101])))))) ρ z = .ok false z := by
    have m1 : eMeth "run" (F_desk_run Γ) (eV 0) [eC (.str [114, 111, 119])] ρ z = .ok (.str (txt bs)) z := (meth_eq h0 hz lk_run (evs_c rfl evs_n)).trans (run_row hl hz)
    have m2 : eMeth "run" (F_desk_run Γ) (eV 0) [eC (.str [97, 110, 115, 119, 101, 114])] ρ z = .ok (.str (anS i bs)) z := (meth_eq h0 hz lk_run (evs_c rfl evs_n)).trans (run_ans hz)
    have m3 := word_here (Γ := Γ) (bs := bs) (i := i) (ρ := ρ) (z := z) (e := eC (.str [110, 111, 110, 101])) (v := .str (anS i bs)) (fun c => by unfold anS; rw [if_pos c]; rfl) (fun c => by unfold anS; rw [if_neg c]) h3
    have oa : okS (anS i bs) = true := by unfold anS; split; rfl; exact okS_vc _
    refine WP_eq ?_
    rw [tOr_ev, tV_ev, e2_ev]
    rw [WP_ok m1]
    rw [WP_ok h2]
    rw [op2_ev, neD_str okS_txt okS_txt, decide_eq_true rfl, WP_some, Bool.not_true, asB_bl, WP_some, if_neg (by decide), tV_ev, e2_ev]
    rw [WP_ok m2]
    rw [WP_ok m3]
    rw [op2_ev, neD_str oa oa, decide_eq_true rfl, WP_some, Bool.not_true, asB_bl, WP_some]
    (first | exact ⟨rfl, rfl⟩ | exact ⟨rfl, trivial⟩ | exact ⟨trivial, trivial⟩)
  rw [if_skip c1, if_skip c2]
  subst hρ
  rw [seq_nx (set_ok (some_ok hi hl) rfl)]
  rw [show ([some (.val (dskV a)), some (.val (.str (nm i))), some (.val (.str (txt bs))), some (.val (hereD i bs)), none, none] : EnD).set 4 (some (.val (.lst ((mtL i bs).map fun k => .str (numS k))))) = [some (.val (dskV a)), some (.val (.str (nm i))), some (.val (.str (txt bs))), some (.val (hereD i bs)), some (.val (.lst ((mtL i bs).map fun k => .str (numS k)))), none] from rfl]
  refine ret_ok (WP_eq ?_)
  rw [e2_ev]
  have m9 := (meth_eq (ρ := [some (.val (dskV a)), some (.val (.str (nm i))), some (.val (.str (txt bs))), some (.val (hereD i bs)), some (.val (.lst ((mtL i bs).map fun k => .str (numS k)))), none]) (gs := [eC (.str [109, 97, 116, 116, 101, 114, 115])]) (fo := eV 0) (F := F_desk_run Γ) rfl hz lk_run (evs_c rfl evs_n)).trans (run_mat hi hl hz)
  rw [WP_ok m9]
  have e7 : (eIf (tV (e2 (op2 neD) (eV 4) (eLst []))) (eM1 joinD (eC (.str [32])) (eV 4)) (eC (.str [110, 111, 110, 101]))) [some (.val (dskV a)), some (.val (.str (nm i))), some (.val (.str (txt bs))), some (.val (hereD i bs)), some (.val (.lst ((mtL i bs).map fun k => .str (numS k)))), none] z = .ok (.str (plc i bs)) z := by
    have hk : ∀ k ∈ mtL i bs, k < 12 := fun k hk => by
      unfold mtL at hk
      split at hk
      · cases hk
      · exact Nat.lt_of_lt_of_le (mts_lt k hk) hl
    have hml : (mtL i bs).length ≤ 12 := by
      unfold mtL
      split
      · simp
      · have := mts_len (i := i) (bs := bs); omega
    rw [plc_mtL]
    generalize mtL i bs = ks at hk hml
    have en : neD (.lst (ks.map fun k => D.str (numS k))) (.lst []) = some (.bl (!decide (ks = []))) := by
      rw [show (ks.map fun k => D.str (numS k)) = (ks.map numS).map .str by rw [List.map_map]; rfl]
      unfold neD
      rw [(shp_strs (a := ks.map numS) (fun w hw => by obtain ⟨k, hk2, rfl⟩ := List.mem_map.mp hw; exact (num_ok k (hk k hk2)).1)).2]
      have e0 : shp (.lst []) = some (.list []) := rfl
      rw [e0]
      simp only [Option.bind_some, PyData.eqv]
      cases ks <;> rfl
    have hc : (tV (e2 (op2 neD) (eV 4) (eLst []))) [some (.val (dskV a)), some (.val (.str (nm i))), some (.val (.str (txt bs))), some (.val (hereD i bs)), some (.val (.lst (ks.map fun k => .str (numS k)))), none] z = .ok (!decide (ks = [])) z := by
      refine WP_eq ?_
      simp only [tV_ev, e2_ev, eV_succ, eV_zero, WP_pure, eLst_ev, evs_nil, op2_ev, en, WP_some, asB_bl]
      (first | exact ⟨rfl, rfl⟩ | exact ⟨rfl, trivial⟩ | exact ⟨trivial, trivial⟩)
    by_cases c : ks = []
    · rw [decide_eq_true c] at hc
      rw [eIf_f hc, if_pos c]
      rfl
    · rw [decide_eq_false c] at hc
      rw [eIf_t hc, if_neg c]
      refine WP_eq ?_
      have ej : joinD [32] (.lst (ks.map fun k => D.str (numS k))) = some (.str (joinL [32] (ks.map numS))) := by
        unfold joinD
        rw [show (ks.map fun k => D.str (numS k)) = (ks.map numS).map .str by rw [List.map_map]; rfl]
        simp only [items_lst, Option.bind_some, strsD_map]
        have := nums_len hk
        rw [if_pos (by rw [List.length_map]; simp only [List.length_cons, List.length_nil]; omega)]
      rw [eM1_ev, eC_ev, WP_pure, asS_str, WP_some, eV_succ, eV_succ, eV_succ, eV_succ, eV_zero, WP_pure, ej, WP_some]
      (first | exact ⟨rfl, rfl⟩ | exact ⟨rfl, trivial⟩ | exact ⟨trivial, trivial⟩)
  rw [WP_ok e7]
  rw [op2_ev, eqD_str (plc_ok hl) (plc_ok hl), decide_eq_true rfl, WP_some]
  (first | exact ⟨rfl, rfl⟩ | exact ⟨rfl, trivial⟩ | exact ⟨trivial, trivial⟩)
end
end K09
set_option Elab.async false
set_option linter.all false
set_option maxRecDepth 100000
set_option maxHeartbeats 4000000
namespace K09
open PySem PySem.Spec PyProof.Rows L2 DL C
variable {Γ : Cfg}
noncomputable def bodyL (Γ : Cfg) : SM := sSeq (sSet 6 (eCall (F_law_taken Γ) [eV 1, eC (.int (8))]))
    (sIf (tV (e2 (op2 eqD) (eV 6) (eC (.int (0))))) (sIf (tV (e2 (op2 neD) (eTold tellW (eMeth "run" (F_desk_run Γ) (eV 4) [eCall (F_law_pick Γ) [eV 1, eLst [eC (.str []), eC (.str [65, 108, 108, 111, 119]), eC (.str [100, 101, 110, 121, 32]), eC (.str [43]), eC (.str [97, 108, 108, 111, 119, 32, 100, 101, 110, 121]), eC (.str [97, 110, 115, 119, 101, 114, 32])]]])) (eC (.str [105, 110, 118, 97, 108, 105, 100])))) (sRet (eC (.bl false))) (sNil)) (sIf (tV (e2 (op2 eqD) (eV 6) (eC (.int (1))))) (sIf (tV (e2 (op2 neD) (eTold tellW (eMeth "run" (F_desk_run Γ) (eV 4) [eCall (F_law_pick Γ) [eV 1, eLst [eC .non, eC (.int (5)), eLst [eC (.str [100, 101, 110, 121])], eTup [eC (.str [100, 101, 110, 121])]]]])) (eC (.str [116, 101, 120, 116])))) (sRet (eC (.bl false))) (sNil)) (sIf (tAnd (tV (e2 (op2 eqD) (eV 6) (eC (.int (2))))) (tV (e2 (op2 neD) (eV 3) (eC (.str []))))) (sSeq (sEx (eMeth "undo" (F_desk_undo Γ) (eV 4) []))
          (sSet 3 (eSl (eV 3) pNo (pSo (e1 (op1 negD) (eC (.int (1)))))))) (sIf (tV (e2 (op2 ltD) (e1 (op1 lenD) (eV 3)) (eC (.int (12))))) (sSeq (sSet 7 (eCall (F_law_pick Γ) [eV 1, eLst [eC (.str [43]), eC (.str [45])]]))
            (sSeq (sIf (tV (e2 (op2 isNotD) (eMeth "run" (F_desk_run Γ) (eV 4) [eCall (F_law_word Γ) [eV 7]]) (eC .non))) (sRet (eC (.bl false))) (sNil))
            (sSet 3 (e2 (op2 addD) (eV 3) (eV 7))))) (sIf (tV (e2 (op2 neD) (eTold tellW (eMeth "run" (F_desk_run Γ) (eV 4) [eCall (F_law_pick Γ) [eV 1, eLst [eC (.str [97, 108, 108, 111, 119]), eC (.str [100, 101, 110, 121])]]])) (eC (.str [110, 111, 119])))) (sRet (eC (.bl false))) (sNil))))))
noncomputable def restL (Γ : Cfg) : SM := sSeq (sFor 5 (iR1 (eCall (F_law_taken Γ) [eV 1, eC (.int (18))])) (bodyL Γ)) (sRet (eCall (F_law_shown Γ) [eV 4, eV 2, eV 3]))
noncomputable def midL (Γ : Cfg) : SM := sSeq (sIf (tOr (tV (e2 (op2 neD) (eTold tellW (eMeth "undo" (F_desk_undo Γ) (eV 4) [])) (eC (.str [117, 110, 100, 111])))) (tNot (tV (eCall (F_law_shown Γ) [eV 4, eV 2, eV 3])))) (sRet (eC (.bl false))) (sNil)) (restL Γ)
theorem B_law_eq {a : Addr} : B_law Γ a = sSeq (sPar 2 3 (eCall (F_law_pick Γ) [eV 1, eCall (F_law_ways Γ) []]) (eC (.str []))) (sSeq (sMkDk 4 a (F_desk_init Γ) (eV 2)) (midL Γ)) := rfl

theorem told_eq {W : Str → Option (List Nat)} {f : EnD → M D} {x : Str} {w : List Nat} {ρ : EnD} {z z1 : S} (hn : noOwn ρ = true) (h : f ρ z = .exc ⟨x, none⟩ z1) (hw : W x = some w) : eTold W f ρ z = .ok (.str w) z1 := by
  unfold eTold
  rw [if_pos hn, h]
  simp only [hw]
theorem tell_inv : tellW "InvalidText" = some [105, 110, 118, 97, 108, 105, 100] := by decide +kernel
theorem tell_txt : tellW "NotText" = some [116, 101, 120, 116] := by decide +kernel
theorem tell_now : tellW "NotNow" = some [110, 111, 119] := by decide +kernel
theorem tell_undo : tellW "NothingToUndo" = some [117, 110, 100, 111] := by decide +kernel
def P (i : Nat) (a : Addr) (bs : List Bool) (x5 x6 x7 : Option D) : EnD := [none, some (.val .row), some (.val (.str (nm i))), some (.val (.str (txt bs))), some (.val (dskV a)), x5.map .val, x6.map .val, x7.map .val]
section
variable {z z1 : S} {a : Addr} {i : Nat} {bs : List Bool} {x5 x6 x7 : Option D}
theorem P_own : noOwn (P i a bs x5 x6 x7) = true := by cases x5 <;> cases x6 <;> cases x7 <;> rfl
theorem P_o5 : ownAt (P i a bs x5 x6 x7) 5 = false := by cases x5 <;> rfl
theorem P_o6 : ownAt (P i a bs x5 x6 x7) 6 = false := by cases x6 <;> rfl
theorem P_o7 : ownAt (P i a bs x5 x6 x7) 7 = false := by cases x7 <;> rfl
theorem P_s5 {d : D} : (P i a bs x5 x6 x7).set 5 (some (.val d)) = P i a bs (some d) x6 x7 := rfl
theorem P_s6 {d : D} : (P i a bs x5 x6 x7).set 6 (some (.val d)) = P i a bs x5 (some d) x7 := rfl
theorem P_s7 {d : D} : (P i a bs x5 x6 x7).set 7 (some (.val d)) = P i a bs x5 x6 (some d) := rfl
theorem P_4 : eV 4 (P i a bs x5 x6 x7) z = .ok (dskV a) z := rfl
theorem P_3 : eV 3 (P i a bs x5 x6 x7) z = .ok (.str (txt bs)) z := rfl
theorem P_1 : eV 1 (P i a bs x5 x6 x7) z = .ok .row z := rfl
theorem pick_at (g : Good z) {ks : List D} {es : List (EnD → M D)} (h1 : ks ≠ []) (h2 : ks.length < 1000) (he : evs es (P i a bs x5 x6 x7) z = .ok ks z) : ∃ d z1, eCall (F_law_pick Γ) [eV 1, eLst es] (P i a bs x5 x6 x7) z = .ok d z1 ∧ d ∈ ks ∧ Good z1 ∧ z1.dk = z.dk := by
  obtain ⟨d, z1, e, hd, g1, k1⟩ := WP_get (pickD (Γ := Γ) g h1 h2)
  refine ⟨d, z1, call_ok (evs_c P_1 (evs_c ?_ evs_n)) e, hd, g1, k1⟩
  show mbind (evs es _) _ z = _
  rw [mbind_ok he]; rfl
theorem neq_at {e : EnD → M D} {u v : List Nat} {ρ : EnD} (h : e ρ z = .ok (.str u) z1) (hu : okS u = true) (hv : okS v = true) : (tV (e2 (op2 neD) e (eC (.str v)))) ρ z = .ok (!decide (u = v)) z1 := by
  have hm : (e2 (op2 neD) e (eC (.str v))) ρ z = .ok (.bl (!decide (u = v))) z1 := by
    show mbind (e ρ) _ z = _
    rw [mbind_ok h]
    show mbind ((eC (.str v)) ρ) _ z1 = _
    rw [mbind_ok (show (eC (.str v)) ρ z1 = .ok (.str v) z1 from rfl)]
    show (mopt (neD (.str u) (.str v))) z1 = _
    rw [neD_str hu hv]; rfl
  show mbind ((e2 (op2 neD) e (eC (.str v))) ρ) _ z = _
  rw [mbind_ok hm]; rfl
theorem int_at {k r : Int} {ρ : EnD} {j : Nat} (h : eV j ρ z = .ok (.int r) z) : (tV (e2 (op2 eqD) (eV j) (eC (.int k)))) ρ z = .ok (decide (r = k)) z := by
  have hm : (e2 (op2 eqD) (eV j) (eC (.int k))) ρ z = .ok (.bl (decide (r = k))) z := by
    show mbind ((eV j) ρ) _ z = _
    rw [mbind_ok h]
    show mbind ((eC (.int k)) ρ) _ z = _
    rw [mbind_ok (show (eC (.int k)) ρ z = .ok (.int k) z from rfl)]
    show (mopt (eqD (.int r) (.int k))) z = _
    rw [eqD_int]; rfl
  show mbind ((e2 (op2 eqD) (eV j) (eC (.int k))) ρ) _ z = _
  rw [mbind_ok hm]; rfl
theorem len12 (hl : bs.length ≤ 12) : (tV (e2 (op2 ltD) (e1 (op1 lenD) (eV 3)) (eC (.int (12))))) (P i a bs x5 x6 x7) z = .ok (decide ((bs.length : Int) < 12)) z := by
  refine WP_eq ?_
  have e1 : lenD (.str (txt bs)) = some (.int bs.length) := by
    show (if (txt bs).length ≤ sizeLine then some (D.int ((txt bs).length : Int)) else none) = _
    rw [txt_len, if_pos (by rw [sizeLine_eq]; omega)]
  unfold P
  simp only [tV_ev, e2_ev, e1_ev, op1_ev, op2_ev, eV_succ, eV_zero, WP_pure, e1, WP_some, eC_ev, ltD_int, asB_bl]
  (first | exact ⟨rfl, rfl⟩ | exact ⟨rfl, trivial⟩ | exact ⟨trivial, trivial⟩)
/-- what is kept, turn by turn -/
def Keep (i : Nat) (a : Addr) (bs : List Bool) (z : S) : Prop := Good z ∧ z.dk = some (a, fl i bs) ∧ bs.length ≤ 12
theorem not_str {d : D} (hd : d ∈ [D.non, D.int 5, D.lst [D.str [100, 101, 110, 121]], D.tup [D.str [100, 101, 110, 121]]]) : isiD ["str"] d = some (.bl false) := by
  simp only [List.mem_cons, List.not_mem_nil, or_false] at hd
  rcases hd with rfl | rfl | rfl | rfl <;> simp [isiD, tyD, isK]
theorem good_dk {f : List (Str × D)} (g : Good z) : Good { z with dk := some (a, f) } := ⟨g.p0, g.s0, g.s1, g.r0⟩
theorem step_ok (E1 : Γ.E "InvalidText" = true) (E2 : Γ.E "NotText" = true) (E3 : Γ.E "NotNow" = true) (hi : i < 13) (k : Keep i a bs z) : ∃ bs' x6' x7' z', bodyL Γ (P i a bs x5 x6 x7) z = .nx (P i a bs' x5 x6' x7') z' ∧ Keep i a bs' z' := by
  obtain ⟨g, hz, hl⟩ := k
  unfold bodyL
  obtain ⟨d, z1, e, r, rfl, r0, r1, g1, k1⟩ := WP_get (takenD (Γ := Γ) g (many := 8) (by omega) (by omega))
  rw [seq_nx (set_ok (d := .int r) (z1 := z1) (call_ok (evs_c P_1 (evs_c rfl evs_n)) e) P_o6), P_s6]
  have hz1 : z1.dk = some (a, fl i bs) := k1.trans hz
  have h6 : eV 6 (P i a bs x5 (some (.int r)) x7) z1 = .ok (.int r) z1 := rfl
  by_cases c0 : r = 0
  · rw [if_t (by rw [int_at h6, decide_eq_true c0])]
    obtain ⟨d, z2, ek, hd, g2, k2⟩ := pick_at (Γ := Γ) (i := i) (a := a) (bs := bs) (x5 := x5) (x6 := some (.int r)) (x7 := x7) g1 (ks := [.str [], .str [65, 108, 108, 111, 119], .str [100, 101, 110, 121, 32], .str [43], .str [97, 108, 108, 111, 119, 32, 100, 101, 110, 121], .str [97, 110, 115, 119, 101, 114, 32]]) (es := [eC (.str []), eC (.str [65, 108, 108, 111, 119]), eC (.str [100, 101, 110, 121, 32]), eC (.str [43]), eC (.str [97, 108, 108, 111, 119, 32, 100, 101, 110, 121]), eC (.str [97, 110, 115, 119, 101, 114, 32])]) (by simp) (by simp) rfl
    have hb : F_desk_run Γ [dskV a, d] z2 = .exc ⟨"InvalidText", none⟩ z2 := by
      simp only [List.mem_cons, List.not_mem_nil, or_false] at hd
      rcases hd with rfl | rfl | rfl | rfl | rfl | rfl <;> exact run_bad E1 (by decide) (by decide) (by decide) (by decide) (by decide) (by decide)
    have ht := told_eq (W := tellW) P_own ((meth_eq (F := F_desk_run Γ) P_4 hz1 lk_run (evs_c ek evs_n)).trans hb) tell_inv
    rw [if_f (neq_at ht (by decide) (by decide))]
    exact ⟨bs, _, _, z2, rfl, g2, k2.trans hz1, hl⟩
  rw [if_f (by rw [int_at h6, decide_eq_false c0])]
  by_cases c1 : r = 1
  · rw [if_t (by rw [int_at h6, decide_eq_true c1])]
    obtain ⟨d, z2, ek, hd, g2, k2⟩ := pick_at (Γ := Γ) (i := i) (a := a) (bs := bs) (x5 := x5) (x6 := some (.int r)) (x7 := x7) g1 (ks := [.non, .int 5, .lst [.str [100, 101, 110, 121]], .tup [.str [100, 101, 110, 121]]]) (es := [eC .non, eC (.int (5)), eLst [eC (.str [100, 101, 110, 121])], eTup [eC (.str [100, 101, 110, 121])]]) (by simp) (by simp) rfl
    have ht := told_eq (W := tellW) P_own ((meth_eq (F := F_desk_run Γ) P_4 hz1 lk_run (evs_c ek evs_n)).trans (run_not E2 (not_str hd))) tell_txt
    rw [if_f (neq_at ht (by decide) (by decide))]
    exact ⟨bs, _, _, z2, rfl, g2, k2.trans hz1, hl⟩
  rw [if_f (by rw [int_at h6, decide_eq_false c1])]
  have hc2 : (tAnd (tV (e2 (op2 eqD) (eV 6) (eC (.int (2))))) (tV (e2 (op2 neD) (eV 3) (eC (.str []))))) (P i a bs x5 (some (.int r)) x7) z1 = .ok (decide (r = 2) && !decide (bs = [])) z1 := by
    refine WP_eq ?_
    rw [tAnd_ev, WP_ok (int_at h6)]
    by_cases c : r = 2
    · rw [decide_eq_true c, if_pos rfl, WP_ok (neq_at P_3 okS_txt rfl)]
      cases bs <;> exact ⟨rfl, rfl⟩
    · rw [decide_eq_false c, if_neg (by decide)]
      exact ⟨rfl, rfl⟩
  by_cases c2 : r = 2 ∧ bs ≠ []
  · rw [if_t (by rw [hc2, decide_eq_true c2.1, decide_eq_false c2.2]; rfl)]
    rw [seq_nx (ex_ok ((meth_eq (F := F_desk_undo Γ) P_4 hz1 lk_undo evs_n).trans (undo_ok hi c2.2 hl hz1)))]
    have hs : (eSl (eV 3) pNo (pSo (e1 (op1 negD) (eC (.int (1)))))) (P i a bs x5 (some (.int r)) x7) { z1 with dk := some (a, fl i bs.dropLast) } = .ok (.str (txt bs.dropLast)) { z1 with dk := some (a, fl i bs.dropLast) } := by
      refine WP_eq ?_
      rw [eSl_ev, WP_ok P_3]
      simp only [pNo_ev, pSo_ev, e1_ev, eC_ev, WP_pure, op1_ev, negD, WP_some, asI_int, Option.map_some]
      rw [slD_str (by rw [txt_len]; omega), show (-(1 : Int)) = -1 from rfl, cut_end (by unfold txt; simpa using c2.2), txt_dl]
      exact ⟨rfl, rfl⟩
    rw [set_ok hs rfl]
    exact ⟨bs.dropLast, _, _, _, rfl, good_dk g1, rfl, by rw [List.length_dropLast]; omega⟩
  rw [if_f (z1 := z1) (by
    rw [hc2]
    by_cases c : r = 2
    · have cb : bs = [] := Decidable.byContradiction fun q => c2 ⟨c, q⟩
      rw [decide_eq_true cb]; simp
    · rw [decide_eq_false c]; rfl)]
  by_cases c3 : bs.length < 12
  · rw [if_t (by rw [len12 hl, decide_eq_true (by omega)])]
    obtain ⟨d, z2, ek, hd, g2, k2⟩ := pick_at (Γ := Γ) (i := i) (a := a) (bs := bs) (x5 := x5) (x6 := some (.int r)) (x7 := x7) g1 (ks := [.str [43], .str [45]]) (es := [eC (.str [43]), eC (.str [45])]) (by simp) (by simp) rfl
    obtain ⟨b, rfl⟩ : ∃ b, d = .str [sg b] := by
      simp only [List.mem_cons, List.not_mem_nil, or_false] at hd
      rcases hd with rfl | rfl
      · exact ⟨true, rfl⟩
      · exact ⟨false, rfl⟩
    rw [seq_nx (set_ok ek P_o7), P_s7]
    have hz2 : z2.dk = some (a, fl i bs) := k2.trans hz1
    have h7 : eV 7 (P i a bs x5 (some (.int r)) (some (.str [sg b]))) z2 = .ok (.str [sg b]) z2 := rfl
    have hm : eMeth "run" (F_desk_run Γ) (eV 4) [eCall (F_law_word Γ) [eV 7]] (P i a bs x5 (some (.int r)) (some (.str [sg b]))) z2 = .ok .non { z2 with dk := some (a, fl i (bs ++ [b])) } :=
      (meth_eq P_4 hz2 lk_run (evs_c (call_ok (evs_c h7 evs_n) (pure_at (word_ok b))) evs_n)).trans (run_add hi c3 b hz2)
    have hn : (tV (e2 (op2 isNotD) (eMeth "run" (F_desk_run Γ) (eV 4) [eCall (F_law_word Γ) [eV 7]]) (eC .non))) (P i a bs x5 (some (.int r)) (some (.str [sg b]))) z2 = .ok false { z2 with dk := some (a, fl i (bs ++ [b])) } := by
      refine WP_eq ?_
      rw [tV_ev, e2_ev, WP_ok hm, eC_ev, WP_pure, op2_ev, show isNotD .non .non = some (.bl false) from rfl, WP_some, asB_bl, WP_some]
      exact ⟨rfl, rfl⟩
    rw [seq_nx (show sIf _ (sRet (eC (.bl false))) sNil _ z2 = .nx _ _ by rw [if_f hn]; rfl)]
    have ha : (e2 (op2 addD) (eV 3) (eV 7)) (P i a bs x5 (some (.int r)) (some (.str [sg b]))) { z2 with dk := some (a, fl i (bs ++ [b])) } = .ok (.str (txt (bs ++ [b]))) { z2 with dk := some (a, fl i (bs ++ [b])) } := by
      refine WP_eq ?_
      rw [e2_ev, WP_ok P_3, WP_ok (show eV 7 (P i a bs x5 (some (.int r)) (some (.str [sg b]))) { z2 with dk := some (a, fl i (bs ++ [b])) } = .ok (.str [sg b]) _ from rfl), op2_ev, addD_str (by rw [txt_len]; simp; omega), WP_some]
      exact ⟨by rw [show txt (bs ++ [b]) = txt bs ++ [sg b] by simp [txt, sg]], rfl⟩
    rw [set_ok ha rfl]
    exact ⟨bs ++ [b], _, _, _, rfl, good_dk g2, rfl, by simp; omega⟩
  · rw [if_f (by rw [len12 hl, decide_eq_false (by omega)])]
    obtain ⟨d, z2, ek, hd, g2, k2⟩ := pick_at (Γ := Γ) (i := i) (a := a) (bs := bs) (x5 := x5) (x6 := some (.int r)) (x7 := x7) g1 (ks := [.str [97, 108, 108, 111, 119], .str [100, 101, 110, 121]]) (es := [eC (.str [97, 108, 108, 111, 119]), eC (.str [100, 101, 110, 121])]) (by simp) (by simp) rfl
    have hb : F_desk_run Γ [dskV a, d] z2 = .exc ⟨"NotNow", none⟩ z2 := by
      simp only [List.mem_cons, List.not_mem_nil, or_false] at hd
      rcases hd with rfl | rfl
      · exact run_full E3 (by omega) true (k2.trans hz1)
      · exact run_full E3 (by omega) false (k2.trans hz1)
    have ht := told_eq (W := tellW) P_own ((meth_eq (F := F_desk_run Γ) P_4 hz1 lk_run (evs_c ek evs_n)).trans hb) tell_now
    rw [if_f (neq_at ht (by decide) (by decide))]
    exact ⟨bs, _, _, z2, rfl, g2, k2.trans hz1, hl⟩
theorem loop_ok (E1 : Γ.E "InvalidText" = true) (E2 : Γ.E "NotText" = true) (E3 : Γ.E "NotNow" = true) (hi : i < 13) : ∀ (l : List D) (bs : List Bool) (x5 x6 x7 : Option D) (z : S), Keep i a bs z → ∃ bs' y5 y6 y7 z', forD 5 (bodyL Γ) l (P i a bs x5 x6 x7) z = .nx (P i a bs' y5 y6 y7) z' ∧ Keep i a bs' z'
  | [], bs, x5, x6, x7, z, k => ⟨bs, x5, x6, x7, z, rfl, k⟩
  | d :: l, bs, x5, x6, x7, z, k => by
    obtain ⟨bs1, y6, y7, z1, e, k1⟩ := step_ok (x5 := some d) (x6 := x6) (x7 := x7) E1 E2 E3 hi k
    obtain ⟨bs', w5, w6, w7, z', e', k'⟩ := loop_ok E1 E2 E3 hi l bs1 (some d) y6 y7 z1 k1
    refine ⟨bs', w5, w6, w7, z', ?_, k'⟩
    unfold forD
    rw [P_o5]
    simp only [Bool.false_eq_true, if_false]
    rw [P_s5, e]
    exact e'
end
theorem law_run {a : Addr} {A : Nat → Addr} {w : World} {ns : List Int} : ∃ z', B_law (Gam0 A w) a (rhoL 8) ⟨ns, 0, 15609, 0, none⟩ = .rt (.bl true) z' := by
  have g : Good ⟨ns, 0, 15609, 0, none⟩ := ⟨by show (0 : Int) ≤ 0; omega, by show (0 : Int) ≤ 15609; omega, by show (15609 : Int) < 2147483647; omega, by show (0 : Int) ≤ 0; omega⟩
  have E1 : (Gam0 A w).E "InvalidText" = true := rfl
  have E2 : (Gam0 A w).E "NotText" = true := rfl
  have E3 : (Gam0 A w).E "NotNow" = true := rfl
  have E4 : (Gam0 A w).E "NothingToUndo" = true := rfl
  generalize Gam0 A w = Γ at E1 E2 E3 E4
  rw [B_law_eq, show rhoL 8 = [none, some (.val .row), none, none, none, none, none, none] from rfl]
  obtain ⟨d, z1, e, hd, g1, k1⟩ := WP_get (pickD (Γ := Γ) g (ks := W.map .str) (by simp [W]) (by simp [W]))
  obtain ⟨v, hv, rfl⟩ := List.mem_map.mp hd
  obtain ⟨i, hi, rfl⟩ := inW v hv
  have ep : (sPar 2 3 (eCall (F_law_pick Γ) [eV 1, eCall (F_law_ways Γ) []]) (eC (.str []))) [none, some (.val .row), none, none, none, none, none, none] ⟨ns, 0, 15609, 0, none⟩ = .nx [none, some (.val .row), some (.val (.str (nm i))), some (.val (.str [])), none, none, none, none] z1 := by
    have c := call_ok (ρ := [none, some (.val .row), none, none, none, none, none, none]) (gs := [eV 1, eCall (F_law_ways Γ) []]) (evs_c rfl (evs_c (call_ok evs_n (pure_at lways_ok)) evs_n)) e
    have cc := evs_c c (evs_c (show (eC (.str [])) [none, some (.val .row), none, none, none, none, none, none] z1 = .ok (.str []) z1 from rfl) evs_n)
    unfold sPar
    rw [cc]
    rfl
  rw [seq_nx ep]
  have hk0 : z1.dk = none := k1
  have em : (sMkDk 4 a (F_desk_init Γ) (eV 2)) [none, some (.val .row), some (.val (.str (nm i))), some (.val (.str [])), none, none, none, none] z1 = .nx (P i a [] none none none) { z1 with dk := some (a, fl i []) } := by
    unfold sMkDk
    rw [show evs [eV 2] [none, some (.val .row), some (.val (.str (nm i))), some (.val (.str [])), none, none, none, none] z1 = .ok [.str (nm i)] z1 from rfl]
    simp only [obind]
    rw [if_pos ⟨by rw [hk0]; rfl, rfl⟩, init_ok (Γ := Γ) (a := a) (z := { z1 with dk := some (a, []) }) hi rfl]
    rfl
  rw [seq_nx em]
  have hz : ({ z1 with dk := some (a, fl i []) } : S).dk = some (a, fl i []) := rfl
  have g2 : Good { z1 with dk := some (a, fl i []) } := good_dk g1
  generalize ({ z1 with dk := some (a, fl i []) } : S) = z2 at hz g2
  unfold midL
  have ht := told_eq (W := tellW) (P_own (i := i) (a := a) (bs := []) (x5 := none) (x6 := none) (x7 := none)) ((meth_eq (F := F_desk_undo Γ) P_4 hz lk_undo evs_n).trans (undo_none E4 hz)) tell_undo
  have hs := call_ok (ρ := P i a [] none none none) (F := F_law_shown Γ) (gs := [eV 4, eV 2, eV 3]) (evs_c P_4 (evs_c rfl (evs_c P_3 evs_n))) (shown_ok hi (by simp) hz)
  have c1 : (tOr (tV (e2 (op2 neD) (eTold tellW (eMeth "undo" (F_desk_undo Γ) (eV 4) [])) (eC (.str [117, 110, 100, 111])))) (tNot (tV (eCall (F_law_shown Γ) [eV 4, eV 2, eV 3])))) (P i a [] none none none) z2 = .ok false z2 := by
    refine WP_eq ?_
    rw [tOr_ev, WP_ok (neq_at ht (by decide) (by decide)), if_neg (by decide), tNot_ev, tV_ev, WP_ok hs, asB_bl, WP_some]
    exact ⟨rfl, rfl⟩
  rw [if_skip c1]
  unfold restL
  obtain ⟨d, z3, e3, r, rfl, r0, r1, g3, k3⟩ := WP_get (takenD (Γ := Γ) g2 (many := 18) (by omega) (by omega))
  have hr : iR1 (eCall (F_law_taken Γ) [eV 1, eC (.int (18))]) (P i a [] none none none) z2 = .ok (rangeD 0 r.toNat) z3 := by
    refine WP_eq ?_
    rw [iR1_ev, WP_ok (call_ok (ρ := P i a [] none none none) (gs := [eV 1, eC (.int 18)]) (evs_c P_1 (evs_c rfl evs_n)) e3), asI_int, WP_some, if_pos ⟨by omega, by omega⟩]
    exact ⟨rfl, rfl⟩
  obtain ⟨bs', y5, y6, y7, z4, e4, g4, hz4, hl4⟩ := loop_ok (Γ := Γ) (a := a) E1 E2 E3 hi (rangeD 0 r.toNat) [] none none none z3 ⟨g3, k3.trans hz, by simp⟩
  have ef : sFor 5 (iR1 (eCall (F_law_taken Γ) [eV 1, eC (.int (18))])) (bodyL Γ) (P i a [] none none none) z2 = .nx (P i a bs' y5 y6 y7) z4 := by
    unfold sFor
    rw [hr]
    exact e4
  rw [seq_nx ef]
  exact ⟨z4, ret_ok (call_ok (evs_c P_4 (evs_c rfl (evs_c P_3 evs_n))) (shown_ok hi hl4 hz4))⟩
theorem law_true : ∀ (A : Nat → Addr) (w : World) (ns : List Int), ns.length ≤ 63 → (∀ z ∈ ns, Builtin.Int.intBits z ≤ 1048576) → ∀ a, ∃ z', B_law (Gam0 A w) a (rhoL 8) ⟨ns, 0, 15609, 0, none⟩ = .rt (.bl true) z' := fun _ _ _ _ _ _ => law_run
end K09
set_option Elab.async false
set_option linter.all false
set_option maxRecDepth 100000
set_option maxHeartbeats 0

namespace K09
open PySem PySem.Spec PyProof.Rows L2 DL C
open F09 (lk tfG tfL)
theorem bb_allow_over (kV doc pm : Value) (an : Option Addr) (cdv ct : Value) (us : List Value) (hl : us.length = (["row"] : List Str).length) : bindArgs (PySem.W.fnOf "_allow_over" "_allow_over" (defArgs s_allow_over) (defBody s_allow_over) (defScope s_allow_over) .none kV doc pm an cdv ct) ⟨us, []⟩ = pure ((["row"] : List Str).zip us) := match us, hl with | [_], _ => rfl
theorem bb_always_allow (kV doc pm : Value) (an : Option Addr) (cdv ct : Value) (us : List Value) (hl : us.length = (["row"] : List Str).length) : bindArgs (PySem.W.fnOf "_always_allow" "_always_allow" (defArgs s_always_allow) (defBody s_always_allow) (defScope s_always_allow) .none kV doc pm an cdv ct) ⟨us, []⟩ = pure ((["row"] : List Str).zip us) := match us, hl with | [_], _ => rfl
theorem bb_always_deny (kV doc pm : Value) (an : Option Addr) (cdv ct : Value) (us : List Value) (hl : us.length = (["row"] : List Str).length) : bindArgs (PySem.W.fnOf "_always_deny" "_always_deny" (defArgs s_always_deny) (defBody s_always_deny) (defScope s_always_deny) .none kV doc pm an cdv ct) ⟨us, []⟩ = pure ((["row"] : List Str).zip us) := match us, hl with | [_], _ => rfl
theorem bb_both_ends_ways (kV doc pm : Value) (an : Option Addr) (cdv ct : Value) (us : List Value) (hl : us.length = (["row"] : List Str).length) : bindArgs (PySem.W.fnOf "_both_ends" "_both_ends" (defArgs s_both_ends_ways) (defBody s_both_ends_ways) (defScope s_both_ends_ways) .none kV doc pm an cdv ct) ⟨us, []⟩ = pure ((["row"] : List Str).zip us) := match us, hl with | [_], _ => rfl
theorem bb_deny_over (kV doc pm : Value) (an : Option Addr) (cdv ct : Value) (us : List Value) (hl : us.length = (["row"] : List Str).length) : bindArgs (PySem.W.fnOf "_deny_over" "_deny_over" (defArgs s_deny_over) (defBody s_deny_over) (defScope s_deny_over) .none kV doc pm an cdv ct) ⟨us, []⟩ = pure ((["row"] : List Str).zip us) := match us, hl with | [_], _ => rfl
theorem bb_first (kV doc pm : Value) (an : Option Addr) (cdv ct : Value) (us : List Value) (hl : us.length = (["row"] : List Str).length) : bindArgs (PySem.W.fnOf "_first" "_first" (defArgs s_first) (defBody s_first) (defScope s_first) .none kV doc pm an cdv ct) ⟨us, []⟩ = pure ((["row"] : List Str).zip us) := match us, hl with | [_], _ => rfl
theorem bb_stretches (kV doc pm : Value) (an : Option Addr) (cdv ct : Value) (us : List Value) (hl : us.length = (["row"] : List Str).length) : bindArgs (PySem.W.fnOf "stretches" "stretches" (defArgs s_stretches) (defBody s_stretches) (defScope s_stretches) .none kV doc pm an cdv ct) ⟨us, []⟩ = pure ((["row"] : List Str).zip us) := match us, hl with | [_], _ => rfl
theorem bb_island_ways (kV doc pm : Value) (an : Option Addr) (cdv ct : Value) (us : List Value) (hl : us.length = (["row"] : List Str).length) : bindArgs (PySem.W.fnOf "_island" "_island" (defArgs s_island_ways) (defBody s_island_ways) (defScope s_island_ways) .none kV doc pm an cdv ct) ⟨us, []⟩ = pure ((["row"] : List Str).zip us) := match us, hl with | [_], _ => rfl
theorem bb_last (kV doc pm : Value) (an : Option Addr) (cdv ct : Value) (us : List Value) (hl : us.length = (["row"] : List Str).length) : bindArgs (PySem.W.fnOf "_last" "_last" (defArgs s_last) (defBody s_last) (defScope s_last) .none kV doc pm an cdv ct) ⟨us, []⟩ = pure ((["row"] : List Str).zip us) := match us, hl with | [_], _ => rfl
theorem bb_greater_voice (kV doc pm : Value) (an : Option Addr) (cdv ct : Value) (us : List Value) (hl : us.length = (["row"] : List Str).length) : bindArgs (PySem.W.fnOf "greater_voice" "greater_voice" (defArgs s_greater_voice) (defBody s_greater_voice) (defScope s_greater_voice) .none kV doc pm an cdv ct) ⟨us, []⟩ = pure ((["row"] : List Str).zip us) := match us, hl with | [_], _ => rfl
theorem bb_most_or (kV doc pm : Value) (an : Option Addr) (cdv ct : Value) (us : List Value) (hl : us.length = (["row", "otherwise"] : List Str).length) : bindArgs (PySem.W.fnOf "_most_or" "_most_or" (defArgs s_most_or) (defBody s_most_or) (defScope s_most_or) .none kV doc pm an cdv ct) ⟨us, []⟩ = pure ((["row", "otherwise"] : List Str).zip us) := match us, hl with | [_, _], _ => rfl
theorem bb_most_or_allow_ways (kV doc pm : Value) (an : Option Addr) (cdv ct : Value) (us : List Value) (hl : us.length = (["row"] : List Str).length) : bindArgs (PySem.W.fnOf "_most_or_allow" "_most_or_allow" (defArgs s_most_or_allow_ways) (defBody s_most_or_allow_ways) (defScope s_most_or_allow_ways) .none kV doc pm an cdv ct) ⟨us, []⟩ = pure ((["row"] : List Str).zip us) := match us, hl with | [_], _ => rfl
theorem bb_most_or_deny_ways (kV doc pm : Value) (an : Option Addr) (cdv ct : Value) (us : List Value) (hl : us.length = (["row"] : List Str).length) : bindArgs (PySem.W.fnOf "_most_or_deny" "_most_or_deny" (defArgs s_most_or_deny_ways) (defBody s_most_or_deny_ways) (defScope s_most_or_deny_ways) .none kV doc pm an cdv ct) ⟨us, []⟩ = pure ((["row"] : List Str).zip us) := match us, hl with | [_], _ => rfl
theorem bb_most_or_first (kV doc pm : Value) (an : Option Addr) (cdv ct : Value) (us : List Value) (hl : us.length = (["row"] : List Str).length) : bindArgs (PySem.W.fnOf "_most_or_first" "_most_or_first" (defArgs s_most_or_first) (defBody s_most_or_first) (defScope s_most_or_first) .none kV doc pm an cdv ct) ⟨us, []⟩ = pure ((["row"] : List Str).zip us) := match us, hl with | [_], _ => rfl
theorem bb_most_or_last (kV doc pm : Value) (an : Option Addr) (cdv ct : Value) (us : List Value) (hl : us.length = (["row"] : List Str).length) : bindArgs (PySem.W.fnOf "_most_or_last" "_most_or_last" (defArgs s_most_or_last) (defBody s_most_or_last) (defScope s_most_or_last) .none kV doc pm an cdv ct) ⟨us, []⟩ = pure ((["row"] : List Str).zip us) := match us, hl with | [_], _ => rfl
theorem bb_odd (kV doc pm : Value) (an : Option Addr) (cdv ct : Value) (us : List Value) (hl : us.length = (["row"] : List Str).length) : bindArgs (PySem.W.fnOf "_odd" "_odd" (defArgs s_odd) (defBody s_odd) (defScope s_odd) .none kV doc pm an cdv ct) ⟨us, []⟩ = pure ((["row"] : List Str).zip us) := match us, hl with | [_], _ => rfl
theorem bb_turned (kV doc pm : Value) (an : Option Addr) (cdv ct : Value) (us : List Value) (hl : us.length = (["voice"] : List Str).length) : bindArgs (PySem.W.fnOf "turned" "turned" (defArgs s_turned) (defBody s_turned) (defScope s_turned) .none kV doc pm an cdv ct) ⟨us, []⟩ = pure ((["voice"] : List Str).zip us) := match us, hl with | [_], _ => rfl
theorem bb_turned_at (kV doc pm : Value) (an : Option Addr) (cdv ct : Value) (us : List Value) (hl : us.length = (["row", "place"] : List Str).length) : bindArgs (PySem.W.fnOf "turned_at" "turned_at" (defArgs s_turned_at) (defBody s_turned_at) (defScope s_turned_at) .none kV doc pm an cdv ct) ⟨us, []⟩ = pure ((["row", "place"] : List Str).zip us) := match us, hl with | [_, _], _ => rfl
theorem bb_check_way (kV doc pm : Value) (an : Option Addr) (cdv ct : Value) (us : List Value) (hl : us.length = (["way"] : List Str).length) : bindArgs (PySem.W.fnOf "check_way" "check_way" (defArgs s_check_way) (defBody s_check_way) (defScope s_check_way) .none kV doc pm an cdv ct) ⟨us, []⟩ = pure ((["way"] : List Str).zip us) := match us, hl with | [_], _ => rfl
theorem bb_first_wrong (kV doc pm : Value) (an : Option Addr) (cdv ct : Value) (us : List Value) (hl : us.length = (["items"] : List Str).length) : bindArgs (PySem.W.fnOf "_first_wrong" "_first_wrong" (defArgs s_first_wrong) (defBody s_first_wrong) (defScope s_first_wrong) .none kV doc pm an cdv ct) ⟨us, []⟩ = pure ((["items"] : List Str).zip us) := match us, hl with | [_], _ => rfl
theorem bb_check_row (kV doc pm : Value) (an : Option Addr) (cdv ct : Value) (us : List Value) (hl : us.length = (["row"] : List Str).length) : bindArgs (PySem.W.fnOf "check_row" "check_row" (defArgs s_check_row) (defBody s_check_row) (defScope s_check_row) .none kV doc pm an cdv ct) ⟨us, []⟩ = pure ((["row"] : List Str).zip us) := match us, hl with | [_], _ => rfl
theorem bb_check_text (kV doc pm : Value) (an : Option Addr) (cdv ct : Value) (us : List Value) (hl : us.length = (["text"] : List Str).length) : bindArgs (PySem.W.fnOf "check_text" "check_text" (defArgs s_check_text) (defBody s_check_text) (defScope s_check_text) .none kV doc pm an cdv ct) ⟨us, []⟩ = pure ((["text"] : List Str).zip us) := match us, hl with | [_], _ => rfl
theorem bb_text_of (kV doc pm : Value) (an : Option Addr) (cdv ct : Value) (us : List Value) (hl : us.length = (["voices"] : List Str).length) : bindArgs (PySem.W.fnOf "text_of" "text_of" (defArgs s_text_of) (defBody s_text_of) (defScope s_text_of) .none kV doc pm an cdv ct) ⟨us, []⟩ = pure ((["voices"] : List Str).zip us) := match us, hl with | [_], _ => rfl
theorem bb_told_answer (kV doc pm : Value) (an : Option Addr) (cdv ct : Value) (us : List Value) (hl : us.length = (["way", "row"] : List Str).length) : bindArgs (PySem.W.fnOf "told_answer" "told_answer" (defArgs s_told_answer) (defBody s_told_answer) (defScope s_told_answer) .none kV doc pm an cdv ct) ⟨us, []⟩ = pure ((["way", "row"] : List Str).zip us) := match us, hl with | [_, _], _ => rfl
theorem bb_answer (kV doc pm : Value) (an : Option Addr) (cdv ct : Value) (us : List Value) (hl : us.length = (["way", "row"] : List Str).length) : bindArgs (PySem.W.fnOf "answer" "answer" (defArgs s_answer) (defBody s_answer) (defScope s_answer) .none kV doc pm an cdv ct) ⟨us, []⟩ = pure ((["way", "row"] : List Str).zip us) := match us, hl with | [_, _], _ => rfl
theorem bb_matters (kV doc pm : Value) (an : Option Addr) (cdv ct : Value) (us : List Value) (hl : us.length = (["way", "row"] : List Str).length) : bindArgs (PySem.W.fnOf "matters" "matters" (defArgs s_matters) (defBody s_matters) (defScope s_matters) .none kV doc pm an cdv ct) ⟨us, []⟩ = pure ((["way", "row"] : List Str).zip us) := match us, hl with | [_, _], _ => rfl
theorem bb_law_taken (kV doc pm : Value) (an : Option Addr) (cdv ct : Value) (us : List Value) (hl : us.length = (["row", "many"] : List Str).length) : bindArgs (PySem.W.fnOf "_law_taken" "_law_taken" (defArgs s_law_taken) (defBody s_law_taken) (defScope s_law_taken) .none kV doc pm an cdv ct) ⟨us, []⟩ = pure ((["row", "many"] : List Str).zip us) := match us, hl with | [_, _], _ => rfl
theorem bb_law_pick (kV doc pm : Value) (an : Option Addr) (cdv ct : Value) (us : List Value) (hl : us.length = (["row", "kinds"] : List Str).length) : bindArgs (PySem.W.fnOf "_law_pick" "_law_pick" (defArgs s_law_pick) (defBody s_law_pick) (defScope s_law_pick) .none kV doc pm an cdv ct) ⟨us, []⟩ = pure ((["row", "kinds"] : List Str).zip us) := match us, hl with | [_, _], _ => rfl
theorem bb_law_alike (kV doc pm : Value) (an : Option Addr) (cdv ct : Value) (us : List Value) (hl : us.length = (["found", "due"] : List Str).length) : bindArgs (PySem.W.fnOf "_law_alike" "_law_alike" (defArgs s_law_alike) (defBody s_law_alike) (defScope s_law_alike) .none kV doc pm an cdv ct) ⟨us, []⟩ = pure ((["found", "due"] : List Str).zip us) := match us, hl with | [_, _], _ => rfl
theorem bb_law_ways (kV doc pm : Value) (an : Option Addr) (cdv ct : Value) (us : List Value) (hl : us.length = ([] : List Str).length) : bindArgs (PySem.W.fnOf "_law_ways" "_law_ways" (defArgs s_law_ways) (defBody s_law_ways) (defScope s_law_ways) .none kV doc pm an cdv ct) ⟨us, []⟩ = pure (([] : List Str).zip us) := match us, hl with | [], _ => rfl
theorem bb_law_turned (kV doc pm : Value) (an : Option Addr) (cdv ct : Value) (us : List Value) (hl : us.length = (["text"] : List Str).length) : bindArgs (PySem.W.fnOf "_law_turned" "_law_turned" (defArgs s_law_turned) (defBody s_law_turned) (defScope s_law_turned) .none kV doc pm an cdv ct) ⟨us, []⟩ = pure ((["text"] : List Str).zip us) := match us, hl with | [_], _ => rfl
theorem bb_law_answer (kV doc pm : Value) (an : Option Addr) (cdv ct : Value) (us : List Value) (hl : us.length = (["way", "text"] : List Str).length) : bindArgs (PySem.W.fnOf "_law_answer" "_law_answer" (defArgs s_law_answer) (defBody s_law_answer) (defScope s_law_answer) .none kV doc pm an cdv ct) ⟨us, []⟩ = pure ((["way", "text"] : List Str).zip us) := match us, hl with | [_, _], _ => rfl
theorem bb_law_word (kV doc pm : Value) (an : Option Addr) (cdv ct : Value) (us : List Value) (hl : us.length = (["sign"] : List Str).length) : bindArgs (PySem.W.fnOf "_law_word" "_law_word" (defArgs s_law_word) (defBody s_law_word) (defScope s_law_word) .none kV doc pm an cdv ct) ⟨us, []⟩ = pure ((["sign"] : List Str).zip us) := match us, hl with | [_], _ => rfl
theorem bb_law_voices (kV doc pm : Value) (an : Option Addr) (cdv ct : Value) (us : List Value) (hl : us.length = (["text"] : List Str).length) : bindArgs (PySem.W.fnOf "_law_voices" "_law_voices" (defArgs s_law_voices) (defBody s_law_voices) (defScope s_law_voices) .none kV doc pm an cdv ct) ⟨us, []⟩ = pure ((["text"] : List Str).zip us) := match us, hl with | [_], _ => rfl
theorem bb_law_flip (kV doc pm : Value) (an : Option Addr) (cdv ct : Value) (us : List Value) (hl : us.length = (["text", "at"] : List Str).length) : bindArgs (PySem.W.fnOf "_law_flip" "_law_flip" (defArgs s_law_flip) (defBody s_law_flip) (defScope s_law_flip) .none kV doc pm an cdv ct) ⟨us, []⟩ = pure ((["text", "at"] : List Str).zip us) := match us, hl with | [_, _], _ => rfl
theorem bb_law_told_u (kV doc pm : Value) (an : Option Addr) (cdv ct : Value) (us : List Value) (hl : us.length = (["work"] : List Str).length) : bindArgs (PySem.W.fnOf "_law_told" "_law_told" (defArgs s_law_told_u) (defBody s_law_told_u) (defScope s_law_told_u) .none kV doc pm an cdv ct) ⟨us, []⟩ = pure ((["work"] : List Str).zip us) := match us, hl with | [_], _ => rfl
theorem bb_desk_row (kV doc pm : Value) (an : Option Addr) (cdv ct : Value) (us : List Value) (hl : us.length = (["self"] : List Str).length) : bindArgs (PySem.W.fnOf "row" "Desk.row" (defArgs s_desk_row) (defBody s_desk_row) (defScope s_desk_row) .none kV doc pm an cdv ct) ⟨us, []⟩ = pure ((["self"] : List Str).zip us) := match us, hl with | [_], _ => rfl
theorem bb_desk_answer (kV doc pm : Value) (an : Option Addr) (cdv ct : Value) (us : List Value) (hl : us.length = (["self"] : List Str).length) : bindArgs (PySem.W.fnOf "answer" "Desk.answer" (defArgs s_desk_answer) (defBody s_desk_answer) (defScope s_desk_answer) .none kV doc pm an cdv ct) ⟨us, []⟩ = pure ((["self"] : List Str).zip us) := match us, hl with | [_], _ => rfl
theorem bb_desk_keep (kV doc pm : Value) (an : Option Addr) (cdv ct : Value) (us : List Value) (hl : us.length = (["self", "voices"] : List Str).length) : bindArgs (PySem.W.fnOf "_keep" "Desk._keep" (defArgs s_desk_keep) (defBody s_desk_keep) (defScope s_desk_keep) .none kV doc pm an cdv ct) ⟨us, []⟩ = pure ((["self", "voices"] : List Str).zip us) := match us, hl with | [_, _], _ => rfl
theorem bb_desk_add (kV doc pm : Value) (an : Option Addr) (cdv ct : Value) (us : List Value) (hl : us.length = (["self", "voice"] : List Str).length) : bindArgs (PySem.W.fnOf "_add" "Desk._add" (defArgs s_desk_add) (defBody s_desk_add) (defScope s_desk_add) .none kV doc pm an cdv ct) ⟨us, []⟩ = pure ((["self", "voice"] : List Str).zip us) := match us, hl with | [_, _], _ => rfl
theorem bb_desk_places (kV doc pm : Value) (an : Option Addr) (cdv ct : Value) (us : List Value) (hl : us.length = (["self"] : List Str).length) : bindArgs (PySem.W.fnOf "_places" "Desk._places" (defArgs s_desk_places) (defBody s_desk_places) (defScope s_desk_places) .none kV doc pm an cdv ct) ⟨us, []⟩ = pure ((["self"] : List Str).zip us) := match us, hl with | [_], _ => rfl
theorem bb_desk_run (kV doc pm : Value) (an : Option Addr) (cdv ct : Value) (us : List Value) (hl : us.length = (["self", "line"] : List Str).length) : bindArgs (PySem.W.fnOf "run" "Desk.run" (defArgs s_desk_run) (defBody s_desk_run) (defScope s_desk_run) .none kV doc pm an cdv ct) ⟨us, []⟩ = pure ((["self", "line"] : List Str).zip us) := match us, hl with | [_, _], _ => rfl
theorem bb_law_shown (kV doc pm : Value) (an : Option Addr) (cdv ct : Value) (us : List Value) (hl : us.length = (["desk", "way", "text"] : List Str).length) : bindArgs (PySem.W.fnOf "_law_shown" "_law_shown" (defArgs s_law_shown) (defBody s_law_shown) (defScope s_law_shown) .none kV doc pm an cdv ct) ⟨us, []⟩ = pure ((["desk", "way", "text"] : List Str).zip us) := match us, hl with | [_, _, _], _ => rfl
theorem bb_desk_init (kV doc pm : Value) (an : Option Addr) (cdv ct : Value) (us : List Value) (hl : us.length = (["self", "way"] : List Str).length) : bindArgs (PySem.W.fnOf "__init__" "Desk.__init__" (defArgs s_desk_init) (defBody s_desk_init) (defScope s_desk_init) .none kV doc pm an cdv ct) ⟨us, []⟩ = pure ((["self", "way"] : List Str).zip us) := match us, hl with | [_, _], _ => rfl
theorem bb_desk_undo (kV doc pm : Value) (an : Option Addr) (cdv ct : Value) (us : List Value) (hl : us.length = (["self"] : List Str).length) : bindArgs (PySem.W.fnOf "undo" "Desk.undo" (defArgs s_desk_undo) (defBody s_desk_undo) (defScope s_desk_undo) .none kV doc pm an cdv ct) ⟨us, []⟩ = pure ((["self"] : List Str).zip us) := match us, hl with | [_], _ => rfl
theorem bb_law (kV doc pm : Value) (an : Option Addr) (cdv ct : Value) (us : List Value) (hl : us.length = (["script"] : List Str).length) : bindArgs (PySem.W.fnOf "law" "law" (defArgs s_law) (defBody s_law) (defScope s_law) .none kV doc pm an cdv ct) ⟨us, []⟩ = pure ((["script"] : List Str).zip us) := match us, hl with | [_], _ => rfl
theorem at_law {w : World} {K : PySem.W.Frag} {h : Heap} {mg : Str → Option Value} {fa : Addr} (KX : K.In h) (G : h.Ns mainGlobals mg) (hfa : mg "law" = some (.ref fa)) (c : HY.Says lk w h K) : LamX.LawAtS PySem.Challenge.rw_rulevoices_k09_whole_desks w K CX0 11 63 "script" mg fa h := by
  obtain ⟨d_allow_over, F_allow_over⟩ := c.fn 0
  have F_allow_over : Fun K "_allow_over" "_allow_over" s_allow_over (He.fAd K ("_allow_over", none)) d_allow_over := F_allow_over
  obtain ⟨d_always_allow, F_always_allow⟩ := c.fn 1
  have F_always_allow : Fun K "_always_allow" "_always_allow" s_always_allow (He.fAd K ("_always_allow", none)) d_always_allow := F_always_allow
  obtain ⟨d_always_deny, F_always_deny⟩ := c.fn 2
  have F_always_deny : Fun K "_always_deny" "_always_deny" s_always_deny (He.fAd K ("_always_deny", none)) d_always_deny := F_always_deny
  obtain ⟨d_both_ends_ways, F_both_ends_ways⟩ := c.fn 3
  have F_both_ends_ways : Fun K "_both_ends" "_both_ends" s_both_ends_ways (He.fAd K ("_both_ends", none)) d_both_ends_ways := F_both_ends_ways
  obtain ⟨d_deny_over, F_deny_over⟩ := c.fn 4
  have F_deny_over : Fun K "_deny_over" "_deny_over" s_deny_over (He.fAd K ("_deny_over", none)) d_deny_over := F_deny_over
  obtain ⟨d_first, F_first⟩ := c.fn 5
  have F_first : Fun K "_first" "_first" s_first (He.fAd K ("_first", none)) d_first := F_first
  obtain ⟨d_stretches, F_stretches⟩ := c.fn 6
  have F_stretches : Fun K "stretches" "stretches" s_stretches (He.fAd K ("stretches", none)) d_stretches := F_stretches
  obtain ⟨d_island_ways, F_island_ways⟩ := c.fn 7
  have F_island_ways : Fun K "_island" "_island" s_island_ways (He.fAd K ("_island", none)) d_island_ways := F_island_ways
  obtain ⟨d_last, F_last⟩ := c.fn 8
  have F_last : Fun K "_last" "_last" s_last (He.fAd K ("_last", none)) d_last := F_last
  obtain ⟨d_greater_voice, F_greater_voice⟩ := c.fn 9
  have F_greater_voice : Fun K "greater_voice" "greater_voice" s_greater_voice (He.fAd K ("greater_voice", none)) d_greater_voice := F_greater_voice
  obtain ⟨d_most_or, F_most_or⟩ := c.fn 10
  have F_most_or : Fun K "_most_or" "_most_or" s_most_or (He.fAd K ("_most_or", none)) d_most_or := F_most_or
  obtain ⟨d_most_or_allow_ways, F_most_or_allow_ways⟩ := c.fn 11
  have F_most_or_allow_ways : Fun K "_most_or_allow" "_most_or_allow" s_most_or_allow_ways (He.fAd K ("_most_or_allow", none)) d_most_or_allow_ways := F_most_or_allow_ways
  obtain ⟨d_most_or_deny_ways, F_most_or_deny_ways⟩ := c.fn 12
  have F_most_or_deny_ways : Fun K "_most_or_deny" "_most_or_deny" s_most_or_deny_ways (He.fAd K ("_most_or_deny", none)) d_most_or_deny_ways := F_most_or_deny_ways
  obtain ⟨d_most_or_first, F_most_or_first⟩ := c.fn 13
  have F_most_or_first : Fun K "_most_or_first" "_most_or_first" s_most_or_first (He.fAd K ("_most_or_first", none)) d_most_or_first := F_most_or_first
  obtain ⟨d_most_or_last, F_most_or_last⟩ := c.fn 14
  have F_most_or_last : Fun K "_most_or_last" "_most_or_last" s_most_or_last (He.fAd K ("_most_or_last", none)) d_most_or_last := F_most_or_last
  obtain ⟨d_odd, F_odd⟩ := c.fn 15
  have F_odd : Fun K "_odd" "_odd" s_odd (He.fAd K ("_odd", none)) d_odd := F_odd
  obtain ⟨d_turned, F_turned⟩ := c.fn 16
  have F_turned : Fun K "turned" "turned" s_turned (He.fAd K ("turned", none)) d_turned := F_turned
  obtain ⟨d_turned_at, F_turned_at⟩ := c.fn 17
  have F_turned_at : Fun K "turned_at" "turned_at" s_turned_at (He.fAd K ("turned_at", none)) d_turned_at := F_turned_at
  obtain ⟨d_check_way, F_check_way⟩ := c.fn 18
  have F_check_way : Fun K "check_way" "check_way" s_check_way (He.fAd K ("check_way", none)) d_check_way := F_check_way
  obtain ⟨d_first_wrong, F_first_wrong⟩ := c.fn 19
  have F_first_wrong : Fun K "_first_wrong" "_first_wrong" s_first_wrong (He.fAd K ("_first_wrong", none)) d_first_wrong := F_first_wrong
  obtain ⟨d_check_row, F_check_row⟩ := c.fn 20
  have F_check_row : Fun K "check_row" "check_row" s_check_row (He.fAd K ("check_row", none)) d_check_row := F_check_row
  obtain ⟨d_check_text, F_check_text⟩ := c.fn 21
  have F_check_text : Fun K "check_text" "check_text" s_check_text (He.fAd K ("check_text", none)) d_check_text := F_check_text
  obtain ⟨d_text_of, F_text_of⟩ := c.fn 22
  have F_text_of : Fun K "text_of" "text_of" s_text_of (He.fAd K ("text_of", none)) d_text_of := F_text_of
  obtain ⟨d_told_answer, F_told_answer⟩ := c.fn 23
  have F_told_answer : Fun K "told_answer" "told_answer" s_told_answer (He.fAd K ("told_answer", none)) d_told_answer := F_told_answer
  obtain ⟨d_answer, F_answer⟩ := c.fn 24
  have F_answer : Fun K "answer" "answer" s_answer (He.fAd K ("answer", none)) d_answer := F_answer
  obtain ⟨d_matters, F_matters⟩ := c.fn 25
  have F_matters : Fun K "matters" "matters" s_matters (He.fAd K ("matters", none)) d_matters := F_matters
  obtain ⟨d_law_taken, F_law_taken⟩ := c.fn 26
  have F_law_taken : Fun K "_law_taken" "_law_taken" s_law_taken (He.fAd K ("_law_taken", none)) d_law_taken := F_law_taken
  obtain ⟨d_law_pick, F_law_pick⟩ := c.fn 27
  have F_law_pick : Fun K "_law_pick" "_law_pick" s_law_pick (He.fAd K ("_law_pick", none)) d_law_pick := F_law_pick
  obtain ⟨d_law_alike, F_law_alike⟩ := c.fn 28
  have F_law_alike : Fun K "_law_alike" "_law_alike" s_law_alike (He.fAd K ("_law_alike", none)) d_law_alike := F_law_alike
  obtain ⟨d_law_ways, F_law_ways⟩ := c.fn 29
  have F_law_ways : Fun K "_law_ways" "_law_ways" s_law_ways (He.fAd K ("_law_ways", none)) d_law_ways := F_law_ways
  obtain ⟨d_law_turned, F_law_turned⟩ := c.fn 30
  have F_law_turned : Fun K "_law_turned" "_law_turned" s_law_turned (He.fAd K ("_law_turned", none)) d_law_turned := F_law_turned
  obtain ⟨d_law_answer, F_law_answer⟩ := c.fn 31
  have F_law_answer : Fun K "_law_answer" "_law_answer" s_law_answer (He.fAd K ("_law_answer", none)) d_law_answer := F_law_answer
  obtain ⟨d_law_word, F_law_word⟩ := c.fn 32
  have F_law_word : Fun K "_law_word" "_law_word" s_law_word (He.fAd K ("_law_word", none)) d_law_word := F_law_word
  obtain ⟨d_law_voices, F_law_voices⟩ := c.fn 33
  have F_law_voices : Fun K "_law_voices" "_law_voices" s_law_voices (He.fAd K ("_law_voices", none)) d_law_voices := F_law_voices
  obtain ⟨d_law_flip, F_law_flip⟩ := c.fn 34
  have F_law_flip : Fun K "_law_flip" "_law_flip" s_law_flip (He.fAd K ("_law_flip", none)) d_law_flip := F_law_flip
  obtain ⟨d_law_told_u, F_law_told_u⟩ := c.fn 35
  have F_law_told_u : Fun K "_law_told" "_law_told" s_law_told_u (He.fAd K ("_law_told", none)) d_law_told_u := F_law_told_u
  obtain ⟨d_desk_row, F_desk_row⟩ := c.fn 36
  have F_desk_row : Fun K "row" "Desk.row" s_desk_row (HY.pgA "Desk" "row" K) d_desk_row := F_desk_row
  obtain ⟨d_desk_answer, F_desk_answer⟩ := c.fn 37
  have F_desk_answer : Fun K "answer" "Desk.answer" s_desk_answer (HY.pgA "Desk" "answer" K) d_desk_answer := F_desk_answer
  obtain ⟨d_desk_keep, F_desk_keep⟩ := c.fn 38
  have F_desk_keep : Fun K "_keep" "Desk._keep" s_desk_keep (He.fAd K ("Desk", some "_keep")) d_desk_keep := F_desk_keep
  obtain ⟨d_desk_add, F_desk_add⟩ := c.fn 39
  have F_desk_add : Fun K "_add" "Desk._add" s_desk_add (He.fAd K ("Desk", some "_add")) d_desk_add := F_desk_add
  obtain ⟨d_desk_places, F_desk_places⟩ := c.fn 40
  have F_desk_places : Fun K "_places" "Desk._places" s_desk_places (He.fAd K ("Desk", some "_places")) d_desk_places := F_desk_places
  obtain ⟨d_desk_run, F_desk_run⟩ := c.fn 41
  have F_desk_run : Fun K "run" "Desk.run" s_desk_run (He.fAd K ("Desk", some "run")) d_desk_run := F_desk_run
  obtain ⟨d_law_shown, F_law_shown⟩ := c.fn 42
  have F_law_shown : Fun K "_law_shown" "_law_shown" s_law_shown (He.fAd K ("_law_shown", none)) d_law_shown := F_law_shown
  obtain ⟨d_desk_init, F_desk_init⟩ := c.fn 43
  have F_desk_init : Fun K "__init__" "Desk.__init__" s_desk_init (He.fAd K ("Desk", some "__init__")) d_desk_init := F_desk_init
  obtain ⟨d_desk_undo, F_desk_undo⟩ := c.fn 44
  have F_desk_undo : Fun K "undo" "Desk.undo" s_desk_undo (He.fAd K ("Desk", some "undo")) d_desk_undo := F_desk_undo
  obtain ⟨d_law, F_law⟩ := c.fn 45
  have F_law : Fun K "law" "law" s_law (He.fAd K ("law", none)) d_law := F_law
  have e0 := hfa.symm.trans (He.glo_ok KX G (c.fa 43))
  have e : (He.fAd K ("law", none)) = fa := (Value.ref.inj (Option.some.inj e0)).symm
  subst e
  let FX : Fx w K mg (⟨(tfG.map fun p => (He.cT K p).2), [((He.cT K ("law", none)).2, lamQ)], He.ga K "Desk"⟩ : Tb) (lk.tf.map (He.cT K)) := {
    a_allow_over := (He.fAd K ("_allow_over", none)),
    d_allow_over := d_allow_over,
    F_allow_over := F_allow_over,
    g_allow_over := He.glo_ok KX G (c.fa 0),
    b_allow_over := F_allow_over.binds (ps := ["row"]) bb_allow_over,
    a_always_allow := (He.fAd K ("_always_allow", none)),
    d_always_allow := d_always_allow,
    F_always_allow := F_always_allow,
    g_always_allow := He.glo_ok KX G (c.fa 1),
    b_always_allow := F_always_allow.binds (ps := ["row"]) bb_always_allow,
    a_always_deny := (He.fAd K ("_always_deny", none)),
    d_always_deny := d_always_deny,
    F_always_deny := F_always_deny,
    g_always_deny := He.glo_ok KX G (c.fa 2),
    b_always_deny := F_always_deny.binds (ps := ["row"]) bb_always_deny,
    a_both_ends_ways := (He.fAd K ("_both_ends", none)),
    d_both_ends_ways := d_both_ends_ways,
    F_both_ends_ways := F_both_ends_ways,
    g_both_ends_ways := He.glo_ok KX G (c.fa 3),
    b_both_ends_ways := F_both_ends_ways.binds (ps := ["row"]) bb_both_ends_ways,
    a_deny_over := (He.fAd K ("_deny_over", none)),
    d_deny_over := d_deny_over,
    F_deny_over := F_deny_over,
    g_deny_over := He.glo_ok KX G (c.fa 4),
    b_deny_over := F_deny_over.binds (ps := ["row"]) bb_deny_over,
    a_first := (He.fAd K ("_first", none)),
    d_first := d_first,
    F_first := F_first,
    g_first := He.glo_ok KX G (c.fa 5),
    b_first := F_first.binds (ps := ["row"]) bb_first,
    a_stretches := (He.fAd K ("stretches", none)),
    d_stretches := d_stretches,
    F_stretches := F_stretches,
    g_stretches := He.glo_ok KX G (c.fa 6),
    b_stretches := F_stretches.binds (ps := ["row"]) bb_stretches,
    k_stretches := He.codeOf K ("stretches", none),
    t_stretches := He.tabOf K (He.codeOf K ("stretches", none)),
    e_stretches := HY.code_ok (p := ("stretches", none)) F_stretches,
    m_stretches := ⟨List.mem_map.mpr ⟨_, List.mem_of_getElem? (i := 0) (a := (("stretches", none) : He.Defn)) rfl, rfl⟩, List.mem_map.mpr ⟨_, List.mem_of_getElem? (i := 0) (a := (("stretches", none) : He.Defn)) rfl, rfl⟩⟩,
    a_island_ways := (He.fAd K ("_island", none)),
    d_island_ways := d_island_ways,
    F_island_ways := F_island_ways,
    g_island_ways := He.glo_ok KX G (c.fa 7),
    b_island_ways := F_island_ways.binds (ps := ["row"]) bb_island_ways,
    a_last := (He.fAd K ("_last", none)),
    d_last := d_last,
    F_last := F_last,
    g_last := He.glo_ok KX G (c.fa 8),
    b_last := F_last.binds (ps := ["row"]) bb_last,
    a_greater_voice := (He.fAd K ("greater_voice", none)),
    d_greater_voice := d_greater_voice,
    F_greater_voice := F_greater_voice,
    g_greater_voice := He.glo_ok KX G (c.fa 9),
    b_greater_voice := F_greater_voice.binds (ps := ["row"]) bb_greater_voice,
    a_most_or := (He.fAd K ("_most_or", none)),
    d_most_or := d_most_or,
    F_most_or := F_most_or,
    g_most_or := He.glo_ok KX G (c.fa 10),
    b_most_or := F_most_or.binds (ps := ["row", "otherwise"]) bb_most_or,
    a_most_or_allow_ways := (He.fAd K ("_most_or_allow", none)),
    d_most_or_allow_ways := d_most_or_allow_ways,
    F_most_or_allow_ways := F_most_or_allow_ways,
    g_most_or_allow_ways := He.glo_ok KX G (c.fa 11),
    b_most_or_allow_ways := F_most_or_allow_ways.binds (ps := ["row"]) bb_most_or_allow_ways,
    a_most_or_deny_ways := (He.fAd K ("_most_or_deny", none)),
    d_most_or_deny_ways := d_most_or_deny_ways,
    F_most_or_deny_ways := F_most_or_deny_ways,
    g_most_or_deny_ways := He.glo_ok KX G (c.fa 12),
    b_most_or_deny_ways := F_most_or_deny_ways.binds (ps := ["row"]) bb_most_or_deny_ways,
    a_most_or_first := (He.fAd K ("_most_or_first", none)),
    d_most_or_first := d_most_or_first,
    F_most_or_first := F_most_or_first,
    g_most_or_first := He.glo_ok KX G (c.fa 13),
    b_most_or_first := F_most_or_first.binds (ps := ["row"]) bb_most_or_first,
    a_most_or_last := (He.fAd K ("_most_or_last", none)),
    d_most_or_last := d_most_or_last,
    F_most_or_last := F_most_or_last,
    g_most_or_last := He.glo_ok KX G (c.fa 14),
    b_most_or_last := F_most_or_last.binds (ps := ["row"]) bb_most_or_last,
    a_odd := (He.fAd K ("_odd", none)),
    d_odd := d_odd,
    F_odd := F_odd,
    g_odd := He.glo_ok KX G (c.fa 15),
    b_odd := F_odd.binds (ps := ["row"]) bb_odd,
    a_turned := (He.fAd K ("turned", none)),
    d_turned := d_turned,
    F_turned := F_turned,
    g_turned := He.glo_ok KX G (c.fa 16),
    b_turned := F_turned.binds (ps := ["voice"]) bb_turned,
    a_turned_at := (He.fAd K ("turned_at", none)),
    d_turned_at := d_turned_at,
    F_turned_at := F_turned_at,
    g_turned_at := He.glo_ok KX G (c.fa 17),
    b_turned_at := F_turned_at.binds (ps := ["row", "place"]) bb_turned_at,
    a_check_way := (He.fAd K ("check_way", none)),
    d_check_way := d_check_way,
    F_check_way := F_check_way,
    g_check_way := He.glo_ok KX G (c.fa 18),
    b_check_way := F_check_way.binds (ps := ["way"]) bb_check_way,
    a_first_wrong := (He.fAd K ("_first_wrong", none)),
    d_first_wrong := d_first_wrong,
    F_first_wrong := F_first_wrong,
    g_first_wrong := He.glo_ok KX G (c.fa 19),
    b_first_wrong := F_first_wrong.binds (ps := ["items"]) bb_first_wrong,
    a_check_row := (He.fAd K ("check_row", none)),
    d_check_row := d_check_row,
    F_check_row := F_check_row,
    g_check_row := He.glo_ok KX G (c.fa 20),
    b_check_row := F_check_row.binds (ps := ["row"]) bb_check_row,
    a_check_text := (He.fAd K ("check_text", none)),
    d_check_text := d_check_text,
    F_check_text := F_check_text,
    g_check_text := He.glo_ok KX G (c.fa 21),
    b_check_text := F_check_text.binds (ps := ["text"]) bb_check_text,
    a_text_of := (He.fAd K ("text_of", none)),
    d_text_of := d_text_of,
    F_text_of := F_text_of,
    g_text_of := He.glo_ok KX G (c.fa 22),
    b_text_of := F_text_of.binds (ps := ["voices"]) bb_text_of,
    k_text_of := He.codeOf K ("text_of", none),
    t_text_of := He.tabOf K (He.codeOf K ("text_of", none)),
    e_text_of := HY.code_ok (p := ("text_of", none)) F_text_of,
    m_text_of := ⟨List.mem_map.mpr ⟨_, List.mem_of_getElem? (i := 1) (a := (("text_of", none) : He.Defn)) rfl, rfl⟩, List.mem_map.mpr ⟨_, List.mem_of_getElem? (i := 1) (a := (("text_of", none) : He.Defn)) rfl, rfl⟩⟩,
    a_told_answer := (He.fAd K ("told_answer", none)),
    d_told_answer := d_told_answer,
    F_told_answer := F_told_answer,
    g_told_answer := He.glo_ok KX G (c.fa 23),
    b_told_answer := F_told_answer.binds (ps := ["way", "row"]) bb_told_answer,
    a_answer := (He.fAd K ("answer", none)),
    d_answer := d_answer,
    F_answer := F_answer,
    g_answer := He.glo_ok KX G (c.fa 24),
    b_answer := F_answer.binds (ps := ["way", "row"]) bb_answer,
    a_matters := (He.fAd K ("matters", none)),
    d_matters := d_matters,
    F_matters := F_matters,
    g_matters := He.glo_ok KX G (c.fa 25),
    b_matters := F_matters.binds (ps := ["way", "row"]) bb_matters,
    k_matters := He.codeOf K ("matters", none),
    t_matters := He.tabOf K (He.codeOf K ("matters", none)),
    e_matters := HY.code_ok (p := ("matters", none)) F_matters,
    m_matters := ⟨List.mem_map.mpr ⟨_, List.mem_of_getElem? (i := 2) (a := (("matters", none) : He.Defn)) rfl, rfl⟩, List.mem_map.mpr ⟨_, List.mem_of_getElem? (i := 2) (a := (("matters", none) : He.Defn)) rfl, rfl⟩⟩,
    a_law_taken := (He.fAd K ("_law_taken", none)),
    d_law_taken := d_law_taken,
    F_law_taken := F_law_taken,
    g_law_taken := He.glo_ok KX G (c.fa 26),
    b_law_taken := F_law_taken.binds (ps := ["row", "many"]) bb_law_taken,
    a_law_pick := (He.fAd K ("_law_pick", none)),
    d_law_pick := d_law_pick,
    F_law_pick := F_law_pick,
    g_law_pick := He.glo_ok KX G (c.fa 27),
    b_law_pick := F_law_pick.binds (ps := ["row", "kinds"]) bb_law_pick,
    a_law_alike := (He.fAd K ("_law_alike", none)),
    d_law_alike := d_law_alike,
    F_law_alike := F_law_alike,
    g_law_alike := He.glo_ok KX G (c.fa 28),
    b_law_alike := F_law_alike.binds (ps := ["found", "due"]) bb_law_alike,
    a_law_ways := (He.fAd K ("_law_ways", none)),
    d_law_ways := d_law_ways,
    F_law_ways := F_law_ways,
    g_law_ways := He.glo_ok KX G (c.fa 29),
    b_law_ways := F_law_ways.binds (ps := []) bb_law_ways,
    a_law_turned := (He.fAd K ("_law_turned", none)),
    d_law_turned := d_law_turned,
    F_law_turned := F_law_turned,
    g_law_turned := He.glo_ok KX G (c.fa 30),
    b_law_turned := F_law_turned.binds (ps := ["text"]) bb_law_turned,
    a_law_answer := (He.fAd K ("_law_answer", none)),
    d_law_answer := d_law_answer,
    F_law_answer := F_law_answer,
    g_law_answer := He.glo_ok KX G (c.fa 31),
    b_law_answer := F_law_answer.binds (ps := ["way", "text"]) bb_law_answer,
    a_law_word := (He.fAd K ("_law_word", none)),
    d_law_word := d_law_word,
    F_law_word := F_law_word,
    g_law_word := He.glo_ok KX G (c.fa 32),
    b_law_word := F_law_word.binds (ps := ["sign"]) bb_law_word,
    a_law_voices := (He.fAd K ("_law_voices", none)),
    d_law_voices := d_law_voices,
    F_law_voices := F_law_voices,
    g_law_voices := He.glo_ok KX G (c.fa 33),
    b_law_voices := F_law_voices.binds (ps := ["text"]) bb_law_voices,
    a_law_flip := (He.fAd K ("_law_flip", none)),
    d_law_flip := d_law_flip,
    F_law_flip := F_law_flip,
    g_law_flip := He.glo_ok KX G (c.fa 34),
    b_law_flip := F_law_flip.binds (ps := ["text", "at"]) bb_law_flip,
    a_law_told_u := (He.fAd K ("_law_told", none)),
    d_law_told_u := d_law_told_u,
    F_law_told_u := F_law_told_u,
    g_law_told_u := He.glo_ok KX G (c.fa 35),
    b_law_told_u := F_law_told_u.binds (ps := ["work"]) bb_law_told_u,
    a_desk_row := (HY.pgA "Desk" "row" K),
    d_desk_row := d_desk_row,
    F_desk_row := F_desk_row,
    p_desk_row := He.ma K (He.ga K "Desk") "row",
    P_desk_row := HY.prop_ok (c.ex 0),
    b_desk_row := F_desk_row.binds (ps := ["self"]) bb_desk_row,
    a_desk_answer := (HY.pgA "Desk" "answer" K),
    d_desk_answer := d_desk_answer,
    F_desk_answer := F_desk_answer,
    p_desk_answer := He.ma K (He.ga K "Desk") "answer",
    P_desk_answer := HY.prop_ok (c.ex 1),
    b_desk_answer := F_desk_answer.binds (ps := ["self"]) bb_desk_answer,
    a_desk_keep := (He.fAd K ("Desk", some "_keep")),
    d_desk_keep := d_desk_keep,
    F_desk_keep := F_desk_keep,
    M_desk_keep := He.meth_ok (c.fa 36),
    b_desk_keep := F_desk_keep.binds (ps := ["self", "voices"]) bb_desk_keep,
    a_desk_add := (He.fAd K ("Desk", some "_add")),
    d_desk_add := d_desk_add,
    F_desk_add := F_desk_add,
    M_desk_add := He.meth_ok (c.fa 37),
    b_desk_add := F_desk_add.binds (ps := ["self", "voice"]) bb_desk_add,
    a_desk_places := (He.fAd K ("Desk", some "_places")),
    d_desk_places := d_desk_places,
    F_desk_places := F_desk_places,
    M_desk_places := He.meth_ok (c.fa 38),
    b_desk_places := F_desk_places.binds (ps := ["self"]) bb_desk_places,
    k_desk_places := He.codeOf K ("Desk", some "_places"),
    t_desk_places := He.tabOf K (He.codeOf K ("Desk", some "_places")),
    e_desk_places := HY.code_ok (p := ("Desk", some "_places")) F_desk_places,
    m_desk_places := ⟨List.mem_map.mpr ⟨_, List.mem_of_getElem? (i := 3) (a := (("Desk", some "_places") : He.Defn)) rfl, rfl⟩, List.mem_map.mpr ⟨_, List.mem_of_getElem? (i := 3) (a := (("Desk", some "_places") : He.Defn)) rfl, rfl⟩⟩,
    a_desk_run := (He.fAd K ("Desk", some "run")),
    d_desk_run := d_desk_run,
    F_desk_run := F_desk_run,
    M_desk_run := He.meth_ok (c.fa 39),
    b_desk_run := F_desk_run.binds (ps := ["self", "line"]) bb_desk_run,
    a_law_shown := (He.fAd K ("_law_shown", none)),
    d_law_shown := d_law_shown,
    F_law_shown := F_law_shown,
    g_law_shown := He.glo_ok KX G (c.fa 40),
    b_law_shown := F_law_shown.binds (ps := ["desk", "way", "text"]) bb_law_shown,
    a_desk_init := (He.fAd K ("Desk", some "__init__")),
    d_desk_init := d_desk_init,
    F_desk_init := F_desk_init,
    Mk_D := He.mkr_ok (c.fa 41),
    b_desk_init := F_desk_init.binds (ps := ["self", "way"]) bb_desk_init,
    a_desk_undo := (He.fAd K ("Desk", some "undo")),
    d_desk_undo := d_desk_undo,
    F_desk_undo := F_desk_undo,
    M_desk_undo := He.meth_ok (c.fa 42),
    b_desk_undo := F_desk_undo.binds (ps := ["self"]) bb_desk_undo,
    a_law := (He.fAd K ("law", none)),
    d_law := d_law,
    F_law := F_law,
    g_law := He.glo_ok KX G (c.fa 43),
    b_law := F_law.binds (ps := ["script"]) bb_law,
    k_law := He.codeOf K ("law", none),
    t_law := He.tabOf K (He.codeOf K ("law", none)),
    e_law := HY.code_ok (p := ("law", none)) F_law,
    m_law := List.mem_map.mpr ⟨_, List.mem_of_getElem? (i := 4) (a := (("law", none) : He.Defn)) rfl, rfl⟩,
    L_law := rfl,
    c_ALLOW := HY.str_c KX G (c.fa 44),
    c_DENY := HY.str_c KX G (c.fa 45),
    c_WAYS := HY.conB_ok KX G (c.ex 2),
    c_MOST_VOICES := HY.int_c KX G (c.fa 46),
    c_VOICES := HY.conB_ok KX G (c.ex 3),
    z_range := He.free_ok KX G (c.fa 47),
    z_len := He.free_ok KX G (c.fa 48),
    z_tuple := He.free_ok KX G (c.fa 49),
    z_isinstance := He.free_ok KX G (c.fa 50),
    z_enumerate := He.free_ok KX G (c.fa 51),
    z_str := He.free_ok KX G (c.fa 52),
    z_int := He.free_ok KX G (c.fa 53),
    z_list := He.free_ok KX G (c.fa 54),
    z_bool := He.free_ok KX G (c.fa 55),
    g_D := He.glo_ok KX G (c.fa 56),
    cl_D := He.cls_ok (c.fa 57),
    n__way := He.noat_ok (c.fa 58),
    n__row := He.noat_ok (c.fa 59),
    n__answer := He.noat_ok (c.fa 60),
    A := fun j => ([(He.fAd K ("_allow_over", none)), (He.fAd K ("_always_allow", none)), (He.fAd K ("_always_deny", none)), (He.fAd K ("_both_ends", none)), (He.fAd K ("_deny_over", none)), (He.fAd K ("_first", none)), (He.fAd K ("_island", none)), (He.fAd K ("_last", none)), (He.fAd K ("_most_or_allow", none)), (He.fAd K ("_most_or_deny", none)), (He.fAd K ("_most_or_first", none)), (He.fAd K ("_most_or_last", none)), (He.fAd K ("_odd", none))] : List Addr).getD j 0,
    A_0 := rfl,
    A_1 := rfl,
    A_2 := rfl,
    A_3 := rfl,
    A_4 := rfl,
    A_5 := rfl,
    A_6 := rfl,
    A_7 := rfl,
    A_8 := rfl,
    A_9 := rfl,
    A_10 := rfl,
    A_11 := rfl,
    A_12 := rfl,
    ad_SIGN_OF := He.ga K "_SIGN_OF",
    g_SIGN_OF := He.glo_ok KX G (c.fa 61),
    k_SIGN_OF := HY.ktab_ok (c.tab 0) (c.ex 4),
    ad_ANSWERS := He.ga K "_ANSWERS",
    g_ANSWERS := He.glo_ok KX G (c.fa 62),
    k_ANSWERS := HY.ktab_ok (c.tab 1) (c.ex 5),
    ac_VoiceError := He.ga K "VoiceError",
    gc_VoiceError := He.glo_ok KX G (c.fa 63),
    ac_InvalidText := He.ga K "InvalidText",
    gc_InvalidText := He.glo_ok KX G (c.fa 64),
    ac_NotNow := He.ga K "NotNow",
    gc_NotNow := He.glo_ok KX G (c.fa 65),
    ac_NotText := He.ga K "NotText",
    gc_NotText := He.glo_ok KX G (c.fa 66),
    ac_NothingToUndo := He.ga K "NothingToUndo",
    gc_NothingToUndo := He.glo_ok KX G (c.fa 67),
    tc_InvalidText := ⟨true, false, false, false, ⟨HY.excC_ok (c.ex 10), HY.kit_ok (c.ex 6), HY.kit_ok (c.ex 7), HY.kit_ok (c.ex 8), HY.kit_ok (c.ex 9)⟩, He.exm_ok (c.fa 68), by rfl⟩,
    tc_NotNow := ⟨false, true, false, false, ⟨HY.excC_ok (c.ex 15), HY.kit_ok (c.ex 11), HY.kit_ok (c.ex 12), HY.kit_ok (c.ex 13), HY.kit_ok (c.ex 14)⟩, He.exm_ok (c.fa 69), by rfl⟩,
    tc_NotText := ⟨false, false, true, false, ⟨HY.excC_ok (c.ex 20), HY.kit_ok (c.ex 16), HY.kit_ok (c.ex 17), HY.kit_ok (c.ex 18), HY.kit_ok (c.ex 19)⟩, He.exm_ok (c.fa 70), by rfl⟩,
    tc_NothingToUndo := ⟨false, false, false, true, ⟨HY.excC_ok (c.ex 25), HY.kit_ok (c.ex 21), HY.kit_ok (c.ex 22), HY.kit_ok (c.ex 23), HY.kit_ok (c.ex 24)⟩, He.exm_ok (c.fa 71), by rfl⟩,
    x_NotText := HY.xcls_ok KX G (c.fa 72) (c.fa 66),
    x_NotNow := HY.xcls_ok KX G (c.fa 73) (c.fa 65),
    x_InvalidText := HY.xcls_ok KX G (c.fa 74) (c.fa 64),
    x_NothingToUndo := HY.xcls_ok KX G (c.fa 75) (c.fa 67) }
  obtain ⟨hT, nT, hC⟩ := c.tabs
  have hC := hC KX
  have hT0 : ∀ P ∈ (⟨(tfG.map fun p => (He.cT K p).2), [((He.cT K ("law", none)).2, lamQ)], He.ga K "Desk"⟩ : Tb), P ∈ (lk.tf.map (He.cT K)).map (·.2) := by
    intro P hP
    obtain ⟨p, hp, e⟩ := List.mem_map.mp (show P ∈ (tfG.map fun p => (He.cT K p).2) from hP)
    exact List.mem_map.mpr ⟨He.cT K p, List.mem_map.mpr ⟨p, (show p ∈ tfL from List.mem_append_left _ hp), rfl⟩, e⟩
  have hL0 : ∀ p ∈ (⟨(tfG.map fun p => (He.cT K p).2), [((He.cT K ("law", none)).2, lamQ)], He.ga K "Desk"⟩ : Tb).ls, p.1 ∈ (lk.tf.map (He.cT K)).map (·.2) := by
    intro p hp
    have hp : p ∈ [((He.cT K ("law", none)).2, lamQ)] := hp
    rw [List.mem_singleton.mp hp]
    exact List.mem_map.mpr ⟨He.cT K ("law", none), List.mem_map.mpr ⟨("law", none), (show _ ∈ tfL from List.mem_append_right _ (List.mem_singleton.mpr rfl)), rfl⟩, rfl⟩
  have hD0 : ∀ p ∈ (⟨(tfG.map fun p => (He.cT K p).2), [((He.cT K ("law", none)).2, lamQ)], He.ga K "Desk"⟩ : Tb).ls, ¬ p.1 ∈ (⟨(tfG.map fun p => (He.cT K p).2), [((He.cT K ("law", none)).2, lamQ)], He.ga K "Desk"⟩ : Tb) := by
    intro p hp q
    have hp : p ∈ [((He.cT K ("law", none)).2, lamQ)] := hp
    rw [List.mem_singleton.mp hp] at q
    obtain ⟨r, hr, e⟩ := List.mem_map.mp (show (He.cT K ("law", none)).2 ∈ (tfG.map fun p => (He.cT K p).2) from q)
    have h0 := List.all_eq_true.mp (c.ex 26) r hr
    exact (of_decide_eq_true (p := (He.cT K r).2 ≠ (He.cT K ("law", none)).2) h0) e
  exact ⟨d_law, (lk.tf.map (He.cT K)), spLaw K (lk.tf.map (He.cT K)), hT, nT, hC, fun s v => HY.bindsA F_law bb_law s v, fun H a ns hl hb ht hS => ⟨a, ns, rfl, hS, hl, hb, ht, fun _ => rfl⟩, fun base hb hns TB => ok_law FX (fun p hp => ⟨(TB p hp).code, (TB p hp).bm, (TB p hp).gP⟩) hT0 hL0 hD0 (law_true _ _)⟩
end K09
open PySem PySem.W PyProof.Rows
theorem PySem.Challenge.cw_rulevoices_k09_whole_desks_holds : PySem.Challenge.rw_rulevoices_k09_whole_desks.Holds := by
  w_on; o_law
  refine HandSHeadRun.head_any (r := PySem.W.OpenLaw.row PySem.Challenge.rw_rulevoices_k09_whole_desks) (q := R09.qv) (H := F09.hk) (ob := F09.ob) (M := 12000) (loose := R09.nms) (d := HandSHeadRun.topDef (PySem.W.OpenLaw.row PySem.Challenge.rw_rulevoices_k09_whole_desks).prog 59) (kwd := []) F09.ob_eq (by kernel_rfl) (fun s => by kernel_rfl) F09.run (by kernel_rfl) (by kernel_rfl) (by kernel_rfl) (by rfl) (by first | assumption | decide +kernel) (by decide +kernel) ⟨rfl, rfl, rfl, rfl, rfl, by decide +kernel⟩ ?hw ?hc
  case hw => w_witness2
  case hc =>
    refine LamX.walk_ofTsE (l := PySem.Challenge.rw_rulevoices_k09_whole_desks) (n := 63) (k := 11) (x := "script") (CX := fun _ => L2.CX0) rfl (by decide) (by kernel_rfl) ⟨rfl, by decide, by decide⟩ ?F (fun _ _ _ _ _ h => h)
    intro w mg fa h Y G hmg0
    obtain ⟨K, KX, c⟩ := Y
    have hmg : mg ("law" : PySem.Str) = some (.ref fa) := by
      have e : (HandSHeadRun.topDef (PySem.W.OpenLaw.row PySem.Challenge.rw_rulevoices_k09_whole_desks).prog 59).name = ("law" : PySem.Str) := by kernel_rfl
      rw [← e]
      exact hmg0
    exact ⟨K, KX, K09.at_law KX G hmg c⟩
