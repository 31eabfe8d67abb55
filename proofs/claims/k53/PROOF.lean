import PyProof.Rows.All
import Wide.All
import OpenK.AllK
import Wide.FinOn
import HandS.ForMost
import HandS.IsInst
import HandS.TupLe
import HandS.Flow
import HandS.GenList
import HandS.AnyAll
import HandS.EndTab
import HandS.Walk
import HandS.TupAny
import HandS.Rev
import HandS.Zip
import HandS.More
import KE.KeyNested
import KE.KDictKeyed
import KE.LtData
import KE.SortKeyHeap
import HandS.SortKw
import HandS.Keys
import KE.KDictWalk
import KE.KDictSum
import HandS.DictComp
import HandS.ExcInit
import HandS.ExcField
import HandS.ExcIs
import HandS.ExcOwn
import HandS.WordsExc
import PyProof.NeKinds
import HandS.TupSets
import KE.SortCalls
import PyProof.Rows.SortKeyStr
import HandS.SetBool
import HandS.Replace
import HandS.Text
import HandS.Strs
import PySem.Challenge.RW_cardsback_k53_sayings_by_kind
import HandS.Style
import HandS.DeepEq
set_option Elab.async false
set_option linter.all false
set_option maxRecDepth 100000
/-! My own words for these laws: the tap, kept heaps, repr of flat things. -/
namespace My
open PySem PySem.Spec PyProof.Rows L2
/-! ### heaps -/
/-- all but t is as it was -/
def Kp (t : Addr) (H H' : Hp) : Prop := ∀ b o, b ≠ t → H b = some o → H' b = some o
theorem Kp.refl (t : Addr) (H : Hp) : Kp t H H := fun _ _ _ h => h
theorem Kp.trans {t : Addr} {H H1 H2 : Hp} (a : Kp t H H1) (b : Kp t H1 H2) : Kp t H H2 := fun c o n h => b c o n (a c o n h)
theorem Kp.own {t : Addr} {H H1 : Hp} {o : HO} (a : Kp t H H1) : Kp t H (upd H1 t o) := fun b x n h => by rw [upd_ne n]; exact a b x n h
theorem Kp.new {t p : Addr} {H H1 : Hp} {o : HO} (a : Kp t H H1) (hp : H1 p = none) : Kp t H (upd H1 p o) := fun b x n h => by
  have h1 := a b x n h
  rw [upd_ne (ne_of_none h1 hp)]
  exact h1
theorem Kp.of_same {t : Addr} {H H1 : Hp} (a : Same H H1) : Kp t H H1 := fun b o _ h => a b o h
theorem same_upd {H : Hp} {p : Addr} {o : HO} (h : H p = none) : Same H (upd H p o) := fun b x e => by
  rw [upd_ne (ne_of_none e h)]
  exact e
theorem upd_upd' {H : Hp} {p : Addr} {a b : HO} : upd (upd H p a) p b = upd H p b := by
  funext x
  unfold upd
  by_cases h : x = p <;> simp [h]
theorem upd_comm' {H : Hp} {p r : Addr} {a b : HO} (n : p ≠ r) : upd (upd H p a) r b = upd (upd H r b) p a := by
  funext x
  unfold upd
  by_cases h : x = p
  · by_cases k : x = r
    · exact absurd (h.symm.trans k) n
    · simp [h, n]
  · by_cases k : x = r
    · simp [k, n.symm]
    · simp [h, k]
theorem upd_free {H : Hp} {p x : Addr} {o : HO} (e : upd H p o x = none) : x ≠ p ∧ H x = none := by
  by_cases h : x = p
  · rw [h, upd_same] at e
    cases e
  · rw [upd_ne h] at e
    exact ⟨h, e⟩
theorem sz {n : Nat} (h : n ≤ 1000) : n ≤ sizeLine := Nat.le_of_lt (small1000 h)
theorem tYesT {σ : L2.St} {H : Hp} {A B : Hp → Prop} (h : A H) : tYes σ H (fun b H3 => if b = true then A H3 else B H3) := by
  show if true = true then A H else B H
  exact iteT h
/-! ### the tap -/
def kt (c s r n : V) : List (Key × V) := [(.inr "cells", c), (.inr "spot", s), (.inr "rest", r), (.inr "calls", n)]
theorem kt_cells (c s r n : V) : valV (kt c s r n) (.inr "cells") = some c := rfl
theorem kt_spot (c s r n : V) : valV (kt c s r n) (.inr "spot") = some s := rfl
theorem kt_rest (c s r n : V) : valV (kt c s r n) (.inr "rest") = some r := rfl
theorem kt_calls (c s r n : V) : valV (kt c s r n) (.inr "calls") = some n := rfl
theorem put_spot (c s r n v : V) : putK (kt c s r n) (.inr "spot") v = kt c v r n := rfl
theorem put_rest (c s r n v : V) : putK (kt c s r n) (.inr "rest") v = kt c s v n := rfl
theorem put_calls (c s r n v : V) : putK (kt c s r n) (.inr "calls") v = kt c s r v := rfl
theorem kt_len (c s r n : V) : (kt c s r n).length < sizeLine := small1000 (by show 4 ≤ 1000; decide)
theorem g_cells {H : Hp} {t : Addr} {c s r n : V} (h : H t = some (.dK (kt c s r n))) : DGet H t (.str "cells") (some c) := DGet.k (k := .inr "cells") h
theorem g_spot {H : Hp} {t : Addr} {c s r n : V} (h : H t = some (.dK (kt c s r n))) : DGet H t (.str "spot") (some s) := DGet.k (k := .inr "spot") h
theorem g_rest {H : Hp} {t : Addr} {c s r n : V} (h : H t = some (.dK (kt c s r n))) : DGet H t (.str "rest") (some r) := DGet.k (k := .inr "rest") h
theorem g_calls {H : Hp} {t : Addr} {c s r n : V} (h : H t = some (.dK (kt c s r n))) : DGet H t (.str "calls") (some n) := DGet.k (k := .inr "calls") h
theorem p_spot {H : Hp} {t : Addr} {c s r n v : V} (h : H t = some (.dK (kt c s r n))) : DPut H t (.str "spot") v (upd H t (.dK (kt c v r n))) := DPut.k (k := .inr "spot") h (kt_len _ _ _ _)
theorem p_rest {H : Hp} {t : Addr} {c s r n v : V} (h : H t = some (.dK (kt c s r n))) : DPut H t (.str "rest") v (upd H t (.dK (kt c s v n))) := DPut.k (k := .inr "rest") h (kt_len _ _ _ _)
theorem p_calls {H : Hp} {t : Addr} {c s r n v : V} (h : H t = some (.dK (kt c s r n))) : DPut H t (.str "calls") v (upd H t (.dK (kt c s r v))) := DPut.k (k := .inr "calls") h (kt_len _ _ _ _)
/-- a tap at t that was asked at most n times -/
def Tap (H : Hp) (t : Addr) (n : Nat) : Prop := ∃ (c : Addr) (ns : List Int) (sp re ca : Int),
  H t = some (.dK (kt (.ref c) (.int sp) (.int re) (.int ca))) ∧ H c = some (.lst (ns.map V.int)) ∧ ns.length ≤ 63 ∧ 0 ≤ sp ∧ 0 ≤ re ∧ 0 ≤ ca ∧ ca ≤ n
theorem Tap.mono {H : Hp} {t : Addr} {n m : Nat} (h : Tap H t n) (le : n ≤ m) : Tap H t m := by
  obtain ⟨c, ns, sp, re, ca, h1, h2, h3, h4, h5, h6, h7⟩ := h
  exact ⟨c, ns, sp, re, ca, h1, h2, h3, h4, h5, h6, by omega⟩
theorem Tap.same {H H' : Hp} {t : Addr} {n : Nat} (h : Tap H t n) (s : Same H H') : Tap H' t n := by
  obtain ⟨c, ns, sp, re, ca, h1, h2, h3⟩ := h
  exact ⟨c, ns, sp, re, ca, s _ _ h1, s _ _ h2, h3⟩
theorem Tap.new {H : Hp} {t p : Addr} {o : HO} {n : Nat} (h : Tap H t n) (hp : H p = none) : Tap (upd H p o) t n := h.same (same_upd hp)
theorem Tap.ne {H : Hp} {t p : Addr} {n : Nat} (h : Tap H t n) (hp : H p = none) : p ≠ t := fun z => by
  obtain ⟨c, ns, sp, re, ca, h1, _⟩ := h
  rw [z, h1] at hp
  cases hp
theorem Tap.upd_other {H : Hp} {t p : Addr} {o o' : HO} {n : Nat} (h : Tap H t n) (hp : H p = some o) (h1 : ∀ x, o ≠ .dK x) (h2 : ∀ x : List Int, o ≠ .lst (x.map V.int)) : Tap (upd H p o') t n := by
  obtain ⟨c, ns, sp, re, ca, e1, e2, h3⟩ := h
  refine ⟨c, ns, sp, re, ca, ?_, ?_, h3⟩
  · rw [upd_ne]
    · exact e1
    · intro z
      rw [z, hp] at e1
      exact h1 _ (Option.some.inj e1)
  · rw [upd_ne]
    · exact e2
    · intro z
      rw [z, hp] at e2
      exact h2 _ (Option.some.inj e2)
/-- the promise of the tap's draw -/
def spTake : Sp := fun vs H Q _ => ∃ (t : Addr) (m : Int) (n : Nat), vs = [.ref t, .int m] ∧ 0 < m ∧ m < 1000000 ∧ Tap H t n ∧ n < 1000000 ∧
  ∀ v H', 0 ≤ v → v < m → Tap H' t (n + 1) → Kp t H H' → Q (.int v) H'
def spTap (K : PySem.W.Frag) : Sp := fun vs H Q _ => ∃ (a : Addr) (ns : List Int), vs = [.ref a] ∧ SqL K H a (ns.map V.int) ∧
  ∀ t H', Same H H' → H t = none → Tap H' t 0 → Q (.ref t) H'
theorem pow5 (x : Int) (h0 : 0 ≤ x) (h1 : x < 2 ^ 60) : CPow x 5 := ⟨by decide, by decide, by omega⟩
theorem pow5b (y c : Int) (h0 : 0 ≤ c) (h1 : c ≤ 1000000) : CPow (y % 2147483647 + 4099 * c * c) 5 := by
  have a : 0 ≤ 4099 * c * c := Int.mul_nonneg (by omega) h0
  have b : 4099 * c * c ≤ 4099000000 * 1000000 := Int.mul_le_mul (by omega) h1 h0 (by omega)
  exact pow5 _ (by omega) (by omega)
/-! ### repr of flat things -/
def showF : V → Str
  | .non => "None"
  | .bl b => if b then "True" else "False"
  | .int i => toString i
  | _ => ""
def smallV : V → Prop
  | .non => True
  | .bl _ => True
  | .int i => i.natAbs.log2 < 1920
  | _ => False
section
variable {X : Cx}
theorem call_reprF : CallR X (.builtin "repr") (fun xs H Q => ∃ v, xs = [v] ∧ smallV v ∧ Q (.str (showF v)) H) := by
  intro pins s σ H xs us Q I r h
  obtain ⟨v, rfl, hz, q⟩ := h
  obtain ⟨u, rfl, ru⟩ := vals1 r
  cases v with
  | non => cases ru; exact PySem.P.repr_of_none ⟨.str _, H, I.tok _, ⟨_, rfl⟩, q⟩
  | bl b => cases ru; exact PySem.P.repr_of_bool ⟨.str _, H, I.tok _, ⟨_, rfl⟩, q⟩
  | int i =>
    obtain ⟨t, rfl⟩ := ru
    exact PySem.P.repr_of_int hz ⟨.str _, H, I.tok _, ⟨_, rfl⟩, q⟩
  | _ => exact hz.elim
end
theorem small_nat {i : Int} (h0 : -1000000 < i) (h1 : i < 1000000) : i.natAbs.log2 < 1920 := by
  by_cases z : i.natAbs = 0
  · rw [z]; decide
  · refine Nat.lt_of_lt_of_le ((Nat.log2_lt z).mpr (show i.natAbs < 2 ^ 20 by omega)) (by decide)
end My

set_option Elab.async false
set_option linter.all false
set_option maxRecDepth 100000
set_option maxHeartbeats 2000000
/-! My own rule for all(..) and any(..) of a generator expression: the walked thing by PI, the element by PE, whatever it calls. -/
namespace GE
open PySem PySem.Spec PyProof.Rows L2 GenW
/-- where a generator expression's own frame runs -/
abbrev gctx (X : Cx) (A : Around) (s : Shared) (H : Hp) (scope : Scope) (cenv : Env) (fp : List Addr) : Cx :=
  { X with A := A, s_0 := s, H_0 := H, env := cenv, outer := X.stack, stack := cenv :: X.stack, ex := fp, fn := fun x => scope.names.lookup x == some .cell, pn := [], xe := fun _ _ => False }
/-- only the book of generators and the counts have changed -/
theorem inv_heap {X : Cx} {pins : List (Addr × Obj)} {σ : L2.St} {H : Hp} {s s' : Shared} (I : Inv X pins σ H s) (hh : s'.heap = s.heap) (ho : s'.os = s.os) (hb : AllBare s'.gens) : Inv X pins σ H s' :=
  ⟨I.ok, ho.trans I.os, hb, by rw [hh]; exact I.base, by rw [hh]; exact I.loc, by rw [hh]; exact I.cell, I.free, I.freeC, by rw [hh]; exact I.pin, by rw [hh]; exact I.hok, I.len⟩
theorem over_gen {A : Around} {elt tg iter : Expr} {ifs : List Expr} {scope : Scope} {pos : Pos} {it : Value} {env : Env} :
    A.over (.compLoop (.GeneratorExp elt [⟨tg, iter, ifs, 0⟩] scope pos) 0 it .none env) [] = A.deeper env := rfl
section
variable {X : Cx} {pins : List (Addr × Obj)} {σ : L2.St} {H : Hp} {s : Shared}
theorem gen_start {scope : Scope} {own : List (Str × Nat)} {fp : List Addr} {A : Around} {code itv : Value} {h' : Heap} {g' : Array GenState} {tk : Nat} {go : Obj}
    (I : Inv X pins σ H s) (ok : BlkOk X.N X.env.scope scope own) (hN : X.N.Nodup) (hcell : ∀ y ∈ scope.names, y.2 ≠ .cell) (hfp : ∀ b ∈ fp, FpOk X pins H b ∧ b < s.heap.objs.size)
    (hA : A.handled = none) (hF : A.frames = some (genEnv scope (cloFrom X.env.cells scope.names []) s.heap.objs.size code builtinsNs X.env :: X.stack))
    (hn : h'.Ns s.heap.objs.size (fun y => if y = ".0" then some itv else none)) (hk : ∀ b o, s.heap.get? b = some o → h'.get? b = some o)
    (hgo : ∀ v, go.data ≠ .cell v) (hga : (h'.push go).get? h'.objs.size = some go) (hsz : h'.objs.size = s.heap.objs.size + 1) (hb : AllBare g') :
    Inv (gctx X A s H scope (genEnv scope (cloFrom X.env.cells scope.names []) s.heap.objs.size code builtinsNs X.env) fp) [(h'.objs.size, go)] (wipe σ (own.map (·.2))) H
      { s with gens := g', toks := tk, heap := h'.push go } := by
  generalize hce : genEnv scope (cloFrom X.env.cells scope.names []) s.heap.objs.size code builtinsNs X.env = cenv at hF ⊢
  have eL : cenv.locals = s.heap.objs.size := by rw [← hce]; rfl
  have eC : cenv.cells = cloFrom X.env.cells scope.names [] := by rw [← hce]; rfl
  have eS : cenv.scope = scope := by rw [← hce]; rfl
  have kp : ∀ b o, s.heap.get? b = some o → (h'.push go).get? b = some o := fun b o e => Heap.get?_push_of_some _ (hk b o e)
  have got : ∀ y ∈ scope.names, y.2 = .free → ∃ c, X.env.cells.lookup y.1 = some c := fun y hy e => by
    rcases ok.free y hy e with z | z
    · exact I.ok.has _ (.inl z)
    · exact I.ok.has _ (.inr z)
  have inX : ∀ {y c}, cenv.cells.lookup y = some c → X.env.cells.lookup y = some c ∧ c < s.heap.objs.size := fun {y c} e => by
    rw [eC] at e
    rcases cloFrom_mem (PySem.mem_of_lookup e) with z | ⟨z, q⟩
    · cases z
    · obtain ⟨d, hd⟩ := got _ z rfl
      rw [hd] at q
      have q : c = d := q
      subst q
      obtain ⟨v, hv⟩ := I.cell _ _ hd
      exact ⟨hd, hv.lt⟩
  have has : ∀ {y}, scope.names.lookup y = some .free → ∃ c, cenv.cells.lookup y = some c := fun {y} hl => by
    obtain ⟨c, e⟩ := mem_lookup (cloFrom_has (cells := X.env.cells) (acc := []) (PySem.mem_of_lookup hl))
    exact ⟨c, by rw [eC]; exact e⟩
  have okG : (gctx X A s H scope cenv fp).Ok := by
    refine ⟨I.ok.mod, ?_, ?_, ?_, ?_, ?_, ?_, ?_, fun _ => hA, hF, .inr ⟨rfl, ?_⟩, fun b hb => ⟨?_, ?_⟩, I.bs, Nat.le_trans I.ok.bsz I.sz, ?_, ?_, I.stack, I.stkFree⟩
    · show cenv.scope.kind = _
      rw [eS]; exact ok.kind
    · show cenv.globals = _
      rw [← hce]; exact I.ok.glob
    · show cenv.builtins = _
      rw [← hce]; rfl
    · show s.heap.objs.size ≤ cenv.locals
      rw [eL]; exact Nat.le_refl _
    · intro y z c e1 e2
      exact I.ok.inj y z c (inX e1).1 (inX e2).1
    · intro y hy
      have hy : cenv.scope.names.lookup y = some .cell ∨ cenv.scope.names.lookup y = some .free := hy
      rw [eS] at hy
      rcases hy with z | z
      · exact absurd rfl (hcell _ (PySem.mem_of_lookup z))
      · exact has z
    · intro y c z _
      have z : (scope.names.lookup y == some NameKind.cell) = true := z
      have z : scope.names.lookup y = some .cell := by simpa using z
      exact absurd rfl (hcell _ (PySem.mem_of_lookup z))
    · show cenv.frame = some cenv.locals
      rw [← hce]; rfl
    · show b ≠ cenv.locals
      rw [eL]; exact Nat.ne_of_lt (hfp b hb).2
    · intro y c e z
      exact (hfp b hb).1.2.2.2.2.1 y c (inX e).1 z
    · intro b o e hb
      rcases (hfp b hb).1.2.2.2.1 with z | z
      · exact I.ok.noex b o e z
      · exact absurd (Nat.lt_of_lt_of_le (Heap.lt_size e) (Nat.le_trans I.ok.bsz z)) (Nat.lt_irrefl _)
    · intro b hb z
      rcases List.mem_cons.mp (I.stkSub b z) with q | q
      · exact (hfp b hb).1.2.1 q
      · exact (hfp b hb).1.2.2.1 q
  refine ⟨okG, rfl, hb, Un.kept kp, ⟨fun y => if y = ".0" then some itv else none, ?_, fun i y v e1 e2 e3 => ?_⟩, fun y c e => ?_, ?_, fun y c e => ?_, fun p hp => ?_, I.hok.kept kp, ?_⟩
  · show Heap.Ns _ cenv.locals _
    rw [eL]; exact hn.keeps fun b o e => Heap.get?_push_of_some _ e
  · obtain ⟨e2, hne⟩ := wipe_some e2
    have e3 : Vis cenv.scope y := e3
    rw [eS] at e3
    have no : ∀ k, scope.names.lookup y = some k → k = .local ∨ k = .cell → False := fun k hl hk => by
      rcases ok.own _ (PySem.mem_of_lookup hl) hk with z | z
      · obtain ⟨p, hp, ep⟩ := List.mem_map.mp z
        have q := ok.ix p hp
        have ep : p.1 = y := ep
        rw [ep] at q
        exact hne (List.mem_map.mpr ⟨p, hp, nodup_ix hN q e1⟩)
      · exact z (List.mem_of_getElem? e1)
    have fr : scope.names.lookup y = some .free := by
      rcases e3 with z | z | z
      · exact (no _ z (.inl rfl)).elim
      · exact (no _ z (.inr rfl)).elim
      · exact z
    obtain ⟨c, hc⟩ := has fr
    have kinds := ok.free _ (PySem.mem_of_lookup fr) rfl
    obtain ⟨m, _, hl⟩ := I.loc
    obtain ⟨u, ru, look⟩ := hl i y v e1 e2 (kinds.elim (fun z => .inr (.inl z)) fun z => .inr (.inr z))
    refine ⟨u, ru, .inr ⟨.inr ?_, c, hc, ?_⟩⟩
    · show cenv.scope.names.lookup y = _
      rw [eS]; exact fr
    · rcases look with ⟨z, _⟩ | ⟨_, c2, hc2, z⟩
      · have z : X.env.scope.names.lookup y = some .local := z
        rcases kinds with q | q <;> rw [show X.env.scope.names.lookup y = _ from q] at z <;> cases z
      · rw [(inX hc).1] at hc2
        cases hc2
        exact z.keeps kp
  · obtain ⟨v, hv⟩ := I.cell y c (inX e).1
    exact ⟨v, hv.keeps kp⟩
  · show H cenv.locals = none
    rw [eL]; exact I.hok.fresh (Nat.le_refl _)
  · exact I.freeC y c (inX e).1
  · have hp : p = (h'.objs.size, go) := by simpa using hp
    subst hp
    refine ⟨hga, I.hok.fresh (by omega), ?_, fun z => ?_, hgo⟩
    · show h'.objs.size ≠ cenv.locals
      rw [eL]; omega
    · rcases List.mem_cons.mp (I.stkSub _ z) with q | q
      · have q : h'.objs.size = X.env.locals := q
        have z2 := I.lt
        rw [← q, hsz] at z2
        exact absurd z2 (Nat.not_lt.mpr (Nat.le_succ _))
      · exact I.nofs (by omega) q
  · rw [wipe_length]; exact I.len
/-- what a generator expression hands out, and its end, by what the def's reading wants: Qt at its end, Qs where a truth like st is handed out -/
def GR (Y : Cx) (pn : List (Addr × Obj)) (Qt : Hp → Prop) : GenEnd := fun _ _ r s1 =>
  ((r = .ok (.ret .none) ∨ r = .ok .next) ∧ ∃ σ' H', Inv Y pn σ' H' s1 ∧ Qt H') ∨ ∃ e, r = .error e ∧ (fun (_ : Value) (_ : Shared) => False) e s1
def GY (Y : Cx) (pn : List (Addr × Obj)) (st : Bool) (Qs : Hp → Prop) : Protocol := fun _ _ v s1 kap =>
  ∃ c σ' H', v = .bool c ∧ Inv Y pn σ' H' s1 ∧ (c = st → Qs H') ∧ (c ≠ st → ∀ s2 : Shared, s2.heap = s1.heap → s2.os = s1.os → AllBare s2.gens → kap (.send .none) s2)
/-- one turn's reading -/
def Step (J : It) (g : TG) (tt : TT) (te : TE) (vs : List Nat) (σ : L2.St) (st : Bool) (Qt Qs : Hp → Prop) (W : Nat → Nat → Hp → Prop) (i m : Nat) (H : Hp) : Prop :=
  (J.stop i H ∧ Qt H) ∨ (J.go i H ∧ ∃ Nx : Hp → Prop, (∀ H', Nx H' → ∃ m', m' < m ∧ W (i + 1) m' H') ∧ ∀ x H', J.yld i H x H' → g x (wipe σ vs) H' fun σ2 H2 => wipe σ2 vs = wipe σ vs ∧ tt σ2 H2 fun b H3 =>
    if b = true then te σ2 H3 fun y H4 => ∃ c, y = .bl c ∧ (c = st → Qs H4) ∧ (c ≠ st → Nx H4) else Nx H3)
theorem wpF {α : Type} {M : Model} {A : Around} {t : Sem α} {Q Q' : α → Shared → Prop} {E : Value → Shared → Prop} {s : Shared} (h : wpAny M A t Q (fun _ _ => False) s) (k : ∀ a s', Q a s' → Q' a s') : wpAny M A t Q' E s :=
  wpAny_mono h k fun _ _ z => z.elim
theorem seg_turns {A0 : Around} {s3 : Shared} {H3 : Hp} {scope : Scope} {cenv : Env} {fp : List Addr} {pn : List (Addr × Obj)} {it : Addr} {J : It} {tn : Nat → Heap → Prop} {elt tg iter : Expr} {ifs : List Expr} {pos : Pos} {vs : List Nat}
    {g : TG} {tt : TT} {te : TE} {st : Bool} {Qt Qs : Hp → Prop} {W : Nat → Nat → Hp → Prop} (hc : X.calm = true) (hco : cenv.scope.isCoroutine = false) (hpn : ∀ p ∈ pn, p.1 ∉ fp)
    (T : Turn X.prog X.w X.K tg J fp it tn) (pg : PG (gctx X (A0.deeper cenv) s3 H3 scope cenv fp) tg g) (pt : PTs (gctx X (A0.deeper cenv) s3 H3 scope cenv fp) ifs tt) (pe : PE (gctx X (A0.deeper cenv) s3 H3 scope cenv fp) elt te)
    (turn : ∀ i m H', W i m H' → Step J g tt te vs σ st Qt Qs W i m H') :
    ∀ (m n : Nat), m < n → ∀ (i : Nat) (s0 s1 : Shared) (H' : Hp), Inv (gctx X (A0.deeper cenv) s3 H3 scope cenv fp) pn (wipe σ vs) H' s1 → tn i s1.heap → (∀ b ∈ fp, H' b = none) → W i m H' →
      Seg (model X.prog X.w) A0 (GR (gctx X (A0.deeper cenv) s3 H3 scope cenv fp) pn Qt) (GY (gctx X (A0.deeper cenv) s3 H3 scope cenv fp) pn st Qs) n s0
        (.compLoop (.GeneratorExp elt [⟨tg, iter, ifs, 0⟩] scope pos) 0 (.ref it) .none cenv) ((model X.prog X.w).den (.compLoop (.GeneratorExp elt [⟨tg, iter, ifs, 0⟩] scope pos) 0 (.ref it) .none cenv)) [] s1 := by
  intro m
  induction m using Nat.strongRecOn with
  | ind m ih =>
    intro n hmn i s0 s1 H1 I1 t1 f1 w1
    have own : ∀ {pl : List (Addr × Obj)} {σ' : L2.St} {H' : Hp} {s' : Shared}, (∀ p ∈ pl, p.1 ∉ fp) → Inv (gctx X (A0.deeper cenv) s3 H3 scope cenv fp) pl σ' H' s' → (∀ b ∈ fp, H' b = none) → ∀ b ∈ fp, FpOk (gctx X (A0.deeper cenv) s3 H3 scope cenv fp) pl H' b :=
      fun {pl σ' H' s'} hpl I' hn b hb => ⟨hn b hb, (I'.ok.exf b hb).1, I'.ok.exfs b hb, .inl hb, fun x c e => (I'.ok.exf b hb).2 x c e, fun p hp z => hpl p (by simpa using hp) (by rw [z]; exact hb)⟩
    show Seg _ A0 _ _ _ s0 _ ((compTurn (.GeneratorExp elt [⟨tg, iter, ifs, 0⟩] scope pos) 0 (.ref it) .none cenv).onRaise (leaving cenv)) [] s1
    rw [compTurn_gen]
    rw [Sem.onRaise_eq_wrap]
    refine seg_bind_wrap (wpAny_standAt ?_)
    rcases turn i m H1 w1 with ⟨stop, qt⟩ | ⟨go, Nx, hNx, step⟩
    · refine seg_bind_wrap (wpF (T.done (gctx X (A0.deeper cenv) s3 H3 scope cenv fp) rfl rfl rfl hc i pn s1 _ H1 (fun _ _ => False) I1 (own hpn I1 f1) t1 stop) fun r s2 ⟨hr, I2⟩ => ?_)
      subst hr
      exact seg_end (.ok .next) (.inl ⟨.inr rfl, _, H1, I2, qt⟩)
    · refine seg_bind_wrap (wpF (T.item (gctx X (A0.deeper cenv) s3 H3 scope cenv fp) rfl rfl rfl hc i pn s1 _ H1 (fun _ _ => False) I1 (own hpn I1 f1) t1 go) fun r s2 ⟨u, hr, h2⟩ => ?_)
      subst hr
      refine seg_bind_wrap (wpF h2 fun _ s4 ⟨x, H4, I4, r4, y4, t4, f4⟩ => ?_)
      have P4 := I4.pinned (own hpn I4 f4) (T.obj _ _ t4)
      refine seg_bind_wrap (wpF (pg.run _ s4 _ H4 x u _ P4 r4 (step x H4 y4)) fun _ s5 ⟨σ5, H5, I5, w5, q5⟩ => ?_)
      refine seg_bind_wrap (wpF (pt.run _ s5 σ5 H5 _ I5 q5) fun b s6 ⟨H6, I6, q6⟩ => ?_)
      have back : ∀ {s' : Shared} {H' : Hp}, Inv (gctx X (A0.deeper cenv) s3 H3 scope cenv fp) (pn ++ pinsAt fp s4.heap) σ5 H' s' →
          Inv (gctx X (A0.deeper cenv) s3 H3 scope cenv fp) pn (wipe σ vs) H' s' ∧ tn (i + 1) s'.heap ∧ ∀ b ∈ fp, H' b = none := fun {s' H'} I' => by
        have at' : ∀ b ∈ fp, ∀ o, s4.heap.get? b = some o → s'.heap.get? b = some o ∧ H' b = none := fun b hb o e =>
          let z := I'.pin (b, o) (List.mem_append_right _ (List.mem_append_right _ (mem_pinsAt hb e)))
          ⟨z.1, z.2.1⟩
        refine ⟨I'.unpinned.weak (by rw [← w5, wipe_length]) fun j v e => ?_, T.keep _ _ _ t4 fun b hb o e => (at' b hb o e).1, fun b hb => ?_⟩
        · rw [← w5] at e
          exact (wipe_some e).1
        · obtain ⟨o, e, _⟩ := T.obj _ _ t4 b hb
          exact (at' b hb o e).2
      cases b with
      | false =>
        have q6 : Nx H6 := by simpa using q6
        obtain ⟨m', hm, w'⟩ := hNx H6 q6
        obtain ⟨I7, t7, f7⟩ := back I6
        simp only [Bool.false_eq_true, if_false]
        exact seg_again rfl (ih m' hm n (by omega) (i + 1) s0 s6 H6 I7 t7 f7 w')
      | true =>
        rw [if_pos rfl] at q6
        simp only [if_true]
        have hy : ∀ v, yieldOut cenv v = yieldValue v := fun v => by
          unfold yieldOut
          simp [hco]
        simp only [hy]
        rw [Sem.bind_eq_wrap', Sem.bind_eq_wrap']
        rw [Sem.wrap_wrap, Sem.wrap_wrap]
        refine seg_wrap (wpF (pe.run _ s6 σ5 H6 _ I6 q6) fun v s7 ⟨yv, H7, I7, r7, c, ec, qs, qn⟩ => ?_)
        subst ec
        obtain rfl : v = Value.bool c := r7
        obtain ⟨I8, t8, f8⟩ := back I7
        obtain ⟨n, rfl⟩ : ∃ k, n = k + 1 := ⟨n - 1, by omega⟩
        refine seg_at (seg_yield rfl rfl rfl ⟨c, _, H7, rfl, I8, qs, fun hne s9 hh ho hb => ?_⟩)
        obtain ⟨m', hm, w'⟩ := hNx H7 (qn hne)
        exact seg_again rfl (ih m' hm n (by omega) (i + 1) s9 s9 H7 (inv_heap I8 hh ho hb) (by rw [hh]; exact t8) f8 w')
/-! ### all and any walk the generator -/
theorem all_walk {Y : Cx} {pn : List (Addr × Obj)} {Qt Qs : Hp → Prop} {A : Around} {R : Result → Shared → Prop} {a : Addr} {go : Obj} {g : Nat} (hh : A.handled = none) (hd : A.depth < recursionLimit)
    (hpa : (a, go) ∈ pn) (hgen : ∀ h : Heap, h.get? a = some go → h.IsGen a g)
    (eT : ∀ σ' H' s', Inv Y pn σ' H' s' → Qt H' → R (.ok (.ret (.bool true))) s') (eF : ∀ σ' H' s', Inv Y pn σ' H' s' → Qs H' → R (.ok (.ret (.bool false))) s') :
    ∀ (n : Nat) (s1 : Shared) (gs : GenState), s1.heap.IsGen a g → s1.heap.NoLimit → s1.gens[g]? = some gs →
      gs.Goes (model Y.prog Y.w) A.in1.in1 (GR Y pn Qt) (GY Y pn false Qs) n (.send .none) (s1.setGen g .running) → codeAny (model Y.prog Y.w) A (.builtin "all.loop" ⟨[.ref a], []⟩) R s1 := by
  intro n
  induction n with
  | zero =>
    intro s1 gs isg lim hgs goes
    refine codeAny_builtin F.entry_all_loop ?_
    rw [Around.under_plainId F.plain_all_loop _]
    show wpAny _ A.in1 (pyNext (.ref a) >>= _) _ _ s1
    refine wpAny_bind (next_genG (A := A.in1) hh lim hd isg hgs goes (fun v s2 gs' hb hv => ?_) (fun s2 hp h' hk => ?_) fun e s2 he => he.elim)
    · obtain ⟨c, σ', H', rfl, I2, q1, q2⟩ := hv
      have I3 : Inv Y pn σ' H' (s2.setGen g gs') := inv_heap I2 rfl rfl (allBare_setGen I2.bare hb)
      refine wpAny_bind (wpAny_holding (wpAny_truthy_bool ?_))
      refine wpAny_bind (wpAny_letGo ?_)
      cases c with
      | true => exact (q2 (by decide) _ rfl rfl I2.bare).elim
      | false =>
        simp only [Bool.false_eq_true, if_false]
        exact wpAny_bind (wpAny_rule (wpAny_pure (eF σ' H' _ I3 (q1 rfl))))
    · obtain ⟨σ', H', I2, q⟩ := hp
      have I3 : Inv Y pn σ' H' (s2.setGen g .finished) := inv_heap I2 rfl rfl (allBare_setGen I2.bare rfl)
      exact wpAny_bind (wpAny_rule (wpAny_pure (eT σ' H' _ (I3.kept (t' := s2.toks) hk) q)))
  | succ n ih =>
    intro s1 gs isg lim hgs goes
    have hgl : g < s1.gens.size := (Array.getElem?_eq_some_iff.mp hgs).1
    refine codeAny_builtin F.entry_all_loop ?_
    rw [Around.under_plainId F.plain_all_loop _]
    show wpAny _ A.in1 (pyNext (.ref a) >>= _) _ _ s1
    refine wpAny_bind (wpAny_gsz (n := g + 1) hgl (next_genG (A := A.in1) hh lim hd isg hgs goes (fun v s2 gs' hb hv => ?_) (fun s2 hp h' hk => ?_) fun e s2 he => he.elim))
    · intro hsz
      obtain ⟨c, σ', H', rfl, I2, q1, q2⟩ := hv
      have I3 : Inv Y pn σ' H' (s2.setGen g gs') := inv_heap I2 rfl rfl (allBare_setGen I2.bare hb)
      refine wpAny_bind (wpAny_holding (wpAny_truthy_bool ?_))
      refine wpAny_bind (wpAny_letGo ?_)
      cases c with
      | true =>
        simp only [if_true]
        have hg2 : g < s2.gens.size := by
          have z : (s2.setGen g gs').gens.size = s2.gens.size := setGen_size _ _ _
          have hsz : g + 1 ≤ (s2.setGen g gs').gens.size := hsz
          omega
        refine wpAny_pure ⟨plainId_quiet F.plain_all_loop _, ih _ gs' (hgen _ (I3.pin (a, go) (List.mem_append_right _ hpa)).1) I3.nolimit (setGen_at hg2) ?_⟩
        exact q2 (by decide) _ rfl rfl (allBare_setGen (s := s2.setGen g gs') I3.bare rfl)
      | false =>
        simp only [Bool.false_eq_true, if_false]
        exact wpAny_bind (wpAny_rule (wpAny_pure (eF σ' H' _ I3 (q1 rfl))))
    · intro _
      obtain ⟨σ', H', I2, q⟩ := hp
      have I3 : Inv Y pn σ' H' (s2.setGen g .finished) := inv_heap I2 rfl rfl (allBare_setGen I2.bare rfl)
      exact wpAny_bind (wpAny_rule (wpAny_pure (eT σ' H' _ (I3.kept (t' := s2.toks) hk) q)))
theorem any_walk {Y : Cx} {pn : List (Addr × Obj)} {Qt Qs : Hp → Prop} {A : Around} {R : Result → Shared → Prop} {a : Addr} {go : Obj} {g : Nat} (hh : A.handled = none) (hd : A.depth < recursionLimit)
    (hpa : (a, go) ∈ pn) (hgen : ∀ h : Heap, h.get? a = some go → h.IsGen a g)
    (eT : ∀ σ' H' s', Inv Y pn σ' H' s' → Qt H' → R (.ok (.ret (.bool false))) s') (eF : ∀ σ' H' s', Inv Y pn σ' H' s' → Qs H' → R (.ok (.ret (.bool true))) s') :
    ∀ (n : Nat) (s1 : Shared) (gs : GenState), s1.heap.IsGen a g → s1.heap.NoLimit → s1.gens[g]? = some gs →
      gs.Goes (model Y.prog Y.w) A.in1.in1 (GR Y pn Qt) (GY Y pn true Qs) n (.send .none) (s1.setGen g .running) → codeAny (model Y.prog Y.w) A (.builtin "any.loop" ⟨[.ref a], []⟩) R s1 := by
  intro n
  induction n with
  | zero =>
    intro s1 gs isg lim hgs goes
    refine codeAny_builtin F.entry_any_loop ?_
    rw [Around.under_plainId F.plain_any_loop _]
    show wpAny _ A.in1 (pyNext (.ref a) >>= _) _ _ s1
    refine wpAny_bind (next_genG (A := A.in1) hh lim hd isg hgs goes (fun v s2 gs' hb hv => ?_) (fun s2 hp h' hk => ?_) fun e s2 he => he.elim)
    · obtain ⟨c, σ', H', rfl, I2, q1, q2⟩ := hv
      have I3 : Inv Y pn σ' H' (s2.setGen g gs') := inv_heap I2 rfl rfl (allBare_setGen I2.bare hb)
      refine wpAny_bind (wpAny_holding (wpAny_truthy_bool ?_))
      refine wpAny_bind (wpAny_letGo ?_)
      cases c with
      | false => exact (q2 (by decide) _ rfl rfl I2.bare).elim
      | true =>
        simp only [if_true]
        exact wpAny_bind (wpAny_rule (wpAny_pure (eF σ' H' _ I3 (q1 rfl))))
    · obtain ⟨σ', H', I2, q⟩ := hp
      have I3 : Inv Y pn σ' H' (s2.setGen g .finished) := inv_heap I2 rfl rfl (allBare_setGen I2.bare rfl)
      exact wpAny_bind (wpAny_rule (wpAny_pure (eT σ' H' _ (I3.kept (t' := s2.toks) hk) q)))
  | succ n ih =>
    intro s1 gs isg lim hgs goes
    have hgl : g < s1.gens.size := (Array.getElem?_eq_some_iff.mp hgs).1
    refine codeAny_builtin F.entry_any_loop ?_
    rw [Around.under_plainId F.plain_any_loop _]
    show wpAny _ A.in1 (pyNext (.ref a) >>= _) _ _ s1
    refine wpAny_bind (wpAny_gsz (n := g + 1) hgl (next_genG (A := A.in1) hh lim hd isg hgs goes (fun v s2 gs' hb hv => ?_) (fun s2 hp h' hk => ?_) fun e s2 he => he.elim))
    · intro hsz
      obtain ⟨c, σ', H', rfl, I2, q1, q2⟩ := hv
      have I3 : Inv Y pn σ' H' (s2.setGen g gs') := inv_heap I2 rfl rfl (allBare_setGen I2.bare hb)
      refine wpAny_bind (wpAny_holding (wpAny_truthy_bool ?_))
      refine wpAny_bind (wpAny_letGo ?_)
      cases c with
      | false =>
        simp only [Bool.false_eq_true, if_false]
        have hg2 : g < s2.gens.size := by
          have z : (s2.setGen g gs').gens.size = s2.gens.size := setGen_size _ _ _
          have hsz : g + 1 ≤ (s2.setGen g gs').gens.size := hsz
          omega
        refine wpAny_pure ⟨plainId_quiet F.plain_any_loop _, ih _ gs' (hgen _ (I3.pin (a, go) (List.mem_append_right _ hpa)).1) I3.nolimit (setGen_at hg2) ?_⟩
        exact q2 (by decide) _ rfl rfl (allBare_setGen (s := s2.setGen g gs') I3.bare rfl)
      | true =>
        simp only [if_true]
        exact wpAny_bind (wpAny_rule (wpAny_pure (eF σ' H' _ I3 (q1 rfl))))
    · intro _
      obtain ⟨σ', H', I2, q⟩ := hp
      have I3 : Inv Y pn σ' H' (s2.setGen g .finished) := inv_heap I2 rfl rfl (allBare_setGen I2.bare rfl)
      exact wpAny_bind (wpAny_rule (wpAny_pure (eT σ' H' _ (I3.kept (t' := s2.toks) hk) q)))
theorem seg_first {A0 : Around} {R : GenEnd} {Y : Protocol} {n : Nat} {s0 s1 : Shared} {elt tg iter : Expr} {ifs : List Expr} {scope : Scope} {pos : Pos} {it : Addr} {cenv : Env} {P : Program} {w : World}
    (self : ∀ (A : Around) (Q : Value → Shared → Prop) (E : Value → Shared → Prop), Q (.ref it) s1 → wpAny (model P w) A (pyIter (.ref it)) Q E s1)
    (loop : Seg (model P w) A0 R Y n s0 (.compLoop (.GeneratorExp elt [⟨tg, iter, ifs, 0⟩] scope pos) 0 (.ref it) .none cenv) ((model P w).den (.compLoop (.GeneratorExp elt [⟨tg, iter, ifs, 0⟩] scope pos) 0 (.ref it) .none cenv)) [] s1) :
    Seg (model P w) A0 R Y n s0 (.compStart (.GeneratorExp elt [⟨tg, iter, ifs, 0⟩] scope pos) 0 (.ref it) .none cenv) ((model P w).den (.compStart (.GeneratorExp elt [⟨tg, iter, ifs, 0⟩] scope pos) 0 (.ref it) .none cenv)) [] s1 := by
  show Seg _ A0 _ _ _ s0 _ ((compStart (.GeneratorExp elt [⟨tg, iter, ifs, 0⟩] scope pos) 0 (.ref it) .none cenv).onRaise (leaving cenv)) [] s1
  unfold compStart
  rw [Sem.onRaise_eq_wrap]
  show Seg _ A0 _ _ _ s0 _ ((ask >>= _).wrap _ _ _ _) [] s1
  refine seg_bind_wrap (wpAny_askSetting ?_)
  split
  · exact seg_again rfl loop
  · first
      | exact seg_bind_wrap (wpAny_rule (seg_bind_wrap (wpAny_standAt (seg_bind_wrap (self _ _ _ (seg_again rfl loop))))))
      | (refine seg_bind_wrap (wpAny_rule ?_); show Seg _ A0 _ _ _ s0 _ ((standAt iter.pos >>= _).wrap _ _ _ _) [] s1; exact seg_bind_wrap (wpAny_standAt (seg_bind_wrap (self _ _ _ (seg_again rfl loop)))))
/-- all(elt for tg in iter if ..), any(..): st is the truth at which it stops; P the table of the def's code -/
def tAG (P : Addr) (st : Bool) (wi : TI) (g : TG) (tt : TT) (te : TE) (vs : List Nat) : TE := fun σ H Q => wi σ H fun J H1 => GxR.TabG H1 P ∧ ∀ H2, GxR.Tabbed P H1 H2 →
  ∃ W : Nat → Nat → Hp → Prop, (∃ m, W 0 m H2) ∧ ∀ i m H', W i m H' → Step J g tt te vs σ st (Q (.bl (!st))) (Q (.bl st)) W i m H'
/-- a generator that stands ready -/
def Made (X : Cx) (pins : List (Addr × Obj)) (σ : L2.St) (st : Bool) (Qt Qs : Hp → Prop) (u : Value) (s5 : Shared) : Prop :=
  ∃ (a : Addr) (Y : Cx) (pn : List (Addr × Obj)) (go : Obj) (g n : Nat) (gs : GenState), u = .ref a ∧ Y.prog = X.prog ∧ Y.w = X.w ∧ (a, go) ∈ pn ∧ (∀ h : Heap, h.get? a = some go → h.IsGen a g) ∧ s5.heap.IsGen a g ∧ s5.heap.NoLimit ∧ s5.gens[g]? = some gs ∧
    gs.Goes (model X.prog X.w) X.A.in1.in1 (GR Y pn Qt) (GY Y pn st Qs) n (.send .none) (s5.setGen g .running) ∧ ∀ σ' H' s', Inv Y pn σ' H' s' → Inv X pins σ H' s'
structure GSc (N : List Str) (sc scope : Scope) (own : List (Str × Nat)) : Prop where
  blk : BlkOk N sc scope own
  co : scope.isCoroutine = false
  cell : ∀ y ∈ scope.names, y.2 ≠ .cell
  dot : scope.names.lookup (".0" : Str) = some NameKind.local
theorem gen_make {c P : Addr} {elt tg iter : Expr} {ifs : List Expr} {gpos : Pos} {scope : Scope} {own : List (Str × Nat)} {st : Bool} {wi : TI} {g : TG} {tt : TT} {te : TE} {k : Nat} {Q : VK}
    (hc : X.calm = true) (hN : X.N.Nodup) (hr : Room (k + 1) X.A) (TB : GxR.TabB X.base X.mg c P) (hcode : X.env.code = .ref c) (S : GSc X.N X.env.scope scope own) (hi : PI X tg iter wi)
    (hg : ∀ (A : Around) (s : Shared) (H : Hp) (C : Addr) (code : Value) (fp : List Addr), Room k A → PG (gctx X A s H scope (genEnv scope (cloFrom X.env.cells scope.names []) C code builtinsNs X.env) fp) tg g)
    (ht : ∀ (A : Around) (s : Shared) (H : Hp) (C : Addr) (code : Value) (fp : List Addr), Room k A → PTs (gctx X A s H scope (genEnv scope (cloFrom X.env.cells scope.names []) C code builtinsNs X.env) fp) ifs tt)
    (he : ∀ (A : Around) (s : Shared) (H : Hp) (C : Addr) (code : Value) (fp : List Addr), Room k A → PE (gctx X A s H scope (genEnv scope (cloFrom X.env.cells scope.names []) C code builtinsNs X.env) fp) elt te)
    (hs : ∀ v, genFold iter X.env v = pure v) (I : Inv X pins σ H s) (h : tAG P st wi g tt te (own.map (·.2)) σ H Q) :
    wpAny (model X.prog X.w) X.A (eval (.GeneratorExp elt [⟨tg, iter, ifs, 0⟩] scope gpos) X.env) (Made X pins σ st (Q (.bl (!st))) (Q (.bl st))) X.xe s := by
  have hfree : ∀ y ∈ scope.names, y.2 = .free → ∃ c, X.env.cells.lookup y.1 = some c := fun y hy e => by
    rcases S.blk.free y hy e with z | z
    · exact I.ok.has _ (.inl z)
    · exact I.ok.has _ (.inr z)
  refine wpAny_GeneratorExp_make S.co (closure_ok hfree) S.cell S.dot S.blk.kind (by have := hr.dp; omega) ?_ hs
  refine thn (hi.run pins s σ H _ I h) fun xv s1 hx => thn hx fun itv s2 h2 => ?_
  obtain ⟨it, fp, tn, J, H1, rfl, I2, T, t2, f2, ⟨ps, hP, htr⟩, q⟩ := h2
  have oP : s2.heap.get? P = some { cls := .none, data := .fields ps } := I2.hok P _ hP
  have cd : PySem.W.CodeHd s2.heap c P := TB.code.keeps I2.bk
  refine ⟨I2.nolimit, ?_⟩
  have nP : ∀ b ∈ fp, b ≠ P := fun b hb z => by
    have q := (f2 b hb).1
    rw [z, hP] at q
    cases q
  have rest : ∀ (code : Value) (h3 : Heap) (tk : Nat) (ps' : Array Value), Heap.ExtBut P s2.heap h3 → h3.get? P = some { cls := .none, data := .fields ps' } → (∃ more, ps' = ps ++ more) → TriplesOk ps'.toList →
      wpAny (model X.prog X.w) X.A (builtinsFor X.env.globals X.env.builtins) (fun bi s4 =>
        ∀ h', h'.Ns s4.heap.objs.size (fun y => if y = ".0" then some (.ref it) else none) → Heap.SameBut s4.heap.objs.size (s4.heap.push { cls := .type "frame", data := .dict #[] }) h' →
          Made X pins σ st (Q (.bl (!st))) (Q (.bl st)) (.ref h'.objs.size) { s4 with
            gens := s4.gens.push (.fresh (.compStart (.GeneratorExp elt [⟨tg, iter, ifs, 0⟩] scope gpos) 0 (.ref it) .none (genEnv scope (cloFrom X.env.cells scope.names []) s4.heap.objs.size code bi X.env))),
            toks := s4.toks + 1 + 1 + 1,
            heap := h'.push { cls := .type "generator", data := .fields #[.int s4.gens.size 0, .str "<genexpr>" (s4.toks + 1), .str (X.env.qual ++ "<genexpr>") (s4.toks + 1 + 1)] } }) X.xe { s2 with heap := h3, toks := tk } := by
    intro code h3 tk ps' hx hP3 hmore htr3
    obtain ⟨bm, ob, b1, b2, b3, b4, b5, b6, b7, b8⟩ := TB.bm
    refine wpAny_builtinsFor (m := X.mg) ?_ b1 b2 (hx _ _ b4 (I2.bk _ _ b5)) b6 b7 b8 ?_
    · rw [I2.ok.glob]
      exact (I2.mod.glob.keeps I2.bk).extBut hx TB.gP
    obtain ⟨more, rfl⟩ := hmore
    have I3 : Inv X pins σ (upd H1 P (.tbl (ps ++ more))) { s2 with heap := h3, toks := tk } := GxR.inv_tab (more := more) (h' := h3) (g' := s2.gens) (d' := s2.drawn) (t' := tk) I2 hP hx hP3 I2.bare
    have tab : GxR.Tabbed P H1 (upd H1 P (.tbl (ps ++ more))) := ⟨⟨_, upd_same, htr3⟩, fun b hb => upd_ne hb⟩
    obtain ⟨W, ⟨m0, w0⟩, turn⟩ := q _ tab
    have t3 : tn 0 h3 := T.keep _ _ _ t2 fun b hb o e => hx b o (nP b hb) e
    have f3 : ∀ b ∈ fp, FpOk X pins (upd H1 P (.tbl (ps ++ more))) b ∧ b < h3.objs.size := fun b hb => by
      refine ⟨⟨?_, (f2 b hb).2⟩, ?_⟩
      · rw [upd_ne (nP b hb)]
        exact (f2 b hb).1
      · obtain ⟨o, e, _⟩ := T.obj _ _ t3 b hb
        exact Heap.lt_size e
    generalize upd H1 P (.tbl (ps ++ more)) = H3 at I3 w0 f3
    intro h' hn' hs'
    generalize hs4 : ({ s2 with heap := h3, toks := tk } : Shared) = s4 at I3 hn' hs' ⊢
    have e4 : s4.heap = h3 := by rw [← hs4]
    rw [← e4] at t3 f3
    have hsz : h'.objs.size = s4.heap.objs.size + 1 := by rw [hs'.1, Heap.size_push]
    have hk : ∀ b o, s4.heap.get? b = some o → h'.get? b = some o := fun b o e => by
      rw [hs'.2 b (Nat.ne_of_lt (Heap.lt_size e))]
      exact Heap.get?_push_of_some _ e
    generalize hgo : ({ cls := .type "generator", data := .fields #[.int s4.gens.size 0, .str "<genexpr>" (s4.toks + 1), .str (X.env.qual ++ "<genexpr>") (s4.toks + 1 + 1)] } : Obj) = go
    have isg : ∀ hh : Heap, hh.get? h'.objs.size = some go → hh.IsGen h'.objs.size s4.gens.size := fun hh e => ⟨go, _, _, e, by rw [← hgo], by rw [← hgo], by rw [← hgo]⟩
    have hga : (h'.push go).get? h'.objs.size = some go := Heap.get?_push_size _ (by rw [← hgo]; rfl)
    have rmA : Room k (X.A.in1.in1.deeper (genEnv scope (cloFrom X.env.cells scope.names []) s4.heap.objs.size code builtinsNs X.env)) := by
      refine ⟨hr.hd, ?_, ?_⟩
      · have := hr.dp
        show X.A.depth + 1 + 3 * k + 5 < _
        omega
      · have := hr.un
        show X.A.units + 1 + 1 + 3 + 16 * k + 200 < _
        omega
    have bare : AllBare (s4.gens.push (.fresh (.compStart (.GeneratorExp elt [⟨tg, iter, ifs, 0⟩] scope gpos) 0 (.ref it) .none (genEnv scope (cloFrom X.env.cells scope.names []) s4.heap.objs.size code builtinsNs X.env)))) := I3.bare.push rfl
    have J := gen_start (A := X.A.in1.in1.deeper (genEnv scope (cloFrom X.env.cells scope.names []) s4.heap.objs.size code builtinsNs X.env)) (code := code) (go := go) (tk := s4.toks + 1 + 1 + 1) I3 S.blk hN S.cell f3 hr.hd
      (by show X.A.frames.map _ = _; rw [I3.ok.frames]; rfl) hn' hk (fun v z => by rw [← hgo] at z; cases z) hga hsz bare
    have pg := hg _ s4 H3 s4.heap.objs.size code fp rmA
    have pt := ht _ s4 H3 s4.heap.objs.size code fp rmA
    have pe := he _ s4 H3 s4.heap.objs.size code fp rmA
    have hco : (genEnv scope (cloFrom X.env.cells scope.names []) s4.heap.objs.size code builtinsNs X.env).scope.isCoroutine = false := S.co
    generalize genEnv scope (cloFrom X.env.cells scope.names []) s4.heap.objs.size code builtinsNs X.env = cenv at J pg pt pe rmA bare hco ⊢
    have out : ∀ p ∈ [(h'.objs.size, go)], p.1 ∉ fp := fun p hp z => by
      rw [List.mem_singleton.mp hp] at z
      have := (f3 _ z).2
      have z3 : h'.objs.size < s4.heap.objs.size := this
      omega
    have kp5 : ∀ b o, s4.heap.get? b = some o → (h'.push go).get? b = some o := fun b o e => Heap.get?_push_of_some _ (hk b o e)
    refine ⟨h'.objs.size, gctx X (X.A.in1.in1.deeper cenv) s4 H3 scope cenv fp, [(h'.objs.size, go)], go, s4.gens.size, m0 + 1, _, rfl, rfl, rfl, List.mem_singleton.mpr rfl, isg, isg _ hga, I3.nolimit.keeps kp5, Array.getElem?_push_size .., ⟨rfl, ?_⟩, fun σ' H' s' I' => ?_⟩
    · refine seg_first (fun A Q E hq => T.self A 0 _ Q E (T.keep _ _ _ t3 fun b _ o e => kp5 b o e) hq) ?_
      exact seg_turns hc hco out T pg pt pe turn m0 (m0 + 1) (Nat.lt_succ_self _) 0 _ _ H3 (inv_heap J rfl rfl (allBare_setGen (s := { s4 with gens := _, toks := _, heap := _ }) bare rfl)) (T.keep _ _ _ t3 fun b _ o e => kp5 b o e) (fun b hb => (f3 b hb).1.1) w0
    · exact I3.call' (ch := fp) I'.os I'.base I'.hok I'.bare fun b hb => ⟨(f3 b hb).1.2.2.2.1, (f3 b hb).1.2.1, (f3 b hb).1.2.2.2.2.1, (f3 b hb).1.2.2.2.2.2⟩
  cases hf : codeAmong gpos ps.toList with
  | none =>
    refine wpAny_genexprCodeX hcode (cd.code oP htr) (cd.tab oP) hf fun c' h' tk hx hge hlt hco' _ htab' _ => ?_
    obtain ⟨o1, v1, f1, tf, fl, t1, inF, tx, t0, op, _, _, _, _, _, _, _, _, _, htr', _⟩ := hco'
    exact rest _ h' tk _ hx htab'.2 ⟨_, rfl⟩ htr'
  | some cv =>
    refine wpAny_genexprCode_hit hcode (cd.code oP htr) hf ?_
    exact rest cv s2.heap s2.toks ps (Heap.ExtBut.refl _ _) oP ⟨#[], by simp⟩ htr
/-- THE RULE: all(elt for tg in iter if ..) -/
theorem pe_allG {c P : Addr} {elt tg iter : Expr} {ifs : List Expr} {p pos gpos : Pos} {scope : Scope} {own : List (Str × Nat)} {wi : TI} {g : TG} {tt : TT} {te : TE} {k : Nat}
    (hc : X.calm = true) (hN : X.N.Nodup) (hr : Room (k + 1) X.A) (hgl : Gl X "all") (hm : X.mg "all" = none) (TB : GxR.TabB X.base X.mg c P) (hcode : X.env.code = .ref c) (S : GSc X.N X.env.scope scope own) (hi : PI X tg iter wi)
    (hg : ∀ (A : Around) (s : Shared) (H : Hp) (C : Addr) (code : Value) (fp : List Addr), Room k A → PG (gctx X A s H scope (genEnv scope (cloFrom X.env.cells scope.names []) C code builtinsNs X.env) fp) tg g)
    (ht : ∀ (A : Around) (s : Shared) (H : Hp) (C : Addr) (code : Value) (fp : List Addr), Room k A → PTs (gctx X A s H scope (genEnv scope (cloFrom X.env.cells scope.names []) C code builtinsNs X.env) fp) ifs tt)
    (he : ∀ (A : Around) (s : Shared) (H : Hp) (C : Addr) (code : Value) (fp : List Addr), Room k A → PE (gctx X A s H scope (genEnv scope (cloFrom X.env.cells scope.names []) C code builtinsNs X.env) fp) elt te)
    (hs : ∀ v, genFold iter X.env v = pure v := by intro _; rfl) (hb : bootBuiltins "all" = some (.builtin "all") := by decide +kernel)
    (hse : starEach [.GeneratorExp elt [⟨tg, iter, ifs, 0⟩] scope gpos] X.env = (false, eval (.GeneratorExp elt [⟨tg, iter, ifs, 0⟩] scope gpos) X.env) :: starEach [] X.env := by rfl) :
    PE X (.Call (.Name "all" p) [.GeneratorExp elt [⟨tg, iter, ifs, 0⟩] scope gpos] [] pos) (tAG P false wi g tt te (own.map (·.2))) := by
  refine ⟨fun pins s σ H Q I h => ?_⟩
  refine wpAny_Call_Name_kw (ld_blt I hgl hm hb (PyProof.Rows.callWith_builtin1 ?_ hse (by rfl)))
  rw [hse]
  show wpAny _ _ (spliced ((false, eval (.GeneratorExp elt [⟨tg, iter, ifs, 0⟩] scope gpos) X.env) :: backTo pos (starEach [] X.env))) _ _ s
  refine Calls.spliced_cons (thn (gen_make hc hN hr TB hcode S hi hg ht he hs I h) fun u s5 hu => ?_)
  obtain ⟨a, Y, pn, go, gi, n, gs, rfl, eP, eW, hpa, hgen, isg, lim, hgs, goes, back⟩ := hu
  refine Calls.spliced_nil (PySem.call_function_tree F.kind_all F.plain_all F.entry_all (F.args_all1 _) ?_)
  unfold Builtin.«all»
  refine wpAny_bind (m := oneArg "all" _) (wpAny_pure (wpAny_bind (wpAny_pyIter_gen isg ?_)))
  rw [← eP, ← eW] at goes ⊢
  exact wpAny_pure ⟨plainId_quiet F.plain_all_loop _, all_walk hr.hd (by have := hr.dp; omega) hpa hgen
    (fun σ' H' s' J q => ⟨.bl true, H', back σ' H' s' J, rfl, q⟩) (fun σ' H' s' J q => ⟨.bl false, H', back σ' H' s' J, rfl, q⟩) n s5 gs isg lim hgs goes⟩
/-- THE RULE: any(elt for tg in iter if ..) -/
theorem pe_anyG {c P : Addr} {elt tg iter : Expr} {ifs : List Expr} {p pos gpos : Pos} {scope : Scope} {own : List (Str × Nat)} {wi : TI} {g : TG} {tt : TT} {te : TE} {k : Nat}
    (hc : X.calm = true) (hN : X.N.Nodup) (hr : Room (k + 1) X.A) (hgl : Gl X "any") (hm : X.mg "any" = none) (TB : GxR.TabB X.base X.mg c P) (hcode : X.env.code = .ref c) (S : GSc X.N X.env.scope scope own) (hi : PI X tg iter wi)
    (hg : ∀ (A : Around) (s : Shared) (H : Hp) (C : Addr) (code : Value) (fp : List Addr), Room k A → PG (gctx X A s H scope (genEnv scope (cloFrom X.env.cells scope.names []) C code builtinsNs X.env) fp) tg g)
    (ht : ∀ (A : Around) (s : Shared) (H : Hp) (C : Addr) (code : Value) (fp : List Addr), Room k A → PTs (gctx X A s H scope (genEnv scope (cloFrom X.env.cells scope.names []) C code builtinsNs X.env) fp) ifs tt)
    (he : ∀ (A : Around) (s : Shared) (H : Hp) (C : Addr) (code : Value) (fp : List Addr), Room k A → PE (gctx X A s H scope (genEnv scope (cloFrom X.env.cells scope.names []) C code builtinsNs X.env) fp) elt te)
    (hs : ∀ v, genFold iter X.env v = pure v := by intro _; rfl) (hb : bootBuiltins "any" = some (.builtin "any") := by decide +kernel)
    (hse : starEach [.GeneratorExp elt [⟨tg, iter, ifs, 0⟩] scope gpos] X.env = (false, eval (.GeneratorExp elt [⟨tg, iter, ifs, 0⟩] scope gpos) X.env) :: starEach [] X.env := by rfl) :
    PE X (.Call (.Name "any" p) [.GeneratorExp elt [⟨tg, iter, ifs, 0⟩] scope gpos] [] pos) (tAG P true wi g tt te (own.map (·.2))) := by
  refine ⟨fun pins s σ H Q I h => ?_⟩
  refine wpAny_Call_Name_kw (ld_blt I hgl hm hb (PyProof.Rows.callWith_builtin1 ?_ hse (by rfl)))
  rw [hse]
  show wpAny _ _ (spliced ((false, eval (.GeneratorExp elt [⟨tg, iter, ifs, 0⟩] scope gpos) X.env) :: backTo pos (starEach [] X.env))) _ _ s
  refine Calls.spliced_cons (thn (gen_make hc hN hr TB hcode S hi hg ht he hs I h) fun u s5 hu => ?_)
  obtain ⟨a, Y, pn, go, gi, n, gs, rfl, eP, eW, hpa, hgen, isg, lim, hgs, goes, back⟩ := hu
  refine Calls.spliced_nil (PySem.call_function_tree F.kind_any F.plain_any F.entry_any (F.args_any1 _) ?_)
  unfold Builtin.«any»
  refine wpAny_bind (m := oneArg "any" _) (wpAny_pure (wpAny_bind (wpAny_pyIter_gen isg ?_)))
  rw [← eP, ← eW] at goes ⊢
  exact wpAny_pure ⟨plainId_quiet F.plain_any_loop _, any_walk hr.hd (by have := hr.dp; omega) hpa hgen
    (fun σ' H' s' J q => ⟨.bl false, H', back σ' H' s' J, rfl, q⟩) (fun σ' H' s' J q => ⟨.bl true, H', back σ' H' s' J, rfl, q⟩) n s5 gs isg lim hgs goes⟩
end
section
variable {J : It} {n : Nat} {G : Hp → Prop} {Y : Nat → Hp → V → Hp → Prop}
/-- a walk's turns, by what holds between two of them -/
theorem ag_it (w : Walk J n G Y) {g : TG} {tt : TT} {te : TE} {vs : List Nat} {σ : L2.St} {H2 : Hp} {st : Bool} {Qt Qs : Hp → Prop} (Pv : Nat → Hp → Prop) (h0 : Pv 0 H2) (hG : ∀ i H, i ≤ n → Pv i H → G H)
    (hs : ∀ i x H H', i < n → Pv i H → Y i H x H' → g x (wipe σ vs) H' fun σ2 H2 => wipe σ2 vs = wipe σ vs ∧ tt σ2 H2 fun b H3 =>
      if b = true then te σ2 H3 fun y H4 => ∃ c, y = .bl c ∧ (c = st → Qs H4) ∧ (c ≠ st → Pv (i + 1) H4) else Pv (i + 1) H3) (hd : ∀ H, Pv n H → Qt H) :
    ∃ W : Nat → Nat → Hp → Prop, (∃ m, W 0 m H2) ∧ ∀ i m H', W i m H' → Step J g tt te vs σ st Qt Qs W i m H' := by
  refine ⟨fun i m H => m = n - i ∧ i ≤ n ∧ Pv i H, ⟨n, by simp, Nat.zero_le _, h0⟩, ?_⟩
  rintro i m H ⟨rfl, hi, p⟩
  have q := hG i H hi p
  by_cases hlt : i < n
  · exact .inr ⟨w.goes i H hlt q, Pv (i + 1), fun H' p' => ⟨n - (i + 1), by omega, rfl, hlt, p'⟩, fun x H' y => hs i x H H' hlt p (w.yields i H x H' hlt q y)⟩
  · have e : i = n := by omega
    subst e
    exact .inl ⟨w.stops H q, hd H p⟩
end
/-! ### a def whose code has a table; the end -/
structure FunC (K : PySem.W.Frag) (x qual : Str) (st : Stmt) (f : Addr) (fd : FuncData) (c : Addr) : Prop where
  ex : ∃ (oc : Value) (od : Option Addr) (kV doc pm : Value) (an : Option Addr) (ct : Value) (osl : Array (Option Value)),
    fd = PySem.W.fnOf x qual (defArgs st) (defBody st) (defScope st) .none kV doc pm an (.ref c) ct ∧ K.lookup f = some ⟨oc, od, .func fd, osl⟩ ∧ PySem.W.codeIn K (.ref c) qual = true
  kp : PySem.W.keepIn K (.ref f) = true
theorem FunC.toFun {K : PySem.W.Frag} {x qual : Str} {st : Stmt} {f : Addr} {fd : FuncData} {c : Addr} (F : FunC K x qual st f fd c) : Fun K x qual st f fd := by
  obtain ⟨oc, od, kV, doc, pm, an, ct, osl, h1, h2, h3⟩ := F.ex
  exact ⟨⟨oc, od, kV, doc, pm, an, _, ct, osl, h1, h2, h3⟩, F.kp⟩
theorem FunC.ok {P : Program} {w : World} {K : PySem.W.Frag} {mg : Str → Option Value} {base : Heap} {x qual : Str} {st : Stmt} {f : Addr} {fd : FuncData} {c : Addr} {N ps : List Str} {k : Nat} {sp : Sp} (F : FunC K x qual st f fd c) (S : FnScope N ps (defScope st))
    (len : ∀ vs H Q E, sp vs H Q E → vs.length = ps.length)
    (hbody : ∀ (A : Around) (outer : List Env) (s : Shared) (H : Hp) (vs : List V) (Q : VK) (E : XK), Room k (A.deeper (envOfC qual (defScope st) s.heap.objs.size f (.ref c))) → sp vs H Q E →
      ∃ t, PSs (cxOf CX0 P w K mg base N qual (defScope st) f (.ref c) A outer s H E).nox (defBody st) t ∧ t { nx := fun _ H' => Q .non H', rt := Q } (start N vs) H) : FnOk P w K mg base CX0 (k + 1) f fd ps sp := by
  obtain ⟨oc, od, kV, doc, pm, an, ct, osl, rfl, lk, hcd⟩ := F.ex
  refine fn_of lk hcd S len fun A outer s H vs Q E hr hsp => ?_
  obtain ⟨t, h, q⟩ := hbody A outer s H vs Q E hr hsp
  exact ⟨t, h.nox, q⟩
theorem funC_mk {K : PySem.W.Frag} {x qual : Str} {st : Stmt} {f c : Addr} {oc : Value} {od an : Option Addr} {osl : Array (Option Value)} {kV doc pm cdv ct : Value} (l : K.lookup f = some ⟨oc, od, .func (PySem.W.fnOf x qual (defArgs st) (defBody st) (defScope st) .none kV doc pm an cdv ct), osl⟩)
    (e : cdv = .ref c) (h : PySem.W.codeIn K cdv qual = true) (k : PySem.W.keepIn K (.ref f) = true) : FunC K x qual st f (PySem.W.fnOf x qual (defArgs st) (defBody st) (defScope st) .none kV doc pm an (.ref c) ct) c := by
  subst e
  exact ⟨⟨oc, od, kV, doc, pm, an, ct, osl, rfl, l, h⟩, k⟩
/-- what the top tells of the tables of its defs -/
def TabsIn (q : Program) (K : PySem.W.Frag) (h : Heap) : Prop := ∀ (x : Str) (d : DefRec) (c P : Addr), (recsOf q).find? (fun e => e.name == x) = some d → PySem.W.tabIn K x = some (c, P) →
  PySem.W.CodeHd h c P ∧ h.get? P = some { cls := .none, data := .fields #[] }
theorem walk_tabs {l : PySem.W.OpenLaw} {n k : Nat} {q : Program} {loose : List Str} {XP : (Str → Option Value) → Heap → Prop} {YP : World → Heap → Prop} {d : DefRec} {K : Params → PySem.W.Frag} {CX : World → CXT} {x : Str}
    (hn : l.most = some n) (hn2 : n ≤ sizeLine) (hdf : d.params.defaults = []) (hr : Room k callerA) (hY : ∀ (w : World) (h : Heap), YP w h → (K w.params).In h)
    (F : ∀ (w : World) (mg : Str → Option Value) (fa : Addr) (h : Heap), (K w.params).In h → h.Ns mainGlobals mg → mg d.name = some (.ref fa) → TabsIn q (K w.params) h → LamX.LawAtS l w (K w.params) (CX w) k n x mg fa h)
    (hCX : ∀ (w : World) (H : Hp) (s : Shared) (e : Value) (s' : Shared), CX w [] H s (fun _ _ _ => False) e s' → False) :
    PySem.W.WalkO q loose XP YP l.row.toRowW d [] (fun f vs => PySem.call f vs) := by
  refine Att.attach_callB hn hdf fun w s0 s1 mg mb fa o pm cd doc a vs ns G Y ho hd hcd hmg hobj hints hlen hbits hg => ?_
  have KX := hY w _ Y
  obtain ⟨fd, cs, sp, hT, nT, C, hb, hsp, hF⟩ := F w mg fa _ KX G.T.g hmg fun x d c P h1 h2 => PySem.W.tab_of G.T KX h1 h2
  exact LamX.law_callTs KX G.T.g G.T.b G.T.builtins G.T.nolimit hg hT nT C G.T.bmain hobj hints (Nat.le_trans hlen hn2) hr hF hb (fun H hH hS => hsp H a ns hlen hbits hH hS) fun H e s' => hCX w H s1 e s'
theorem tabIn_of {K : PySem.W.Frag} {x : Str} {f c P : Addr} {oc e1 : Value} {od dd : Option Addr} {fd : FuncData} {sl s2 : Array (Option Value)} {vs : Array Value} (a : PySem.W.nsIn K mainGlobals x = some (some (.ref f)))
    (l : K.lookup f = some ⟨oc, od, .func fd, sl⟩) (e : fd.code = .ref c) (k : K.lookup c = some ⟨e1, dd, .fields vs, s2⟩) (v : vs[11]? = some (.ref P)) : PySem.W.tabIn K x = some (c, P) := by
  unfold PySem.W.tabIn
  rw [a]
  simp only [l, e, k, v]
theorem tabB {base : Heap} {mg : Str → Option Value} {c P : Addr} (h : LamX.TabB base mg c P) : GxR.TabB base mg c P := ⟨h.code, h.bm, h.gP⟩
end GE

set_option Elab.async false
set_option linter.all false
set_option maxRecDepth 100000
set_option maxHeartbeats 2000000
namespace My
open PySem PySem.Spec PyProof.Rows L2
/-! ### tables -/
def Tbs (Ts : List Addr) (H : Hp) : Prop := ∀ P ∈ Ts, GxR.TabG H P
def Tk (Ts : List Addr) (H H' : Hp) : Prop := (∀ b, b ∉ Ts → H' b = H b) ∧ Tbs Ts H'
theorem Tk.refl {Ts : List Addr} {H : Hp} (h : Tbs Ts H) : Tk Ts H H := ⟨fun _ _ => rfl, h⟩
theorem Tk.trans {Ts : List Addr} {H H1 H2 : Hp} (a : Tk Ts H H1) (b : Tk Ts H1 H2) : Tk Ts H H2 := ⟨fun x hx => (b.1 x hx).trans (a.1 x hx), b.2⟩
theorem Tk.of {Ts : List Addr} {H H1 : Hp} {P : Addr} (h : Tbs Ts H) (hP : P ∈ Ts) (t : GxR.Tabbed P H H1) : Tk Ts H H1 := by
  refine ⟨fun b hb => t.2 b fun z => hb (by rw [z]; exact hP), fun b hb => ?_⟩
  by_cases z : b = P
  · rw [z]; exact t.1
  · obtain ⟨ps, e, q⟩ := h b hb
    exact ⟨ps, by rw [t.2 b z]; exact e, q⟩
theorem Tbs.out {Ts : List Addr} {H : Hp} {b : Addr} {o : HO} (h : Tbs Ts H) (e : H b = some o) (n : ∀ ps, o ≠ .tbl ps) : b ∉ Ts := fun hb => by
  obtain ⟨ps, q, _⟩ := h b hb
  rw [e] at q
  exact n ps (Option.some.inj q)
theorem Tk.at {Ts : List Addr} {H H' : Hp} {b : Addr} {o : HO} (t : Tk Ts H H') (h : Tbs Ts H) (e : H b = some o) (n : ∀ ps, o ≠ .tbl ps) : H' b = some o := by
  rw [t.1 b (h.out e n)]; exact e
theorem Tk.tup {Ts : List Addr} {H H' : Hp} {b : Addr} {xs : List V} (t : Tk Ts H H') (h : Tbs Ts H) (e : H b = some (.tup xs)) : H' b = some (.tup xs) := t.at h e fun ps z => by cases z
theorem Tbs.same {Ts : List Addr} {H H' : Hp} (h : Tbs Ts H) (s : Same H H') : Tbs Ts H' := fun b hb => let ⟨ps, e, q⟩ := h b hb; ⟨ps, s _ _ e, q⟩
theorem Tbs.new {Ts : List Addr} {H : Hp} {p : Addr} {o : HO} (h : Tbs Ts H) (hp : H p = none) : Tbs Ts (upd H p o) := h.same (same_upd hp)
theorem Tbs.kp {Ts : List Addr} {H H' : Hp} {t : Addr} {n : Nat} (h : Tbs Ts H) (hT : Tap H t n) (k : Kp t H H') : Tbs Ts H' := fun b hb => by
  obtain ⟨ps, e, q⟩ := h b hb
  refine ⟨ps, k _ _ (fun z => ?_) e, q⟩
  obtain ⟨_, _, _, _, _, e1, _⟩ := hT
  rw [z, e1] at e
  cases e
theorem Tap.tk {Ts : List Addr} {H H' : Hp} {t : Addr} {n : Nat} (hT : Tap H t n) (h : Tbs Ts H) (k : Tk Ts H H') : Tap H' t n := by
  obtain ⟨c, ns, sp, re, ca, h1, h2, h3⟩ := hT
  exact ⟨c, ns, sp, re, ca, k.at h h1 (fun ps z => by cases z), k.at h h2 (fun ps z => by cases z), h3⟩
/-! ### kinds of things -/
def Typed (H : Hp) : V → Prop
  | .non => True
  | .bl _ => True
  | .int _ => True
  | .str _ => True
  | .ref a => (∃ xs, H a = some (.tup xs)) ∨ (∃ xs, H a = some (.lst xs)) ∨ (∃ kvs, H a = some (.dK kvs))
  | _ => False
theorem Typed.of {H H' : Hp} {v : V} (h : Typed H v) (s : ∀ b o, H b = some o → (∀ ps, o ≠ .tbl ps) → v = .ref b → H' b = some o) : Typed H' v := by
  cases v with
  | ref a =>
    rcases h with ⟨xs, h⟩ | ⟨xs, h⟩ | ⟨xs, h⟩
    · exact .inl ⟨xs, s _ _ h (fun ps z => by cases z) rfl⟩
    · exact .inr (.inl ⟨xs, s _ _ h (fun ps z => by cases z) rfl⟩)
    · exact .inr (.inr ⟨xs, s _ _ h (fun ps z => by cases z) rfl⟩)
  | _ => exact h
theorem Typed.same {H H' : Hp} {v : V} (h : Typed H v) (s : Same H H') : Typed H' v := h.of fun b o e _ _ => s b o e
theorem Typed.tk {Ts : List Addr} {H H' : Hp} {v : V} (h : Typed H v) (t : Tk Ts H H') (hb : Tbs Ts H) : Typed H' v := h.of fun b o e n _ => t.at hb e n
/-- whether a thing is of a built-in kind -/
def kindB (H : Hp) (n : String) : V → Bool
  | .non => false
  | .bl _ => n == "bool" || n == "int"
  | .int _ => n == "int"
  | .str _ => n == "str"
  | .ref a => match H a with
    | some (.tup _) => n == "tuple"
    | some (.lst _) => n == "list"
    | some (.dK _) => n == "dict"
    | _ => false
  | _ => false
theorem ty_kind {K : PySem.W.Frag} {H : Hp} {v : V} {n : String} (hn : n = "int" ∨ n = "bool" ∨ n = "str" ∨ n = "tuple") (h : Typed H v) : ∃ t, TyX K H v t ∧ PySem.W.kitOne K t (.type n) = some (kindB H n v) := by
  cases v with
  | non => rcases hn with rfl | rfl | rfl | rfl <;> exact ⟨_, .base .non, kit_ty (r := false) (by decide +kernel)⟩
  | bl b =>
    rcases hn with rfl | rfl | rfl | rfl
    · exact ⟨_, .base (.bl b), kit_ty (r := true) (by decide +kernel)⟩
    · exact ⟨_, .base (.bl b), kit_ty (r := true) (by decide +kernel)⟩
    · exact ⟨_, .base (.bl b), kit_ty (r := false) (by decide +kernel)⟩
    · exact ⟨_, .base (.bl b), kit_ty (r := false) (by decide +kernel)⟩
  | int i =>
    rcases hn with rfl | rfl | rfl | rfl
    · exact ⟨_, .base (.int i), kit_ty (r := true) (by decide +kernel)⟩
    · exact ⟨_, .base (.int i), kit_ty (r := false) (by decide +kernel)⟩
    · exact ⟨_, .base (.int i), kit_ty (r := false) (by decide +kernel)⟩
    · exact ⟨_, .base (.int i), kit_ty (r := false) (by decide +kernel)⟩
  | str x =>
    rcases hn with rfl | rfl | rfl | rfl
    · exact ⟨_, .base (.str x), kit_ty (r := false) (by decide +kernel)⟩
    · exact ⟨_, .base (.str x), kit_ty (r := false) (by decide +kernel)⟩
    · exact ⟨_, .base (.str x), kit_ty (r := true) (by decide +kernel)⟩
    · exact ⟨_, .base (.str x), kit_ty (r := false) (by decide +kernel)⟩
  | ref a =>
    rcases h with ⟨xs, h⟩ | ⟨xs, h⟩ | ⟨xs, h⟩
    · refine ⟨_, .base (.tup h), ?_⟩
      have e : kindB H n (.ref a) = (n == "tuple") := by simp only [kindB, h]
      rw [e]
      rcases hn with rfl | rfl | rfl | rfl <;> exact kit_ty (by decide +kernel)
    · refine ⟨_, .base (.lst h), ?_⟩
      have e : kindB H n (.ref a) = (n == "list") := by simp only [kindB, h]
      rw [e]
      rcases hn with rfl | rfl | rfl | rfl <;> exact kit_ty (by decide +kernel)
    · refine ⟨_, .base (.dK h), ?_⟩
      have e : kindB H n (.ref a) = (n == "dict") := by simp only [kindB, h]
      rw [e]
      rcases hn with rfl | rfl | rfl | rfl <;> exact kit_ty (by decide +kernel)
  | _ => exact h.elim
def isN : V → Bool
  | .int _ => true
  | _ => false
theorem isN_int {v : V} (h : isN v = true) : ∃ i, v = .int i := by
  cases v <;> first | exact ⟨_, rfl⟩ | exact Bool.noConfusion (show false = true from h)
theorem isN_kind {H : Hp} {v : V} (h : Typed H v) : isN v = (kindB H "int" v && !kindB H "bool" v) := by
  cases v with
  | ref a => rcases h with ⟨xs, h⟩ | ⟨xs, h⟩ | ⟨xs, h⟩ <;> simp [isN, kindB, h]
  | bl b => simp [isN, kindB]
  | int i => simp [isN, kindB]
  | _ => simp [isN, kindB]
def inW (v : V) (a b : Int) : Bool := match v with
  | .int i => decide (a ≤ i) && decide (i ≤ b)
  | _ => false
theorem inW_not {v : V} {a b : Int} (h : ¬ isN v = true) : inW v a b = false := by
  cases v <;> first | rfl | exact absurd rfl h
def spNum : Sp := fun vs H Q _ => ∃ v, vs = [v] ∧ Typed H v ∧ Q (.bl (isN v)) H
def spWithin : Sp := fun vs H Q _ => ∃ v a b, vs = [v, .int a, .int b] ∧ Typed H v ∧ Q (.bl (inW v a b)) H
/-- each is below the next -/
def risB : List Int → Bool
  | a :: b :: r => decide (a < b) && risB (b :: r)
  | _ => true
theorem ris_iff : ∀ ws : List Int, risB ws = true ↔ ∀ (k : Nat) (x y : Int), ws[k]? = some x → ws[k + 1]? = some y → x < y
  | [] => by simp [risB]
  | [a] => by simp [risB]
  | a :: b :: r => by
    rw [risB, Bool.and_eq_true, decide_eq_true_eq, ris_iff (b :: r)]
    constructor
    · rintro ⟨h, t⟩ k x y h1 h2
      cases k with
      | zero =>
        have e1 : a = x := Option.some.inj h1
        have e2 : b = y := Option.some.inj h2
        rw [← e1, ← e2]; exact h
      | succ k => exact t k x y h1 h2
    · intro t
      exact ⟨t 0 a b rfl rfl, fun k x y h1 h2 => t (k + 1) x y h1 h2⟩
/-! ### homes and names -/
def unI : V → Int
  | .int i => i
  | _ => 0
def homeV (xs : List V) : Bool := xs.all (fun x => inW x 0 6) && risB (xs.map unI)
def homeB (H : Hp) : V → Bool
  | .ref a => match H a with
    | some (.tup xs) => homeV xs
    | _ => false
  | _ => false
theorem map_unI : ∀ {xs : List V}, (∀ x ∈ xs, inW x 0 6 = true) → xs = (xs.map unI).map V.int
  | [], _ => rfl
  | x :: r, h => by
    have hx := h x List.mem_cons_self
    obtain ⟨i, rfl⟩ : ∃ i, x = .int i := by
      cases x <;> first | exact ⟨_, rfl⟩ | exact Bool.noConfusion (show false = true from hx)
    rw [List.map_cons, List.map_cons, ← map_unI fun y hy => h y (List.mem_cons_of_mem _ hy)]
    rfl
/-- a thing, and what is in it where it is a tuple -/
def Deep (H : Hp) (v : V) : Prop := Typed H v ∧ ∀ a xs, v = .ref a → H a = some (.tup xs) → xs.length ≤ 1000 ∧ ∀ x ∈ xs, Typed H x
theorem kind_tup {H : Hp} {v : V} (h : Typed H v) (k : kindB H "tuple" v = true) : ∃ a xs, v = .ref a ∧ H a = some (.tup xs) := by
  cases v with
  | ref a =>
    rcases h with ⟨xs, e⟩ | ⟨xs, e⟩ | ⟨xs, e⟩
    · exact ⟨a, xs, rfl, e⟩
    · simp [kindB, e] at k
    · simp [kindB, e] at k
  | _ => simp [kindB] at k
theorem not_tup {H : Hp} {v : V} (k : ¬ kindB H "tuple" v = true) : homeB H v = false := by
  cases v with
  | ref a =>
    show (match H a with | some (.tup xs) => homeV xs | _ => false) = false
    cases e : H a with
    | none => rfl
    | some o =>
      cases o with
      | tup xs => exact absurd (by simp [kindB, e]) k
      | _ => rfl
  | _ => rfl
def signOk (c : Nat) : Bool := decide (97 ≤ c) && decide (c ≤ 122)
theorem le_a (c : Nat) : (!decide (([c] : List Nat) < [97])) = decide (97 ≤ c) := by
  by_cases h : 97 ≤ c
  · simp [List.cons_lt_cons_iff, h]
  · simp [List.cons_lt_cons_iff, h]; omega
theorem le_z (c : Nat) : (!decide (([122] : List Nat) < [c])) = decide (c ≤ 122) := by
  by_cases h : c ≤ 122
  · simp [List.cons_lt_cons_iff, h]
  · simp [List.cons_lt_cons_iff, h]; omega
def nameB : V → Bool
  | .str z => (decide (1 ≤ z.length) && decide (z.length ≤ 8)) && z.cps.toList.all signOk
  | _ => false
/-- a text of few plain signs -/
def Plain (z : Str) : Prop := z.length ≤ 100 ∧ ∀ c ∈ z.cps.toList, c < 128
def PlainV : V → Prop
  | .str z => Plain z
  | _ => True
theorem kind_str {H : Hp} {v : V} (h : Typed H v) (k : kindB H "str" v = true) : ∃ z, v = .str z := by
  cases v with
  | str z => exact ⟨z, rfl⟩
  | ref a => rcases h with ⟨xs, e⟩ | ⟨xs, e⟩ | ⟨xs, e⟩ <;> simp [kindB, e] at k
  | _ => simp [kindB] at k
theorem not_str {H : Hp} {v : V} (k : ¬ kindB H "str" v = true) : nameB v = false := by
  cases v with
  | str z => exact absurd (by simp [kindB]) k
  | _ => rfl
theorem all_get {α : Type} {l : List α} {f : α → Bool} (h : ∀ (k : Nat) (x : α), l[k]? = some x → f x = true) : l.all f = true := by
  rw [List.all_eq_true]
  intro x hx
  obtain ⟨k, hk, e⟩ := List.getElem_of_mem hx
  exact h k x (by rw [List.getElem?_eq_getElem hk, e])
theorem all_not {α : Type} {l : List α} {f : α → Bool} {k : Nat} {x : α} (h : l[k]? = some x) (e : f x = false) : l.all f = false := by
  cases z : l.all f
  · rfl
  · rw [List.all_eq_true] at z
    rw [z x (List.mem_of_getElem? h)] at e
    cases e
/-! ### lists of signs compared -/
def sg (c : Nat) : Str := ⟨#[c]⟩
theorem dp_signs {K : PySem.W.Frag} {H : Hp} : ∀ cs : List Nat, DpAll K H (cs.map fun c => V.str (sg c)) (cs.map fun c => PyData.str (sg c))
  | [] => .nil
  | c :: r => .cons (.str _) (dp_signs r)
theorem lay_signs : ∀ {cs : List Nat}, (∀ c ∈ cs, c < 128) → PyData.canLayAll0 (cs.map fun c => PyData.str (sg c)) = true
  | [], _ => by simp [PyData.canLayAll0]
  | c :: r, h => by
    have h1 := h c List.mem_cons_self
    have h2 := lay_signs fun d hd => h d (List.mem_cons_of_mem _ hd)
    rw [List.map_cons, PyData.canLayAll0, h2, PyData.canLay0, Bool.and_true]
    simp [sg, PyData.strOk]
    omega
theorem depth_signs : ∀ cs : List Nat, PyData.depthAll (cs.map fun c => PyData.str (sg c)) = 0
  | [] => by simp [PyData.depthAll]
  | c :: r => by
    rw [List.map_cons, PyData.depthAll, depth_signs r]
    simp [PyData.depth]
theorem shaped_signs {cs : List Nat} (h : ∀ c ∈ cs, c < 128) : SeqAt.shaped (.list (cs.map fun c => PyData.str (sg c))) = true := by
  unfold SeqAt.shaped
  rw [Bool.and_eq_true, PyData.canLay0, PyData.depth, depth_signs]
  exact ⟨lay_signs h, by decide⟩
theorem eqv_signs (cs : List Nat) : PyData.eqv (.list (cs.map fun c => PyData.str (sg c))) (.list []) = cs.isEmpty := by
  cases cs with
  | nil => simp [PyData.eqv, PyData.eqvAll]
  | cons c r => simp [PyData.eqv, PyData.eqvAll]
def homeFrom (f : Int) : List V → Bool
  | [] => true
  | .int i :: r => if i ≤ f ∨ 6 < i then false else homeFrom i r
  | _ :: _ => false
theorem homeFrom_eq : ∀ (xs : List V) (f : Int), -1 ≤ f → homeFrom f xs = (xs.all (fun x => inW x 0 6) && risB (f :: xs.map unI))
  | [], f, _ => rfl
  | x :: r, f, hf => by
    rw [List.all_cons, List.map_cons]
    cases x with
    | int i =>
      rw [homeFrom, risB]
      by_cases h : i ≤ f ∨ 6 < i
      · rw [if_pos h]
        rcases h with h | h
        · have : decide (f < unI (.int i)) = false := decide_eq_false (show ¬ f < i by omega)
          rw [this]
          simp
        · have : inW (.int i) 0 6 = false := by
            show (decide (0 ≤ i) && decide (i ≤ 6)) = false
            rw [decide_eq_false (show ¬ i ≤ 6 by omega), Bool.and_false]
          rw [this]
          simp
      · rw [if_neg h, homeFrom_eq r i (by omega)]
        have h1 : inW (.int i) 0 6 = true := by
          show (decide (0 ≤ i) && decide (i ≤ 6)) = true
          rw [decide_eq_true (show 0 ≤ i by omega), decide_eq_true (show i ≤ 6 by omega)]
          rfl
        have h2 : decide (f < unI (.int i)) = true := decide_eq_true (show f < i by omega)
        rw [h1, h2, Bool.true_and, Bool.true_and]
        rfl
    | _ => rfl
theorem homeV_from (xs : List V) : homeV xs = homeFrom (-1) xs := by
  rw [homeFrom_eq xs (-1) (by omega), homeV]
  cases xs with
  | nil => rfl
  | cons x r =>
    rw [List.all_cons, List.map_cons, risB]
    cases h : inW x 0 6
    · simp
    · have : decide ((-1 : Int) < unI x) = true := by
        cases x <;> first | exact Bool.noConfusion (show false = true from h) | skip
        rename_i i
        have h : (decide (0 ≤ i) && decide (i ≤ 6)) = true := h
        rw [Bool.and_eq_true, decide_eq_true_eq] at h
        exact decide_eq_true (show -1 < i by omega)
      simp [this]
theorem letters_eq : (Str.ofString "abcdefghijklmnopqrstuvwxyz").cps.toList = List.range' 97 26 := by decide +kernel
theorem in_letters (c : Nat) : decide (c ∈ (Str.ofString "abcdefghijklmnopqrstuvwxyz").cps.toList) = signOk c := by
  rw [letters_eq, signOk, ← Bool.decide_and]
  refine decide_eq_decide.mpr ?_
  rw [List.mem_range'_1]
  omega
theorem take_filter {α : Type} {l : List α} {i : Nat} {c : α} (f : α → Bool) (h : l[i]? = some c) : (l.take (i + 1)).filter f = (l.take i).filter f ++ (if f c = true then [c] else []) := by
  rw [List.take_add_one, h, List.filter_append]
  congr 1
  by_cases e : f c = true
  · simp [e]
  · simp [e]
theorem filter_empty {l : List Nat} : (l.filter fun c => !signOk c).isEmpty = l.all signOk := by
  induction l with
  | nil => rfl
  | cons c r ih =>
    rw [List.filter_cons, List.all_cons]
    cases e : signOk c
    · simp
    · simpa using ih
/-! ### plain texts -/
theorem Plain.app {a b : Str} {n m : Nat} (ha : a.length ≤ n) (hb : b.length ≤ m) (h : n + m ≤ 100) (ca : ∀ c ∈ a.cps.toList, c < 128) (cb : ∀ c ∈ b.cps.toList, c < 128) : Plain (a ++ b) := by
  refine ⟨?_, fun c hc => ?_⟩
  · rw [PySem.Str.length_append]; omega
  · rw [PySem.Str.cps_append, Array.toList_append] at hc
    rcases List.mem_append.mp hc with z | z
    · exact ca c z
    · exact cb c z
theorem app_chars {a b : Str} (ca : ∀ c ∈ a.cps.toList, c < 128) (cb : ∀ c ∈ b.cps.toList, c < 128) : ∀ c ∈ (a ++ b).cps.toList, c < 128 := fun c hc => by
  rw [PySem.Str.cps_append, Array.toList_append] at hc
  rcases List.mem_append.mp hc with z | z
  · exact ca c z
  · exact cb c z
theorem cut_chars {z : Str} (h : ∀ c ∈ z.cps.toList, c < 128) (lo hi : Option Int) : ∀ c ∈ (cutS z lo hi).cps.toList, c < 128 := fun c hc => by
  unfold cutS at hc
  rw [List.toList_toArray] at hc
  exact h c (List.mem_of_mem_drop (List.mem_of_mem_take hc))
theorem one_sign {c : Nat} (h : c < 128) : ∀ d ∈ (⟨#[c]⟩ : Str).cps.toList, d < 128 := fun d hd => by
  have hd : d ∈ [c] := hd
  rw [List.mem_singleton.mp hd]
  exact h
/-! ### tuples put together, cut -/
theorem cat_in {K : PySem.W.Frag} {a b : Addr} {xs ys : List V} {H : Hp} {Q : VK} (ha : H a = some (.tup xs)) (hb : H b = some (.tup ys)) (hl : xs.length + ys.length ≤ 1000)
    (k : ∀ r H', Same H H' → H' r = some (.tup (xs ++ ys)) → Q (.ref r) H') : rCatA K (.ref a) (.ref b) H Q := by
  refine ⟨a, b, xs, ys, rfl, rfl, .inl (.inl ha), .inl (.inl hb), sz hl, fun e => ?_, fun _ e => ?_, fun _ _ p np => ?_⟩
  · subst e
    exact k b H (Same.refl _) hb
  · subst e
    exact k a H (Same.refl _) (by rw [List.append_nil]; exact ha)
  · exact k p _ (same_upd np) upd_same
theorem cut_all (xs : List V) {lo hi : Option Int} (h1 : HT.sIx xs.length 0 lo = 0) (h2 : HT.sIx xs.length xs.length hi = xs.length) : cutV xs lo hi = xs := by
  unfold cutV
  rw [h1, h2, List.drop_zero, Nat.sub_zero, List.take_length]
theorem sl_in {K : PySem.W.Frag} {a : Addr} {xs : List V} {lo hi : Option Int} {H : Hp} {Q : VK} (ha : H a = some (.tup xs)) (k : ∀ r H', Same H H' → H' r = some (.tup (cutV xs lo hi)) → Q (.ref r) H') : rSlA K (.ref a) lo hi H Q := by
  refine ⟨a, xs, rfl, .inl (.inl ha), fun e => k a H (Same.refl _) ?_, fun _ p np => k p _ (same_upd np) upd_same⟩
  rw [cut_all xs e.1 e.2]
  exact ha
theorem cut_mem {xs : List V} {lo hi : Option Int} {x : V} (h : x ∈ cutV xs lo hi) : x ∈ xs := List.mem_of_mem_drop (List.mem_of_mem_take h)
theorem cut_len (xs : List V) (lo hi : Option Int) : (cutV xs lo hi).length ≤ xs.length := by
  unfold cutV
  rw [List.length_take, List.length_drop]
  omega
theorem deep_tup {H : Hp} {r : Addr} {xs : List V} (e : H r = some (.tup xs)) (hl : xs.length ≤ 1000) (hx : ∀ x ∈ xs, Typed H x) : Deep H (.ref r) := by
  refine ⟨.inl ⟨xs, e⟩, fun a ys h1 h2 => ?_⟩
  cases h1
  rw [e] at h2
  cases h2
  exact ⟨hl, hx⟩
theorem deep_flat {H : Hp} {v : V} (h : Typed H v) (n : ∀ a, v ≠ .ref a) : Deep H v := ⟨h, fun a _ e => absurd e (n a)⟩
theorem deep_lst {H : Hp} {r : Addr} {xs : List V} (e : H r = some (.lst xs)) : Deep H (.ref r) := ⟨.inr (.inl ⟨xs, e⟩), fun a ys h1 h2 => by
  cases h1
  rw [e] at h2
  cases h2⟩
theorem deep_dic {H : Hp} {r : Addr} {kvs : List (Key × V)} (e : H r = some (.dK kvs)) : Deep H (.ref r) := ⟨.inr (.inr ⟨kvs, e⟩), fun a ys h1 h2 => by
  cases h1
  rw [e] at h2
  cases h2⟩
theorem Deep.of {H H' : Hp} {v : V} (h : Deep H v) (s : ∀ b o, H b = some o → (∀ ps, o ≠ .tbl ps) → H' b = some o) : Deep H' v := by
  refine ⟨h.1.of fun b o e n _ => s b o e n, fun a xs e1 e2 => ?_⟩
  subst e1
  rcases h.1 with ⟨ys, e⟩ | ⟨ys, e⟩ | ⟨ys, e⟩
  · have e3 := s a _ e fun ps z => by cases z
    rw [e2] at e3
    cases e3
    exact ⟨(h.2 a _ rfl e).1, fun x hx => ((h.2 a _ rfl e).2 x hx).of fun b o e n _ => s b o e n⟩
  · have e3 := s a _ e fun ps z => by cases z
    rw [e2] at e3
    cases e3
  · have e3 := s a _ e fun ps z => by cases z
    rw [e2] at e3
    cases e3
theorem ty_ints {H : Hp} {ws : List Int} : ∀ x ∈ ws.map V.int, Typed H x := fun x hx => by
  obtain ⟨i, _, rfl⟩ := List.mem_map.mp hx
  exact True.intro
theorem dp_ints {K : PySem.W.Frag} {H : Hp} : ∀ ns : List Int, DpAll K H (ns.map V.int) (ns.map PyData.int)
  | [] => .nil
  | n :: r => .cons (.int n) (dp_ints r)
theorem shaped_tints (ns : List Int) : SeqAt.shaped (.tuple (ns.map PyData.int)) = true := by
  have h1 := PySem.W.depthAll_ints ns
  unfold SeqAt.shaped
  rw [Bool.and_eq_true]
  refine ⟨by simp only [PyData.canLay0]; exact PySem.W.canLayAll0_ints ns, decide_eq_true ?_⟩
  simp only [PyData.depth]
  omega
theorem eqv_tints (ns : List Int) : PyData.eqv (.tuple (ns.map PyData.int)) (.tuple []) = ns.isEmpty := by
  cases ns with
  | nil => simp [PyData.eqv, PyData.eqvAll]
  | cons n r => simp [PyData.eqv, PyData.eqvAll]
theorem atI_int {α : Type} {xs : List α} {i : Int} {v : α} (h0 : 0 ≤ i) (h : xs[i.toNat]? = some v) : atI xs i = some v := by
  obtain ⟨j, rfl⟩ := Int.eq_ofNat_of_zero_le h0
  exact atI_nat h
theorem np_in {σ : L2.St} {H : Hp} {Q : Option Int → Hp → Prop} (h : Q none H) : tNoPart σ H Q := h
/-- a tuple that the top has written -/
def KT (K : PySem.W.Frag) (a : Addr) (xs : List V) : Prop := ∃ (o : Obj) (its : Array Value) (n : Nat), K.lookup a = some o ∧ o.cls = .type "tuple" ∧ o.data = .seq its n ∧ its.size ≤ sizeLine ∧ Vals xs its.toList
end My

set_option Elab.async false
set_option linter.all false
set_option maxRecDepth 100000
set_option maxHeartbeats 2000000
/-! x in a tuple of texts, whatever x is -/
namespace My
open PySem PySem.Spec PyProof.Rows L2 PySem.SeqAt
theorem str_declines_dict (b : Str) (u : Tok) (l : Addr) (o : Obj) (es : Array DictEntry) (n : Nat) (hd : o.data = .dict es n) :
    Meets (Builtin.«str.__eq__» ⟨[.str b u, .ref l], []⟩) (fun _ R s => s.heap.get? l = some o ∧ R (.ok (.ret .notImplemented)) s) := by
  obtain ⟨cls, dd, data, sl⟩ := o
  simp only at hd
  subst hd
  refine .of_wp fun prog w A R s h => ?_
  obtain ⟨hp, g, d, tk, os⟩ := s
  obtain ⟨hl, h⟩ := h
  wp_walk using wpAny_loadPart' hl, wpAny_load hl
  exact ⟨_, rfl, h⟩
theorem dict_declines_str (b : Str) (u : Tok) (l : Addr) (o : Obj) (es : Array DictEntry) (n : Nat) (hc : o.cls = .type "dict") (hd : o.data = .dict es n) :
    Meets (Builtin.«dict.__eq__» ⟨[.ref l, .str b u], []⟩) (fun _ R s => s.heap.get? l = some o ∧ R (.ok (.ret .notImplemented)) s) := by
  obtain ⟨cls, dd, data, sl⟩ := o
  simp only at hd hc
  subst hd hc
  refine .of_wp fun prog w A R s h => ?_
  obtain ⟨hp, g, d, tk, os⟩ := s
  obtain ⟨hl, h⟩ := h
  wp_walk using wpAny_loadPart' hl, wpAny_load hl
  refine wpAny_of_eq (show isSubtype (.type "str") (.type "dict") = pure false by rw [isSubtype_type]; kernel_rfl) ?_
  rw [if_pos (by decide)]
  exact wpAny_bind (wpAny_rule (wpAny_pure ⟨_, rfl, h⟩))
section
variable {A : Around} {s : Shared}
theorem eq_str_dict {l : Addr} {o : Obj} {es : Array DictEntry} {n : Nat} (b : Str) (u : Tok) (ho : s.heap.get? l = some o) (hc : o.cls = .type "dict") (hd : o.data = .dict es n) (hu : A.units < cLine) : EqAt A s (.str b u) (.ref l) false := fun prog w E Q h => by
  unfold eqBool
  refine wpAny_holding (wpAny_ite_split (fun hab => absurd (eq_of_beq hab) nofun) fun _ => ?_)
  refine wpAny_bind (rc_eq_decline_or (k := false) (typeIs_str s b u) ⟨_, ho, hc⟩ (by decide) F.sub_dict_str F.slot_str_eq F.slot_dict_eq_refl
    (fun _ hq => call_meets F.slot_str_eq (typeIs_str s b u) F.entry_str_eq (F.args_str_eq_2 _ _) (str_declines_dict b u l o es n hd) ⟨ho, hq⟩)
    (fun _ hq => call_meets F.slot_dict_eq_refl ⟨_, ho, hc⟩ F.entry_dict_eq (F.args_dict_eq_2 _ _) (dict_declines_str b u l o es n hc hd) ⟨ho, hq⟩)
    (fun _ hq => wpAny_of_eq (rfl : isSame (.str b u) (.ref l) = pure false) hq) (.inr hu) (wpAny_truthy_bool h))
end
def strIn (zs : List Str) : V → Bool
  | .str z => zs.any (fun y => y == z)
  | _ => false
def eqS (x : V) : Value → Bool
  | .str y _ => (match x with | .str z => y == z | _ => false)
  | _ => false
section
variable {X : Cx}
theorem eqAt_typed {pins : List (Addr × Obj)} {σ : L2.St} {H : Hp} {s : Shared} {x : V} {v : Value} {A : Around} (I : Inv X pins σ H s) (hx : Typed H x) (rx : RelV x v) (hu : A.units < cLine) (y : Str) (t : Tok) : EqAt A s (.str y t) v (eqS x (.str y t)) := by
  cases x with
  | non => cases rx; exact EqAt.str_none y t
  | bl b => cases rx; exact EqAt.str_bool y t b
  | int i => obtain ⟨u, rfl⟩ := rx; exact EqAt.str_int y t i u
  | str z => obtain ⟨u, rfl⟩ := rx; exact EqAt.str_str y t z u
  | ref a =>
    obtain rfl : v = Value.ref a := rx
    rcases hx with ⟨xs, e⟩ | ⟨xs, e⟩ | ⟨kvs, e⟩
    · obtain ⟨_, its, _, p⟩ := (show ObjOk X.prog X.w H s.heap a (.tup xs) from I.hok a _ e)
      exact EqAt.str_tuple y t p hu
    · obtain ⟨_, its, n, _, p⟩ := (show ObjOk X.prog X.w H s.heap a (.lst xs) from I.hok a _ e)
      exact EqAt.str_list (items := its.toArray) y t ⟨_, p, rfl, n, rfl⟩ hu
    · obtain ⟨_, _, ws, _, o, es, ep, ho, hex, hd, _⟩ := (show ObjOk X.prog X.w H s.heap a (.dK kvs) from I.hok a _ e)
      exact eq_str_dict y t ho hex.1 hd hu
  | _ => exact hx.elim
theorem any_eqS {x : V} : ∀ {zs : List Str} {us : List Value}, Vals (zs.map V.str) us → us.any (eqS x) = strIn zs x
  | [], _, .nil => by cases x <;> rfl
  | z :: zs, _, .cons r t => by
    obtain ⟨k, rfl⟩ := (show ∃ k, _ = Value.str z k from r)
    rw [List.any_cons, any_eqS t]
    cases x with
    | str y => simp [eqS, strIn]
    | _ => simp [eqS, strIn]
def rInS (K : PySem.W.Frag) (neg : Bool) : R2 := fun x y H Q => ∃ (p : Addr) (zs : List Str), y = .ref p ∧ SqT K H p (zs.map V.str) ∧ Typed H x ∧ Q (.bl (if neg then !strIn zs x else strIn zs x)) H
theorem op_notIn_strs (hu : X.A.units + 1 < cLine) : OpR X (compareOp .NotIn) (rInS X.K true) := by
  intro pins s σ H x y v u Q I rx ry h
  obtain ⟨p, zs, rfl, hq, hx, q⟩ := h
  cases ry
  obtain ⟨its, r, pl, hz⟩ := I.tuple hq
  refine notIn_tupleAt (eqS x) pl (fun w hw => ?_) ⟨.bl _, H, I, rfl, ?_⟩
  · have hw : w ∈ its := by simpa using hw
    obtain ⟨z, t, rfl⟩ : ∃ z t, w = Value.str z t := by
      clear q hx rx pl hz
      have key : ∀ {zs : List Str} {us : List Value}, Vals (zs.map V.str) us → w ∈ us → ∃ z t, w = Value.str z t := by
        intro zs
        induction zs with
        | nil => intro us r hw; cases r; cases hw
        | cons z zs ih =>
          intro us r hw
          cases r with
          | cons r t =>
            rcases List.mem_cons.mp hw with e | e
            · obtain ⟨k, e2⟩ := (show ∃ k, _ = Value.str z k from r)
              exact ⟨z, k, e.trans e2⟩
            · exact ih t e
      exact key r hw
    exact eqAt_typed I hx rx hu z t
  · rw [show its.toArray.any (eqS x) = its.any (eqS x) by simp, any_eqS r]
    exact q
end
end My

set_option Elab.async false
set_option linter.all false
set_option maxRecDepth 100000
set_option maxHeartbeats 2000000
/-! PAGES: their forms, told by lists; heaps that grow beside tables -/
namespace My
open PySem PySem.Spec PyProof.Rows L2
/-! ### heaps that grow -/
def Gk (Ts : List Addr) (H H' : Hp) : Prop := (∀ b o, H b = some o → (∀ ps, o ≠ .tbl ps) → H' b = some o) ∧ Tbs Ts H'
theorem Gk.refl {Ts : List Addr} {H : Hp} (h : Tbs Ts H) : Gk Ts H H := ⟨fun _ _ e _ => e, h⟩
theorem Gk.trans {Ts : List Addr} {H H1 H2 : Hp} (a : Gk Ts H H1) (b : Gk Ts H1 H2) : Gk Ts H H2 := ⟨fun x o e n => b.1 x o (a.1 x o e n) n, b.2⟩
theorem Tk.gk {Ts : List Addr} {H H' : Hp} (t : Tk Ts H H') (h : Tbs Ts H) : Gk Ts H H' := ⟨fun _ _ e n => t.at h e n, t.2⟩
theorem Gk.of_same {Ts : List Addr} {H H' : Hp} (s : Same H H') (h : Tbs Ts H) : Gk Ts H H' := ⟨fun _ _ e _ => s _ _ e, h.same s⟩
theorem Gk.new {Ts : List Addr} {H : Hp} {p : Addr} {o : HO} (h : Tbs Ts H) (hp : H p = none) : Gk Ts H (upd H p o) := .of_same (same_upd hp) h
theorem Gk.tup {Ts : List Addr} {H H' : Hp} {b : Addr} {xs : List V} (t : Gk Ts H H') (e : H b = some (.tup xs)) : H' b = some (.tup xs) := t.1 _ _ e fun ps z => by cases z
theorem Deep.gk {Ts : List Addr} {H H' : Hp} {v : V} (h : Deep H v) (g : Gk Ts H H') : Deep H' v := h.of g.1
theorem Typed.gk {Ts : List Addr} {H H' : Hp} {v : V} (h : Typed H v) (g : Gk Ts H H') : Typed H' v := h.of fun b o e n _ => g.1 b o e n
theorem Tap.gk {Ts : List Addr} {H H' : Hp} {t : Addr} {n : Nat} (hT : Tap H t n) (k : Gk Ts H H') : Tap H' t n := by
  obtain ⟨c, ns, sp, re, ca, h1, h2, h3⟩ := hT
  exact ⟨c, ns, sp, re, ca, k.1 _ _ h1 (fun ps z => by cases z), k.1 _ _ h2 (fun ps z => by cases z), h3⟩
theorem homeB_gk {Ts : List Addr} {H H' : Hp} {v : V} (h : Typed H v) (g : Gk Ts H H') : homeB H' v = homeB H v := by
  cases v with
  | ref a =>
    rcases h with ⟨xs, e⟩ | ⟨xs, e⟩ | ⟨xs, e⟩
    · simp only [homeB, e, g.1 _ _ e (fun ps z => by cases z)]
    · simp only [homeB, e, g.1 _ _ e (fun ps z => by cases z)]
    · simp only [homeB, e, g.1 _ _ e (fun ps z => by cases z)]
  | _ => rfl
/-! ### the walk of a zip of two tuples -/
theorem walk_zipT {K : PySem.W.Frag} {a b : Addr} {xs ys : List V} {n : Nat} (hn : n = min xs.length ys.length) : Walk (RZ.ItzT K a b) n (fun H => SqT K H a xs ∧ SqT K H b ys) (YPair (fun i => xs[i]?) (fun i => ys[i]?)) := by
  subst hn
  refine ⟨fun i _ hi q => ?_, fun _ q => ⟨xs, ys, q.1, q.2, by omega⟩, fun i H v H' _ q y => ?_⟩
  · have h1 : i < xs.length := by omega
    have h2 : i < ys.length := by omega
    exact ⟨xs, ys, xs[i], ys[i], q.1, q.2, by simp [h1], by simp [h2]⟩
  · obtain ⟨T, x, z, h1, h2, h3, h4, h5⟩ := y
    exact ⟨T, x, z, h1, h2, h3, h4 xs q.1, h5 ys q.2⟩
/-! ### forms -/
def kinds : List Str := ["house", "part", "join", "home", "mourn", "ahead", "card", "visit"]
def formsOf (k : Str) : Option (List Str) :=
  if k = "house" then some ["name", "home"] else if k = "part" then some ["name", "name", "home"] else if k = "join" then some ["name", "name"]
  else if k = "home" then some ["name", "home"] else if k = "mourn" then some ["name", "many"] else if k = "ahead" then some ["name", "name"]
  else if k = "card" then some ["name", "name"] else if k = "visit" then some ["name", "name"] else none
def fitB (H : Hp) (f : Str) (v : V) : Bool := if f = "name" then nameB v else if f = "home" then homeB H v else inW v 1 60
theorem fitB_gk {Ts : List Addr} {H H' : Hp} {f : Str} {v : V} (h : Typed H v) (g : Gk Ts H H') : fitB H' f v = fitB H f v := by
  unfold fitB
  rw [homeB_gk h g]
/-- all parts fit their forms -/
def fitsB (H : Hp) (fs : List Str) (r : List V) : Bool := (fs.zip r).all fun p => fitB H p.1 p.2
/-- the parts whose form is a name -/
def namesB (fs : List Str) (r : List V) : List V := ((fs.zip r).filter fun p => decide (p.1 = ("name" : Str))).map (·.2)
def formV (H : Hp) : List V → Bool
  | .str k :: d :: r => match formsOf k with
    | some fs => inW d 0 9999 && (decide (r.length = fs.length) && fitsB H fs r)
    | none => false
  | _ => false
def formB (H : Hp) : V → Bool
  | .ref a => match H a with
    | some (.tup xs) => formV H xs
    | _ => false
  | _ => false
def namesV : List V → List V
  | .str k :: _ :: r => namesB ((formsOf k).getD []) r
  | _ => []
def unlike : List V → Bool
  | [_] => true
  | a :: b :: _ => !decide (a = b)
  | _ => true
def pageB (H : Hp) : V → Bool
  | .ref a => match H a with
    | some (.tup xs) => formV H xs && unlike (namesV xs)
    | _ => false
  | _ => false
/-- a thing, what is in it where it is a tuple, and in these -/
def Pgd (H : Hp) (v : V) : Prop := Typed H v ∧ ∀ a xs, v = .ref a → H a = some (.tup xs) → xs.length ≤ 100 ∧ ∀ x ∈ xs, Deep H x ∧ PlainV x
theorem not_tupF {H : Hp} {v : V} (k : ¬ kindB H "tuple" v = true) : formB H v = false ∧ pageB H v = false := by
  cases v with
  | ref a =>
    constructor
    · show (match H a with | some (.tup xs) => formV H xs | _ => false) = false
      cases e : H a with
      | none => rfl
      | some o =>
        cases o with
        | tup xs => exact absurd (by simp [kindB, e]) k
        | _ => rfl
    · show (match H a with | some (.tup xs) => formV H xs && unlike (namesV xs) | _ => false) = false
      cases e : H a with
      | none => rfl
      | some o =>
        cases o with
        | tup xs => exact absurd (by simp [kindB, e]) k
        | _ => rfl
  | _ => exact ⟨rfl, rfl⟩
theorem form_short {H : Hp} {xs : List V} (h : xs.length < 2) : formV H xs = false := by
  match xs, h with
  | [], _ => rfl
  | [x], _ => cases x <;> rfl
theorem kinds_iff {k : Str} : kinds.any (fun y => y == k) = (formsOf k).isSome := by
  unfold kinds formsOf
  by_cases h1 : k = "house"
  · subst h1; decide
  by_cases h2 : k = "part"
  · subst h2; decide
  by_cases h3 : k = "join"
  · subst h3; decide
  by_cases h4 : k = "home"
  · subst h4; decide
  by_cases h5 : k = "mourn"
  · subst h5; decide
  by_cases h6 : k = "ahead"
  · subst h6; decide
  by_cases h7 : k = "card"
  · subst h7; decide
  by_cases h8 : k = "visit"
  · subst h8; decide
  have f : ∀ {a : Str}, ¬ k = a → (a == k) = false := fun h => beq_eq_false_iff_ne.mpr fun z => h z.symm
  simp only [List.any_cons, List.any_nil, f h1, f h2, f h3, f h4, f h5, f h6, f h7, f h8, if_neg h1, if_neg h2, if_neg h3, if_neg h4, if_neg h5, if_neg h6, if_neg h7, if_neg h8]
  rfl
theorem form_kind {H : Hp} {x d : V} {r : List V} (h : strIn kinds x = false) : formV H (x :: d :: r) = false := by
  cases x with
  | str k =>
    have h : kinds.any (fun y => y == k) = false := h
    rw [kinds_iff] at h
    show (match formsOf k with | some fs => _ | none => false) = false
    cases e : formsOf k with
    | none => rfl
    | some fs => rw [e] at h; cases h
  | _ => rfl
theorem kind_in {x : V} (h : strIn kinds x = true) : ∃ k fs, x = .str k ∧ formsOf k = some fs := by
  cases x with
  | str k =>
    have h : kinds.any (fun y => y == k) = true := h
    rw [kinds_iff] at h
    cases e : formsOf k with
    | none => rw [e] at h; cases h
    | some fs => exact ⟨k, fs, rfl, e⟩
  | _ => cases h
theorem forms_len {k : Str} {fs : List Str} (h : formsOf k = some fs) : 2 ≤ fs.length ∧ fs.length ≤ 3 := by
  unfold formsOf at h
  repeat (split at h; · cases h; decide)
  cases h
theorem cut2 (x d : V) (r : List V) : cutV (x :: d :: r) (some 2) none = r := by
  unfold cutV
  rw [show HT.sIx (x :: d :: r).length 0 (some 2) = min 2 (x :: d :: r).length from HT.sIx_nat _ _ 2, HT.sIx_none]
  have : min 2 (x :: d :: r).length = 2 := by simp
  rw [this]
  simp
theorem Pgd.of {H H' : Hp} {v : V} (h : Pgd H v) (s : ∀ b o, H b = some o → (∀ ps, o ≠ .tbl ps) → H' b = some o) : Pgd H' v := by
  refine ⟨h.1.of fun b o e n _ => s b o e n, fun a xs e1 e2 => ?_⟩
  subst e1
  rcases h.1 with ⟨ys, e⟩ | ⟨ys, e⟩ | ⟨ys, e⟩
  · have e3 := s a _ e fun ps z => by cases z
    rw [e2] at e3
    cases e3
    exact ⟨(h.2 a _ rfl e).1, fun x hx => ⟨((h.2 a _ rfl e).2 x hx).1.of s, ((h.2 a _ rfl e).2 x hx).2⟩⟩
  · have e3 := s a _ e fun ps z => by cases z
    rw [e2] at e3
    cases e3
  · have e3 := s a _ e fun ps z => by cases z
    rw [e2] at e3
    cases e3
theorem Pgd.gk {Ts : List Addr} {H H' : Hp} {v : V} (h : Pgd H v) (g : Gk Ts H H') : Pgd H' v := h.of g.1
theorem fits_get {H : Hp} {fs : List Str} {r : List V} (h : ∀ (k : Nat) (f : Str) (x : V), fs[k]? = some f → r[k]? = some x → fitB H f x = true) : fitsB H fs r = true :=
  all_get fun k p e => by
    rw [List.getElem?_zip_eq_some] at e
    exact h k p.1 p.2 e.1 e.2
theorem fits_not {H : Hp} {fs : List Str} {r : List V} {k : Nat} {f : Str} {x : V} (h1 : fs[k]? = some f) (h2 : r[k]? = some x) (e : fitB H f x = false) : fitsB H fs r = false :=
  all_not (k := k) (x := (f, x)) (List.getElem?_zip_eq_some.mpr ⟨h1, h2⟩) e
theorem str_at {fs : List Str} {i : Nat} {x : V} (h : (fs.map V.str)[i]? = some x) : ∃ f, x = .str f ∧ fs[i]? = some f := by
  rw [List.getElem?_map] at h
  cases e : fs[i]? with
  | none => rw [e] at h; cases h
  | some f => rw [e] at h; cases h; exact ⟨f, rfl, rfl⟩
theorem names_take {fs : List Str} {r : List V} {i : Nat} {f : Str} {x : V} (h1 : fs[i]? = some f) (h2 : r[i]? = some x) :
    ((((fs.zip r).take (i + 1)).filter fun p => decide (p.1 = ("name" : Str))).map (·.2)) = ((((fs.zip r).take i).filter fun p => decide (p.1 = ("name" : Str))).map (·.2)) ++ (if f = "name" then [x] else []) := by
  rw [take_filter (c := (f, x)) _ (List.getElem?_zip_eq_some.mpr ⟨h1, h2⟩), List.map_append]
  congr 1
  by_cases e : f = "name"
  · subst e; simp
  · simp [e]
theorem sz' {n : Nat} (h : n ≤ 3) : n < sizeLine := small1000 (by omega)
theorem page_form {H : Hp} {v : V} (h : formB H v = false) : pageB H v = false := by
  cases v with
  | ref a =>
    have h : (match H a with | some (.tup xs) => formV H xs | _ => false) = false := h
    show (match H a with | some (.tup xs) => formV H xs && unlike (namesV xs) | _ => false) = false
    cases e : H a with
    | none => rfl
    | some o =>
      rw [e] at h
      cases o with
      | tup xs =>
        have h : formV H xs = false := h
        show (formV H xs && _) = false
        rw [h, Bool.false_and]
      | _ => rfl
  | _ => rfl
theorem form_inv {H : Hp} {v : V} (h : formB H v = true) : ∃ a k d r fs, v = .ref a ∧ H a = some (.tup (.str k :: d :: r)) ∧ formsOf k = some fs ∧ r.length = fs.length ∧ fitsB H fs r = true := by
  cases v with
  | ref a =>
    have h : (match H a with | some (.tup xs) => formV H xs | _ => false) = true := h
    cases e : H a with
    | none => rw [e] at h; cases h
    | some o =>
      rw [e] at h
      cases o with
      | tup xs =>
        have h : formV H xs = true := h
        match xs, h with
        | .str k :: d :: r, h =>
          have h : (match formsOf k with | some fs => inW d 0 9999 && (decide (r.length = fs.length) && fitsB H fs r) | none => false) = true := h
          cases e2 : formsOf k with
          | none => rw [e2] at h; cases h
          | some fs =>
            rw [e2] at h
            have h : (inW d 0 9999 && (decide (r.length = fs.length) && fitsB H fs r)) = true := h
            rw [Bool.and_eq_true, Bool.and_eq_true, decide_eq_true_eq] at h
            exact ⟨a, k, d, r, fs, rfl, e, e2, h.2.1, h.2.2⟩
      | _ => cases h
  | _ => cases h
theorem forms_cases {k : Str} {fs : List Str} (h : formsOf k = some fs) : fs = [("name" : Str), "home"] ∨ fs = [("name" : Str), "name", "home"] ∨ fs = [("name" : Str), "name"] ∨ fs = [("name" : Str), "many"] := by
  unfold formsOf at h
  repeat' split at h
  all_goals first | (cases h; simp; done) | cases h
theorem fit_name {H : Hp} {v : V} (h : fitB H "name" v = true) : nameB v = true := h
theorem name_str {v : V} (h : nameB v = true) : ∃ z, v = .str z := by
  cases v <;> first | exact ⟨_, rfl⟩ | cases h
theorem names_cases {H : Hp} {k : Str} {fs : List Str} {r : List V} (h : formsOf k = some fs) (hl : r.length = fs.length) (hf : fitsB H fs r = true) : (∃ x, namesB fs r = [.str x]) ∨ (∃ x y, namesB fs r = [.str x, .str y]) := by
  rcases forms_cases h with rfl | rfl | rfl | rfl
  · match r, hl with
    | [x, y], _ =>
      have hf : (fitB H "name" x && (fitB H "home" y && true)) = true := hf
      rw [Bool.and_eq_true] at hf
      obtain ⟨z, rfl⟩ := name_str (fit_name hf.1)
      exact .inl ⟨z, rfl⟩
  · match r, hl with
    | [x, y, u], _ =>
      have hf : (fitB H "name" x && (fitB H "name" y && (fitB H "home" u && true))) = true := hf
      rw [Bool.and_eq_true, Bool.and_eq_true] at hf
      obtain ⟨z, rfl⟩ := name_str (fit_name hf.1)
      obtain ⟨z2, rfl⟩ := name_str (fit_name hf.2.1)
      exact .inr ⟨z, z2, rfl⟩
  · match r, hl with
    | [x, y], _ =>
      have hf : (fitB H "name" x && (fitB H "name" y && true)) = true := hf
      rw [Bool.and_eq_true, Bool.and_eq_true] at hf
      obtain ⟨z, rfl⟩ := name_str (fit_name hf.1)
      obtain ⟨z2, rfl⟩ := name_str (fit_name hf.2.1)
      exact .inr ⟨z, z2, rfl⟩
  · match r, hl with
    | [x, y], _ =>
      have hf : (fitB H "name" x && (fitB H "many" y && true)) = true := hf
      rw [Bool.and_eq_true] at hf
      obtain ⟨z, rfl⟩ := name_str (fit_name hf.1)
      exact .inl ⟨z, rfl⟩
end My

set_option Elab.async false
set_option linter.all false
set_option maxRecDepth 100000
set_option maxHeartbeats 2000000
/-! Promises of defs that are called while nothing is being shown (no repr is under way): the text that repr tells is then the thing's own. -/
namespace GU
open PySem PySem.Spec PyProof.Rows L2
/-- as FnOk, where no repr is under way -/
structure FnG (P : Program) (w : World) (K : PySem.W.Frag) (mg : Str → Option Value) (base : Heap) (CX : CXT) (k : Nat) (f : Addr) (fd : FuncData) (ps : List Str) (sp : Sp) : Prop where
  len : ∀ vs H Q E, sp vs H Q E → vs.length = ps.length
  go : ∀ (A : Around), A.guards = some [] → ∀ (outer : List Env) (s : Shared) (H : Hp) (args : Args) (us : List Value) (vs : List V) (Q : VK) (E : XK),
    Room k A → Env0 P w K mg base A outer s H → BindsTo s fd args (ps.zip us) → Vals vs us → sp vs H Q E → codeAny (model P w) A (.call (.ref f) args) (CR CX outer P w H s Q E) s
section
variable {P : Program} {w : World} {K : PySem.W.Frag} {mg : Str → Option Value} {base : Heap} {CX : CXT} {k : Nat} {f : Addr} {fd : FuncData} {ps : List Str} {sp : Sp}
theorem FnG.of (F : FnOk P w K mg base CX k f fd ps sp) : FnG P w K mg base CX k f fd ps sp :=
  ⟨F.len, fun A _ outer s H args us vs Q E => F.run A outer s H args us vs Q E⟩
/-- a def by its body -/
theorem fnG_of {N : List Str} {name qual : Str} {params : Arguments} {body : List Stmt} {scope : Scope} {dV kV doc pm cdv ct oc : Value} {an od : Option Addr} {osl : Array (Option Value)}
    (look : K.lookup f = some ⟨oc, od, .func (PySem.W.fnOf name qual params body scope dV kV doc pm an cdv ct), osl⟩) (code : PySem.W.codeIn K cdv qual = true) (S : FnScope N ps scope)
    (len : ∀ vs H Q E, sp vs H Q E → vs.length = ps.length)
    (hbody : ∀ (A : Around) (outer : List Env) (s : Shared) (H : Hp) (vs : List V) (Q : VK) (E : XK), A.guards = some [] → Room k (A.deeper (envOfC qual scope s.heap.objs.size f cdv)) → sp vs H Q E →
      ∃ t, PSs (cxOf CX P w K mg base N qual scope f cdv A outer s H E) body t ∧ t { nx := fun _ H' => Q .non H', rt := Q } (start N vs) H) :
    FnG P w K mg base CX (k + 1) f (PySem.W.fnOf name qual params body scope dV kV doc pm an cdv ct) ps sp := by
  refine ⟨len, ?_⟩
  intro A gd outer s H args us vs Q E room env bind rel want
  obtain ⟨t, runs, reads⟩ := hbody A outer s H vs Q E gd (room.deeper _) want
  have stays : ∀ b o, base.get? b = some o → s.heap.get? b = some o := fun b o e => (env.bs b o e).1
  have inK := env.mod.kin.keeps stays
  have kinds : ∀ y ∈ ps.zip us, scope.names.lookup y.1 = some .local ∨ (scope.names.lookup y.1 = some .cell ∧ ((cellsFrom (s.heap.objs.size + 1) scope.names []).lookup y.1).isSome = true) := by
    rintro ⟨n, v⟩ hy
    refine (S.par n (List.of_mem_zip hy).1).imp id fun c => ⟨c, PySem.W.cellsFrom_some _ _ _ (.inl c)⟩
  refine codeAny_call_function room.depth (inK _ _ look) rfl S.co S.gen rfl (PySem.W.codeRec_of inK code) (bind _ _ _ _ ?_)
  refine wpAny_newFunctionEnv_cells S.kind kinds ?_
  rintro env2 rfl s1 x
  refine ⟨(env.mod.nolimit.keeps stays).keeps x.toInCall.keep, codeAny_func ?_⟩
  refine wpAny_mono (runs.run [] s1 (start N vs) H _ (inv_start S room.hd env (len _ _ _ _ want) rel x) reads) ?_ fun _ _ h => h
  intro fl s' hs
  cases fl with
  | brk => exact let ⟨_, _, _, q⟩ := hs; q.elim
  | cont => exact let ⟨_, _, _, q⟩ := hs; q.elim
  | next => exact let ⟨_, H', J, q⟩ := hs; ⟨V.non, H', J.os, J.bare, J.base, J.hok, rfl, q⟩
  | ret u => exact let ⟨v, _, H', J, rv, q⟩ := hs; ⟨v, H', J.os, J.bare, J.base, J.hok, rv, q⟩
end
section
variable {P : Program} {w : World} {K : PySem.W.Frag} {mg : Str → Option Value} {base : Heap} {k : Nat} {f : Addr} {fd : FuncData} {ps N : List Str} {sp : Sp} {x qual : Str} {st : Stmt}
theorem okG (F : Fun K x qual st f fd) (S : FnScope N ps (defScope st)) (len : ∀ vs H Q E, sp vs H Q E → vs.length = ps.length)
    (hbody : ∀ (cdv : Value) (A : Around) (outer : List Env) (s : Shared) (H : Hp) (vs : List V) (Q : VK) (E : XK), A.guards = some [] → Room k (A.deeper (envOfC qual (defScope st) s.heap.objs.size f cdv)) → sp vs H Q E →
      ∃ t, PSs (cxOf CX0 P w K mg base N qual (defScope st) f cdv A outer s H E).nox (defBody st) t ∧ t { nx := fun _ H' => Q .non H', rt := Q } (start N vs) H) : FnG P w K mg base CX0 (k + 1) f fd ps sp := by
  obtain ⟨oc, od, kV, doc, pm, an, cdv, ct, osl, rfl, lk, hcd⟩ := F.ex
  refine fnG_of lk hcd S len fun A outer s H vs Q E gd hr hsp => ?_
  obtain ⟨t, h, q⟩ := hbody cdv A outer s H vs Q E gd hr hsp
  exact ⟨t, h.nox, q⟩
theorem okGC {c : Addr} (F : GE.FunC K x qual st f fd c) (S : FnScope N ps (defScope st)) (len : ∀ vs H Q E, sp vs H Q E → vs.length = ps.length)
    (hbody : ∀ (A : Around) (outer : List Env) (s : Shared) (H : Hp) (vs : List V) (Q : VK) (E : XK), A.guards = some [] → Room k (A.deeper (envOfC qual (defScope st) s.heap.objs.size f (.ref c))) → sp vs H Q E →
      ∃ t, PSs (cxOf CX0 P w K mg base N qual (defScope st) f (.ref c) A outer s H E).nox (defBody st) t ∧ t { nx := fun _ H' => Q .non H', rt := Q } (start N vs) H) : FnG P w K mg base CX0 (k + 1) f fd ps sp := by
  obtain ⟨oc, od, kV, doc, pm, an, ct, osl, rfl, lk, hcd⟩ := F.ex
  refine fnG_of lk hcd S len fun A outer s H vs Q E gd hr hsp => ?_
  obtain ⟨t, h, q⟩ := hbody A outer s H vs Q E gd hr hsp
  exact ⟨t, h.nox, q⟩
end
section
variable {X : Cx} {CX : CXT} {k : Nat} {f : Addr} {fd : FuncData} {ps : List Str} {sp : Sp} {dvs : List V} {ds : List Value} {E : XK} {x : Str} {p pos : Pos} {e : Expr} {es : List Expr} {t : TA}
/-- f(..) -/
theorem pe_callG (F : FnG X.prog X.w X.K X.mg X.base CX k f fd ps sp) (gd : X.A.guards = some []) (hr : Room k X.A) (hg : Gl X x) (hm : X.mg x = some (.ref f)) (hk : PySem.W.keepIn X.K (.ref f) = true) (hb : Binds X.K fd ps ds) (hd : Vals dvs ds) (hx : Passes CX X E)
    (ha : PA X (e :: es) t) (hdb : (x == ("__debug__" : Str)) = false := by decide) (he : starEach (e :: es) X.env = (false, eval e X.env) :: starEach es X.env := by rfl) (hpl : (backTo pos (starEach es X.env)).any (·.1) = false := by rfl) :
    PE X (.Call (.Name x p) (e :: es) [] pos) (tCall sp dvs E t) := by
  constructor
  intro pins s σ H Q I h
  have args := ha.run pos pins s σ H _ I h
  refine wpAny_Call_Name_kw (ld_glob I hg hm (PySem.W.callWith_K (h₀ := X.base) I.ok.mod.kin hk (thn args ?_) he hpl) hdb)
  rintro us s1 ⟨vs, H1, J, r, q⟩
  refine ⟨J.kIn, wpAny_call (codeAny_mono (F.go X.A gd X.stack s1 H1 ⟨us, []⟩ (us ++ ds) (vs ++ dvs) Q E hr J.env0 (hb s1 us J.kIn ?_) (r.append hd) q) ?_)⟩
  · rw [← (r.append hd).length]
    exact F.len _ _ _ _ q
  · intro res s2 hq
    match res, hq with
    | .error e, hq => exact hx pins σ H1 s1 e s2 J hq
    | .ok (.ret u), hq => exact J.after hq
end
end GU
/-! ### repr of things -/
namespace GU
open PySem PySem.Spec PyProof.Rows L2
mutual
def Sh : PyData → Prop
  | .none => True
  | .bool _ => True
  | .int i => i.natAbs.log2 < 1920
  | .str x => ∀ c ∈ x.cps.toList, c < 16 ^ 8
  | .list xs => ShAll xs
  | .tuple xs => ShAll xs
  | .dict _ => False
def ShAll : List PyData → Prop
  | [] => True
  | x :: xs => Sh x ∧ ShAll xs
end
mutual
def cost : PyData → Nat
  | .none => 4
  | .bool _ => 5
  | .int _ => 1921
  | .str x => 10 * x.length + 4
  | .list xs => costAll xs + 3
  | .tuple xs => costAll xs + 3
  | .dict _ => 0
def costAll : List PyData → Nat
  | [] => 0
  | x :: xs => cost x + 2 + costAll xs
end
mutual
theorem sh_ok : ∀ {d : PyData}, Sh d → d.showable = true ∧ d.hasDict = false ∧ d.shown.length ≤ cost d
  | .none, _ => ⟨rfl, rfl, by decide +kernel⟩
  | .bool b, _ => ⟨rfl, rfl, by cases b <;> decide +kernel⟩
  | .int i, h => ⟨decide_eq_true h, rfl, int_text_len_1921 h⟩
  | .str x, h => ⟨rfl, rfl, Nat.le_trans (StrLaws.reprText_len x h) (Nat.add_le_add_left (by decide) _)⟩
  | .list xs, h => by
    obtain ⟨a, b, c⟩ := shAll_ok (xs := xs) h
    refine ⟨by rw [PyData.showable]; exact a, by rw [PyData.hasDict]; exact b, ?_⟩
    rw [PyData.shown, cost]
    exact Nat.le_trans (listText_len_le _) (by omega)
  | .tuple xs, h => by
    obtain ⟨a, b, c⟩ := shAll_ok (xs := xs) h
    refine ⟨by rw [PyData.showable]; exact a, by rw [PyData.hasDict]; exact b, ?_⟩
    rw [PyData.shown, cost]
    exact Nat.le_trans (tupleText_len_le _) (by omega)
  | .dict _, h => h.elim
theorem shAll_ok : ∀ {xs : List PyData}, ShAll xs → PyData.showableAll xs = true ∧ PyData.hasDictAll xs = false ∧ ((PyData.shownAll xs).map (·.length)).sum + 2 * (PyData.shownAll xs).length ≤ costAll xs
  | [], _ => ⟨rfl, rfl, Nat.le_refl _⟩
  | x :: xs, h => by
    obtain ⟨a1, b1, c1⟩ := sh_ok h.1
    obtain ⟨a2, b2, c2⟩ := shAll_ok h.2
    refine ⟨by rw [PyData.showableAll, a1, a2]; rfl, by rw [PyData.hasDictAll, b1, b2]; rfl, ?_⟩
    rw [PyData.shownAll, costAll, List.map_cons, List.sum_cons, List.length_cons]
    omega
end
section
variable {X : Cx} {k : Nat}
/-- repr of any thing of numbers, truths, texts, None, lists and tuples -/
theorem call_reprD (gd : X.A.guards = some []) (hr : Room k X.A) : CallR X (.builtin "repr") (fun xs H Q => ∃ v d, xs = [v] ∧ Dp X.K H v d ∧ Sh d ∧ d.depth ≤ 50 ∧ cost d ≤ sizeLine ∧ Q (.str d.shown) H) := by
  intro pins s σ H xs us Q I r h
  obtain ⟨v, d, rfl, dp, sh, deep, fits, q⟩ := h
  obtain ⟨u, rfl, ru⟩ := vals1 r
  obtain ⟨a, b, c⟩ := sh_ok sh
  have hu := hr.un
  cases dp with
  | non => cases ru; exact PySem.P.repr_of_none ⟨.str _, H, I.tok _, ⟨_, rfl⟩, q⟩
  | bl x => cases ru; exact PySem.P.repr_of_bool ⟨.str _, H, I.tok _, ⟨_, rfl⟩, q⟩
  | int i =>
    obtain ⟨t, rfl⟩ := ru
    exact PySem.P.repr_of_int sh ⟨.str _, H, I.tok _, ⟨_, rfl⟩, q⟩
  | str x =>
    obtain ⟨t, rfl⟩ := ru
    exact PySem.P.repr_of_str ⟨.str _, H, I.tok _, ⟨_, rfl⟩, q⟩ (Nat.le_trans c fits)
  | lst h1 h2 =>
    obtain ⟨as, rd⟩ := Dp.reads I _ _ _ (.lst h1 h2) ru
    cases ru
    exact repr_of_reads' rd a (PyData.noDict_hsm b) gd (by omega) (fun _ _ e => e) (fun h' u tk kp => ⟨.str _, H, I.turnedL (ch := []) (h' := h') (t' := tk) (fun b o _ e => kp b o e) (fun b hb => by cases hb), ⟨_, rfl⟩, q⟩) (Nat.le_trans c fits)
  | tup h1 h2 =>
    obtain ⟨as, rd⟩ := Dp.reads I _ _ _ (.tup h1 h2) ru
    cases ru
    exact repr_of_reads' rd a (PyData.noDict_hsm b) gd (by omega) (fun _ _ e => e) (fun h' u tk kp => ⟨.str _, H, I.turnedL (ch := []) (h' := h') (t' := tk) (fun b o _ e => kp b o e) (fun b hb => by cases hb), ⟨_, rfl⟩, q⟩) (Nat.le_trans c fits)
end
end GU

set_option Elab.async false
set_option linter.all false
set_option maxRecDepth 100000
set_option maxHeartbeats 2000000
/-! Numbers, texts, None and tuples of these, to any depth, as data (NestedKey): what stays, ==, in, <. -/
namespace My
open PySem PySem.Spec PyProof.Rows L2 PySem.SeqAt
mutual
inductive Nk (H : Hp) : V → NestedKey → Prop
  | non : Nk H .non .none
  | int (i : Int) : Nk H (.int i) (.num i)
  | str (z : Str) : Nk H (.str z) (.text z)
  | tup {a : Addr} {xs : List V} {ks : List NestedKey} : H a = some (.tup xs) → NkAll H xs ks → Nk H (.ref a) (.tup ks)
inductive NkAll (H : Hp) : List V → List NestedKey → Prop
  | nil : NkAll H [] []
  | cons {x : V} {k : NestedKey} {xs : List V} {ks : List NestedKey} : Nk H x k → NkAll H xs ks → NkAll H (x :: xs) (k :: ks)
end
/-- all tuples stay -/
def Tups (H H' : Hp) : Prop := ∀ b xs, H b = some (.tup xs) → H' b = some (.tup xs)
theorem Tups.refl (H : Hp) : Tups H H := fun _ _ e => e
theorem Tups.trans {H H1 H2 : Hp} (a : Tups H H1) (b : Tups H1 H2) : Tups H H2 := fun c xs e => b c xs (a c xs e)
theorem Tups.same {H H' : Hp} (s : Same H H') : Tups H H' := fun b xs e => s b _ e
theorem Tups.gk {Ts : List Addr} {H H' : Hp} (g : Gk Ts H H') : Tups H H' := fun b xs e => g.tup e
theorem Tups.kp {t : Addr} {H H' : Hp} {n : Nat} (hT : Tap H t n) (k : Kp t H H') : Tups H H' := fun b xs e => k b _ (fun z => by
  obtain ⟨_, _, _, _, _, e1, _⟩ := hT
  rw [z, e1] at e
  cases e) e
mutual
theorem Nk.at {H H' : Hp} (t : Tups H H') : ∀ {k : NestedKey} {v : V}, Nk H v k → Nk H' v k
  | .none, _, .non => .non
  | .num _, _, .int i => .int i
  | .text _, _, .str z => .str z
  | .tup _, _, .tup e h => .tup (t _ _ e) (NkAll.at t h)
theorem NkAll.at {H H' : Hp} (t : Tups H H') : ∀ {ks : List NestedKey} {xs : List V}, NkAll H xs ks → NkAll H' xs ks
  | [], _, .nil => .nil
  | _ :: _, _, .cons h r => .cons (h.at t) (r.at t)
end
mutual
theorem Nk.inj {H : Hp} : ∀ {k k' : NestedKey} {v : V}, Nk H v k → Nk H v k' → k = k'
  | .none, _, _, .non, h => by cases h; rfl
  | .num _, _, _, .int i, h => by cases h; rfl
  | .text _, _, _, .str z, h => by cases h; rfl
  | .tup _, _, _, .tup e a, h => by
    cases h with
    | tup e2 b =>
      rw [e] at e2
      cases e2
      rw [NkAll.inj a b]
theorem NkAll.inj {H : Hp} : ∀ {ks ks' : List NestedKey} {xs : List V}, NkAll H xs ks → NkAll H xs ks' → ks = ks'
  | [], _, _, .nil, h => by cases h; rfl
  | _ :: _, _, _, .cons a r, h => by
    cases h with
    | cons b t => rw [Nk.inj a b, NkAll.inj r t]
end
mutual
theorem Nk.dp {K : PySem.W.Frag} {H : Hp} : ∀ {k : NestedKey} {v : V}, Nk H v k → Dp K H v k.data
  | .none, _, .non => .non
  | .num _, _, .int i => .int i
  | .text _, _, .str z => .str z
  | .tup _, _, .tup e h => .tup (.inl (.inl e)) (NkAll.dp h)
theorem NkAll.dp {K : PySem.W.Frag} {H : Hp} : ∀ {ks : List NestedKey} {xs : List V}, NkAll H xs ks → DpAll K H xs (NestedKey.datas ks)
  | [], _, .nil => .nil
  | _ :: _, _, .cons h r => .cons h.dp r.dp
end
theorem NkAll.length {H : Hp} : ∀ {ks : List NestedKey} {xs : List V}, NkAll H xs ks → xs.length = ks.length
  | [], _, .nil => rfl
  | _ :: _, _, .cons _ r => congrArg (· + 1) r.length
theorem NkAll.get {H : Hp} : ∀ {ks : List NestedKey} {xs : List V} {i : Nat} {x : V}, NkAll H xs ks → xs[i]? = some x → ∃ k, ks[i]? = some k ∧ Nk H x k
  | [], _, _, _, .nil, e => by simp at e
  | k :: _, _, 0, _, .cons h _, e => ⟨k, rfl, by cases e; exact h⟩
  | _ :: _, _, i + 1, _, .cons _ r, e => r.get (i := i) (by simpa using e)
theorem NkAll.get' {H : Hp} : ∀ {ks : List NestedKey} {xs : List V} {i : Nat} {k : NestedKey}, NkAll H xs ks → ks[i]? = some k → ∃ x, xs[i]? = some x ∧ Nk H x k
  | [], _, _, _, .nil, e => by simp at e
  | _ :: _, x :: _, 0, _, .cons h _, e => ⟨x, rfl, by cases e; exact h⟩
  | _ :: _, _, i + 1, _, .cons _ r, e => r.get' (i := i) (by simpa using e)
theorem NkAll.app {H : Hp} : ∀ {ks ls : List NestedKey} {xs ys : List V}, NkAll H xs ks → NkAll H ys ls → NkAll H (xs ++ ys) (ks ++ ls)
  | [], _, _, _, .nil, h => h
  | _ :: _, _, _, _, .cons a r, h => .cons a (r.app h)
section
variable {X : Cx} {pins : List (Addr × Obj)} {σ : L2.St} {H : Hp} {s : Shared}
mutual
theorem Nk.is (I : Inv X pins σ H s) : ∀ {k : NestedKey} {v : V} {u : Value}, Nk H v k → RelV v u → NestedIs s.heap k u
  | .none, _, _, .non, r => by cases r; exact .none
  | .num _, _, _, .int i, r => by obtain ⟨t, rfl⟩ := r; exact .int i t
  | .text _, _, _, .str z, r => by obtain ⟨t, rfl⟩ := r; exact .text z t
  | .tup _, _, _, .tup e h, r => by
    cases r
    obtain ⟨_, its, rv, ⟨o, ho, hc, n, hd⟩⟩ := I.hok _ _ e
    exact .tup ho hc hd (NkAll.is I h (by simpa using rv))
theorem NkAll.is (I : Inv X pins σ H s) : ∀ {ks : List NestedKey} {xs : List V} {us : List Value}, NkAll H xs ks → Vals xs us → NestedAll s.heap ks us
  | [], _, _, .nil, r => by cases r; exact .nil
  | _ :: _, _, _, .cons a h, r => by
    cases r with
    | cons r1 r2 => exact .cons (a.is I r1) (h.is I r2)
end
end
/-! ### in -/
open Classical in
noncomputable def eqK (h : Heap) (k : NestedKey) (y : Value) : Bool := decide (NestedIs h k y)
theorem eqK_is {h : Heap} {k k' : NestedKey} {y : Value} (hy : NestedIs h k' y) : eqK h k y = decide (k' = k) := by
  unfold eqK
  by_cases e : k' = k
  · subst e
    rw [@decide_eq_true _ (Classical.propDecidable _) hy, decide_eq_true rfl]
  · rw [decide_eq_false e]
    exact @decide_eq_false _ (Classical.propDecidable _) fun z => e (NestedIs.inj _ _ _ hy z)
theorem any_eqK {h : Heap} {k : NestedKey} : ∀ {ks : List NestedKey} {us : List Value}, NestedAll h ks us → us.any (eqK h k) = decide (k ∈ ks)
  | [], _, .nil => rfl
  | k' :: ks, _, .cons a r => by
    rw [List.any_cons, any_eqK r, eqK_is a, Bool.eq_iff_iff]
    simp only [Bool.or_eq_true, decide_eq_true_eq, List.mem_cons]
    exact or_congr ⟨Eq.symm, Eq.symm⟩ Iff.rfl
theorem all_is {h : Heap} : ∀ {ks : List NestedKey} {us : List Value} {y : Value}, NestedAll h ks us → y ∈ us → ∃ k, k ∈ ks ∧ NestedIs h k y
  | [], _, _, .nil, e => by cases e
  | k :: _, _, _, .cons a r, e => by
    rcases List.mem_cons.mp e with e | e
    · exact ⟨k, .head _, e ▸ a⟩
    · obtain ⟨k2, h2, h3⟩ := all_is r e
      exact ⟨k2, .tail _ h2, h3⟩
def rInN (K : PySem.W.Frag) (neg : Bool) : R2 := fun x y H Q => ∃ (p : Addr) (xs : List V) (k : NestedKey) (ks : List NestedKey), y = .ref p ∧ (SqL K H p xs ∨ SqT K H p xs) ∧ Nk H x k ∧ NkAll H xs ks ∧ k.depth ≤ 50 ∧
  Q (.bl (if neg then !decide (k ∈ ks) else decide (k ∈ ks))) H
section
variable {X : Cx}
theorem in_run {pins : List (Addr × Obj)} {σ : L2.St} {H : Hp} {s : Shared} {its : List Value} {xs : List V} {ks : List NestedKey} {k : NestedKey} {x : V} {v : Value} (I : Inv X pins σ H s) (hu : X.A.units + 64 < cLine) (r : Vals xs its) (hx : Nk H x k) (rx : RelV x v) (hk : NkAll H xs ks) (hd : k.depth ≤ 50) :
    its.toArray.any (eqK s.heap k) = decide (k ∈ ks) ∧ ∀ y, y ∈ its.toArray → EqAt X.A.in1 s y v (eqK s.heap k y) := by
  have ha := hk.is I r
  refine ⟨by rw [show its.toArray.any (eqK s.heap k) = its.any (eqK s.heap k) by simp, any_eqK ha], fun y hy => ?_⟩
  obtain ⟨k', _, h'⟩ := all_is ha (by simpa using hy)
  rw [eqK_is h', NestedKey.decide_eq]
  exact eqAt_key k' k X.A.in1 s y v h' (hx.is I rx) (by show X.A.units + 1 + _ < _; omega)
theorem op_notInN (hu : X.A.units + 64 < cLine) : OpR X (compareOp .NotIn) (rInN X.K true) := by
  intro pins s σ H x y v u Q I rx ry h
  obtain ⟨p, xs, k, ks, rfl, hq, hx, hk, hd, q⟩ := h
  cases ry
  rcases hq with hq | hq
  · obtain ⟨its, r, pl, hz⟩ := I.list hq
    obtain ⟨e1, e2⟩ := in_run I hu r hx rx hk hd
    refine notIn_listAt (eqK s.heap k) pl.isList e2 ⟨.bl _, H, I, rfl, ?_⟩
    rw [e1]
    exact q
  · obtain ⟨its, r, pl, hz⟩ := I.tuple hq
    obtain ⟨e1, e2⟩ := in_run I hu r hx rx hk hd
    refine notIn_tupleAt (eqK s.heap k) pl e2 ⟨.bl _, H, I, rfl, ?_⟩
    rw [e1]
    exact q
theorem op_inN (hu : X.A.units + 64 < cLine) : OpR X (compareOp .In) (rInN X.K false) := by
  intro pins s σ H x y v u Q I rx ry h
  obtain ⟨p, xs, k, ks, rfl, hq, hx, hk, hd, q⟩ := h
  cases ry
  rcases hq with hq | hq
  · obtain ⟨its, r, pl, hz⟩ := I.list hq
    obtain ⟨e1, e2⟩ := in_run I hu r hx rx hk hd
    refine in_listAt (eqK s.heap k) pl.isList e2 ⟨.bl _, H, I, rfl, ?_⟩
    rw [e1]
    exact q
  · obtain ⟨its, r, pl, hz⟩ := I.tuple hq
    obtain ⟨e1, e2⟩ := in_run I hu r hx rx hk hd
    refine in_tupleAt (eqK s.heap k) pl e2 ⟨.bl _, H, I, rfl, ?_⟩
    rw [e1]
    exact q
end
end My

set_option Elab.async false
set_option linter.all false
set_option maxRecDepth 100000
set_option maxHeartbeats 2000000
/-! x < y of numbers, texts and tuples of these: the first place that differs decides, what stands behind it may be of any kinds. -/
namespace My
open PySem PySem.Spec PyProof.Rows L2 PySem.SeqAt
mutual
/-- what Python's x < y tells, where it tells anything -/
def ltK : NestedKey → NestedKey → Option Bool
  | .num a, .num b => some (decide (a < b))
  | .text x, .text y => some (decide (x.cps.toList < y.cps.toList))
  | .tup xs, .tup ys => ltAll xs ys
  | _, _ => none
def ltAll : List NestedKey → List NestedKey → Option Bool
  | [], [] => some false
  | [], _ :: _ => some true
  | _ :: _, [] => some false
  | x :: xs, y :: ys => if x = y then ltAll xs ys else ltK x y
end
mutual
/-- a value that is such a thing (a truth is none) -/
inductive Ns (h : Heap) : NestedKey → Value → Prop
  | none : Ns h .none .none
  | int (i : Int) (t : Tok) : Ns h (.num i) (.int i t)
  | text (x : Str) (t : Tok) : Ns h (.text x) (.str x t)
  | tup {a : Addr} {o : Obj} {vs : Array Value} {n : Nat} {ks : List NestedKey} : h.get? a = some o → o.cls = .type "tuple" → o.data = .seq vs n → NsAll h ks vs.toList → Ns h (.tup ks) (.ref a)
inductive NsAll (h : Heap) : List NestedKey → List Value → Prop
  | nil : NsAll h [] []
  | cons {k : NestedKey} {v : Value} {ks : List NestedKey} {vs : List Value} : Ns h k v → NsAll h ks vs → NsAll h (k :: ks) (v :: vs)
end
mutual
theorem Ns.is {h : Heap} : ∀ {k : NestedKey} {v : Value}, Ns h k v → NestedIs h k v
  | .none, _, .none => .none
  | .num _, _, .int i t => .int i t
  | .text _, _, .text x t => .text x t
  | .tup _, _, .tup e c d r => .tup e c d (NsAll.is r)
theorem NsAll.is {h : Heap} : ∀ {ks : List NestedKey} {vs : List Value}, NsAll h ks vs → NestedAll h ks vs
  | [], _, .nil => .nil
  | _ :: _, _, .cons a r => .cons a.is r.is
end
section
variable {X : Cx} {pins : List (Addr × Obj)} {σ : L2.St} {H : Hp} {s : Shared}
mutual
theorem Nk.ns (I : Inv X pins σ H s) : ∀ {k : NestedKey} {v : V} {u : Value}, Nk H v k → RelV v u → Ns s.heap k u
  | .none, _, _, .non, r => by cases r; exact .none
  | .num _, _, _, .int i, r => by obtain ⟨t, rfl⟩ := r; exact .int i t
  | .text _, _, _, .str z, r => by obtain ⟨t, rfl⟩ := r; exact .text z t
  | .tup _, _, _, .tup e h, r => by
    cases r
    obtain ⟨_, its, rv, ⟨o, ho, hc, n, hd⟩⟩ := I.hok _ _ e
    exact .tup ho hc hd (NkAll.ns I h (by simpa using rv))
theorem NkAll.ns (I : Inv X pins σ H s) : ∀ {ks : List NestedKey} {xs : List V} {us : List Value}, NkAll H xs ks → Vals xs us → NsAll s.heap ks us
  | [], _, _, .nil, r => by cases r; exact .nil
  | _ :: _, _, _, .cons a h, r => by
    cases r with
    | cons r1 r2 => exact .cons (a.ns I r1) (h.ns I r2)
end
end
theorem depth_mem : ∀ {xs : List NestedKey} {x : NestedKey}, x ∈ xs → x.depth ≤ NestedKey.depthAll xs
  | _ :: _, _, .head _ => by rw [NestedKey.depthAll]; omega
  | _ :: _, _, .tail _ h => by have := depth_mem h; rw [NestedKey.depthAll]; omega
section
open AutoSeq1 (wpAny_loadPart')
open MeetsSeq MeetsSeq2 MeetsSeq3 SeqRoads2
theorem tuple_ltK (l b : Addr) (items items2 : Array Value) (n n2 : Nat) (dd dd2 : Option Addr) (sl sl2 : Array (Option Value)) (xs ys : List NestedKey) (k : Bool) :
    Meets (Builtin.«tuple.__lt__» ⟨[.ref l, .ref b], []⟩) (fun A R s => s.heap.get? l = some ⟨.type "tuple", dd, .seq items n, sl⟩ ∧ s.heap.get? b = some ⟨.type "tuple", dd2, .seq items2 n2, sl2⟩ ∧
      NsAll s.heap xs items.toList ∧ NsAll s.heap ys items2.toList ∧ ltAll xs ys = some k ∧
      (∀ x ∈ xs, ∀ y u v, Ns s.heap x u → Ns s.heap y v → EqAt A.in1 s u v (decide (x = y))) ∧
      (∀ x ∈ xs, ∀ y u v c, Ns s.heap x u → Ns s.heap y v → ltK x y = some c → RcLt A.in1 s u v c) ∧ R (.ok (.ret (.bool k))) s) := by
  refine .of_wp fun prog w A R s h => ?_
  obtain ⟨hp, g, d, tk, os⟩ := s
  obtain ⟨hl, hb, h1, h2, hk, heq, hlt, h⟩ := h
  have f2 := AutoSeq1.sub_tuple_tuple
  wp_walk using wpAny_loadPart' hl, wpAny_loadPart' hb, wpAny_forIn_list _ (fun rest c s' => c.1 = none ∧ s' = ⟨hp, g, d, tk, os⟩ ∧ ∃ xs' ys' us vs, rest = List.zip us vs ∧ NsAll hp xs' us ∧ NsAll hp ys' vs ∧ (∀ x ∈ xs', x ∈ xs) ∧
    ltAll xs' ys' = some k ∧ us.length + items2.size = vs.length + items.size) _
  case turn =>
    rintro ⟨u, v⟩ rest c s' ⟨hc, rfl, xs', ys', us, vs, hz, a1, a2, sub, hk', hn⟩
    cases a1 with
    | nil => simp at hz
    | @cons x _ xs2 us2 p1 q1 =>
      cases a2 with
      | nil => simp at hz
      | @cons y _ ys2 vs2 p2 q2 =>
        rw [List.zip_cons_cons] at hz
        cases hz
        refine wpAny_bind (heq x (sub x (.head _)) y _ _ p1 p2 prog w _ _ ?_)
        by_cases e : x = y
        · rw [ltAll, if_pos e] at hk'
          rw [decide_eq_true e]
          wp_walk
          exact ⟨rfl, rfl, xs2, ys2, us2, vs2, rfl, q1, q2, fun z hz => sub z (.tail _ hz), hk', by simp only [List.length_cons] at hn; omega⟩
        · rw [ltAll, if_neg e] at hk'
          rw [decide_eq_false e, if_pos (by decide)]
          dsimp only
          refine wpAny_bind (wpAny_rule ?_)
          refine wpAny_bind (hlt x (sub x (.head _)) y _ _ k p1 p2 hk' prog w _ _ ?_)
          wp_walk
          exact ⟨_, rfl, h⟩
  case fin =>
    rintro ⟨c1, c2⟩ s' ⟨hc, rfl, xs', ys', us, vs, hz, a1, a2, sub, hk', hn⟩
    simp only at hc
    subst hc
    have fin : decide (items.size < items2.size) = k := by
      cases a1 with
      | nil =>
        cases a2 with
        | nil =>
          rw [ltAll] at hk'
          cases hk'
          simp only [List.length_nil] at hn
          exact decide_eq_false (by omega)
        | cons _ _ =>
          rw [ltAll] at hk'
          cases hk'
          simp only [List.length_nil, List.length_cons] at hn
          exact decide_eq_true (by omega)
      | cons _ _ =>
        cases a2 with
        | nil =>
          rw [ltAll] at hk'
          cases hk'
          simp only [List.length_nil, List.length_cons] at hn
          exact decide_eq_false (by omega)
        | cons _ _ => simp at hz
    wp_walk
    refine ⟨_, rfl, ?_⟩
    rw [← fin] at h
    simpa [Builtin.Tuple.tupleCompareSizes] using h
  case h => exact ⟨rfl, rfl, xs, ys, _, _, rfl, h1, h2, fun _ h => h, hk, by simp; omega⟩
theorem rcLt_num {A : Around} {s : Shared} {i j : Int} {t u : Tok} {k : Bool} (e : ltK (.num i) (.num j) = some k) : RcLt A s (.int i t) (.int j u) k := by
  rw [ltK] at e
  cases e
  exact fun prog w E Q h => PyProof.Rows.lt_int h
theorem rcLt_text {A : Around} {s : Shared} {x y : Str} {t u : Tok} {k : Bool} (e : ltK (.text x) (.text y) = some k) : RcLt A s (.str x t) (.str y u) k := by
  rw [ltK] at e
  cases e
  exact fun prog w E Q h => PySem.P.lt_str h
theorem rcLt_tup {A : Around} {s : Shared} {l b : Addr} {o o2 : Obj} {items items2 : Array Value} {n n2 : Nat} {xs ys : List NestedKey} {k : Bool} (ho : s.heap.get? l = some o) (hc : o.cls = .type "tuple") (hd : o.data = .seq items n) (r : NsAll s.heap xs items.toList)
    (ho2 : s.heap.get? b = some o2) (hc2 : o2.cls = .type "tuple") (hd2 : o2.data = .seq items2 n2) (r2 : NsAll s.heap ys items2.toList) (e : ltAll xs ys = some k) (hu : A.units + (NestedKey.depthAll xs + 1) < cLine)
    (ih : ∀ x ∈ xs, ∀ y u v c, Ns s.heap x u → Ns s.heap y v → ltK x y = some c → RcLt A.in1 s u v c) : RcLt A s (.ref l) (.ref b) k := fun prog w E Q h => by
  obtain ⟨cls, dd, data, sl⟩ := o
  obtain ⟨cls2, dd2, data2, sl2⟩ := o2
  simp only at hc hd hc2 hd2
  subst hc hd hc2 hd2
  refine richCompare_meets_room (op := .Lt) ⟨_, ho, rfl⟩ ⟨_, ho2, rfl⟩ F.slot_tuple_lt F.entry_tuple_lt (F.args_tuple_lt_2 _ _) (tuple_ltK l b items items2 n n2 dd dd2 sl sl2 xs ys k)
    ⟨ho, ho2, r, r2, e, fun x hx y u v p q => ?_, ih, (fun x => nomatch x), h⟩ (by omega)
  rw [NestedKey.decide_eq]
  have := depth_mem hx
  exact eqAt_key x y A.in1 s u v p.is q.is (by show A.units + 1 + min x.depth y.depth < cLine; omega)
end
end My

set_option Elab.async false
set_option linter.all false
set_option maxRecDepth 100000
set_option maxHeartbeats 2000000
namespace My
open PySem PySem.Spec PyProof.Rows L2 PySem.SeqAt
theorem depth_tup (xs : List NestedKey) : (NestedKey.tup xs).depth = NestedKey.depthAll xs + 1 := by rw [NestedKey.depth]
theorem rcLtN : ∀ (n : Nat) {x y : NestedKey} {A : Around} {s : Shared} {a b : Value} {k : Bool}, x.depth ≤ n → Ns s.heap x a → Ns s.heap y b → ltK x y = some k → A.units + n < cLine → RcLt A s a b k := by
  intro n
  induction n with
  | zero =>
    intro x y A s a b k hd p q e hu
    cases p with
    | none => cases q <;> simp [ltK] at e
    | int i t => cases q with
      | int j u => exact rcLt_num e
      | _ => simp [ltK] at e
    | text i t => cases q with
      | text j u => exact rcLt_text e
      | _ => simp [ltK] at e
    | tup _ _ _ _ => rw [depth_tup] at hd; omega
  | succ n ih =>
    intro x y A s a b k hd p q e hu
    cases p with
    | none => cases q <;> simp [ltK] at e
    | int i t => cases q with
      | int j u => exact rcLt_num e
      | _ => simp [ltK] at e
    | text i t => cases q with
      | text j u => exact rcLt_text e
      | _ => simp [ltK] at e
    | tup ho hc hdd r => cases q with
      | tup ho2 hc2 hd2 r2 =>
        rw [ltK] at e
        rw [depth_tup] at hd
        refine rcLt_tup ho hc hdd r ho2 hc2 hd2 r2 e (by omega) fun x hx y u v c p q ec => ?_
        have := depth_mem hx
        exact ih (by omega) p q ec (by show A.units + 1 + n < cLine; omega)
      | _ => simp [ltK] at e
def rLtN : R2 := fun x y H Q => ∃ (a b : NestedKey) (k : Bool), Nk H x a ∧ Nk H y b ∧ a.depth ≤ 50 ∧ ltK a b = some k ∧ Q (.bl k) H
theorem op_ltN {X : Cx} (hu : X.A.units + 64 < cLine) : OpR X (compareOp .Lt) rLtN := by
  intro pins s σ H x y v u Q I rx ry h
  obtain ⟨a, b, k, ha, hb, hd, e, q⟩ := h
  exact rcLtN 50 hd (ha.ns I rx) (hb.ns I ry) e (by omega) X.prog X.w _ _ ⟨.bl _, H, I, rfl, q⟩
end My

set_option Elab.async false
set_option linter.all false
set_option maxRecDepth 100000
set_option maxHeartbeats 2000000
/-! Sorting by keys that are tuples with a number first, the first place that differs decides. -/
namespace My
open PySem PySem.Spec PyProof.Rows L2 PySem.SeqAt PySem.W
abbrev toks (k : NestedKey) : List (Int ⊕ List Nat) := keyToks k.data
abbrev toksAll (ks : List NestedKey) : List (Int ⊕ List Nat) := keyToksAll (NestedKey.datas ks)
abbrev lexT (a b : List (Int ⊕ List Nat)) : Bool := PyProof.Rows.lexLt itemOrd a b
theorem toks_num (i : Int) : toks (.num i) = [.inl i] := by unfold toks; rw [NestedKey.data, keyToks]
theorem toks_text (x : Str) : toks (.text x) = [.inr x.cps.toList] := by unfold toks; rw [NestedKey.data, keyToks]
theorem toks_tup (ks : List NestedKey) : toks (.tup ks) = toksAll ks := by unfold toks toksAll; rw [NestedKey.data, keyToks]
theorem toksAll_nil : toksAll [] = [.inl 0] := by unfold toksAll; rw [NestedKey.datas, keyToksAll]
theorem toksAll_cons (k : NestedKey) (ks : List NestedKey) : toksAll (k :: ks) = .inl 1 :: (toks k ++ toksAll ks) := by unfold toks toksAll; rw [NestedKey.datas, keyToksAll]
theorem lexT_int {i j : Int} (ne : i ≠ j) (l m : List (Int ⊕ List Nat)) : lexT (.inl i :: l) (.inl j :: m) = decide (i < j) := by
  unfold lexT
  rw [lex_diff (O := itemOrd) (by intro z; cases z; exact ne rfl)]
  rfl
theorem lexT_str {x y : Str} (ne : x ≠ y) (l m : List (Int ⊕ List Nat)) : lexT (.inr x.cps.toList :: l) (.inr y.cps.toList :: m) = decide (x.cps.toList < y.cps.toList) := by
  have h1 := lex_atom (p := .inr x.cps.toList) (q := .inr y.cps.toList) (fun z => ne (str_of_cps (Sum.inr.inj z))) l m
  have h2 := dataLt_str x y
  unfold dataLt at h2
  simp only [keyToks] at h2
  exact h1.trans h2
mutual
theorem lex_key : ∀ (x y : NestedKey) (c : Bool) (l m : List (Int ⊕ List Nat)), x ≠ y → ltK x y = some c → lexT (toks x ++ l) (toks y ++ m) = c
  | .num i, .num j, c, l, m, ne, e => by
    rw [ltK] at e
    cases e
    rw [toks_num, toks_num]
    exact lexT_int (fun z => ne (by rw [z])) _ _
  | .text x, .text y, c, l, m, ne, e => by
    rw [ltK] at e
    cases e
    rw [toks_text, toks_text]
    exact lexT_str (fun z => ne (by rw [z])) _ _
  | .tup xs, .tup ys, c, l, m, ne, e => by
    rw [ltK] at e
    rw [toks_tup, toks_tup]
    exact lex_keys xs ys c l m (fun z => ne (by rw [z])) e
  | .none, y, c, l, m, ne, e => by cases y <;> simp [ltK] at e
  | .num i, .none, c, l, m, ne, e => by simp [ltK] at e
  | .num i, .text _, c, l, m, ne, e => by simp [ltK] at e
  | .num i, .tup _, c, l, m, ne, e => by simp [ltK] at e
  | .text i, .none, c, l, m, ne, e => by simp [ltK] at e
  | .text i, .num _, c, l, m, ne, e => by simp [ltK] at e
  | .text i, .tup _, c, l, m, ne, e => by simp [ltK] at e
  | .tup i, .none, c, l, m, ne, e => by simp [ltK] at e
  | .tup i, .num _, c, l, m, ne, e => by simp [ltK] at e
  | .tup i, .text _, c, l, m, ne, e => by simp [ltK] at e
theorem lex_keys : ∀ (xs ys : List NestedKey) (c : Bool) (l m : List (Int ⊕ List Nat)), xs ≠ ys → ltAll xs ys = some c → lexT (toksAll xs ++ l) (toksAll ys ++ m) = c
  | [], [], c, l, m, ne, e => absurd rfl ne
  | [], y :: ys, c, l, m, ne, e => by
    rw [ltAll] at e
    cases e
    rw [toksAll_nil, toksAll_cons]
    exact lexT_int (by decide) _ _
  | x :: xs, [], c, l, m, ne, e => by
    rw [ltAll] at e
    cases e
    rw [toksAll_nil, toksAll_cons]
    exact lexT_int (by decide) _ _
  | x :: xs, y :: ys, c, l, m, ne, e => by
    rw [ltAll] at e
    rw [toksAll_cons, toksAll_cons]
    show lexT (.inl 1 :: (toks x ++ toksAll xs ++ l)) (.inl 1 :: (toks y ++ toksAll ys ++ m)) = c
    unfold lexT
    rw [lex_self (O := itemOrd), List.append_assoc, List.append_assoc]
    by_cases h : x = y
    · rw [if_pos h] at e
      subst h
      rw [lex_pre]
      exact lex_keys xs ys c l m (fun z => ne (by rw [z])) e
    · rw [if_neg h] at e
      exact lex_key x y c _ _ h e
end
theorem ltAll_self : ∀ xs : List NestedKey, ltAll xs xs = some false
  | [] => by rw [ltAll]
  | x :: xs => by rw [ltAll, if_pos rfl, ltAll_self xs]
theorem lex_tup {xs ys : List NestedKey} {c : Bool} (e : ltAll xs ys = some c) : lexT (toks (.tup xs)) (toks (.tup ys)) = c := by
  rw [toks_tup, toks_tup]
  by_cases h : xs = ys
  · subst h
    rw [ltAll_self] at e
    cases e
    exact lex_irrefl _
  · have := lex_keys xs ys c [] [] h e
    rwa [List.append_nil, List.append_nil] at this
open Classical in
/-- the kind of keys that such things make in a heap -/
noncomputable def nkKind (h : Heap) (ks : List NestedKey) : PyProof.Rows.KeyKind where
  toKeyOrd := listOrd itemOrd
  keyOf v := if q : ∃ k, k ∈ ks ∧ Ns h k v then some (toks q.choose) else none
  dflt := ([] : List (Int ⊕ List Nat))
theorem nk_some {h : Heap} {ks : List NestedKey} {k : NestedKey} {v : Value} (hk : k ∈ ks) (hv : Ns h k v) : (nkKind h ks).keyOf v = some (toks k) := by
  have q : ∃ k, k ∈ ks ∧ Ns h k v := ⟨k, hk, hv⟩
  have e : (nkKind h ks).keyOf v = some (toks q.choose) := dif_pos q
  rw [e, NestedIs.inj _ _ _ q.choose_spec.2.is hv.is]
theorem nk_inv {h : Heap} {ks : List NestedKey} {v : Value} {t : List (Int ⊕ List Nat)} (e : (nkKind h ks).keyOf v = some t) : ∃ k, k ∈ ks ∧ Ns h k v ∧ t = toks k := by
  by_cases q : ∃ k, k ∈ ks ∧ Ns h k v
  · have e2 : (nkKind h ks).keyOf v = some (toks q.choose) := dif_pos q
    rw [e2] at e
    exact ⟨_, q.choose_spec.1, q.choose_spec.2, (Option.some.inj e).symm⟩
  · have e2 : (nkKind h ks).keyOf v = none := dif_neg q
    rw [e2] at e
    cases e
end My

set_option Elab.async false
set_option linter.all false
set_option maxRecDepth 100000
set_option maxHeartbeats 2000000
namespace My
open PySem PySem.Spec PyProof.Rows L2 PySem.SeqAt PySem.W
section
variable {prog : Program} {w : World} {A : Around} {E : Value → Shared → Prop} {s : Shared}
theorem one_ltN {f : Bool} {x y : NestedKey} {a b : Value} {c : Bool} {n : Nat} {Q : Bool → Shared → Prop} (hf : f = true → ∃ i, x = .num i) (p : Ns s.heap x a) (q : Ns s.heap y b) (e : ltK x y = some c) (hd : x.depth ≤ n) (hu : A.units + n < cLine) (hq : Q c s) :
    wpAny (model prog w) A (oneLt' f a b) Q E s := by
  cases f with
  | false =>
    rw [oneLt'_eq]
    simp only [Bool.false_eq_true, if_false]
    exact wpAny_bind (rcLtN n hd p q e hu prog w E _ (wpAny_truthy_bool hq))
  | true =>
    obtain ⟨i, rfl⟩ := hf rfl
    cases p
    cases q with
    | int j u =>
      rw [ltK] at e
      cases e
      exact oneLt_int hq
    | _ => simp [ltK] at e
theorem katLexN {b fin : Bool} {n : Nat} {Q : Bool → Shared → Prop} : ∀ (xs ys : List NestedKey) (i : Nat) (us vs : List Value) (c : Bool), NsAll s.heap xs us → NsAll s.heap ys vs → ltAll xs ys = some c → (∀ x ∈ xs, x.depth ≤ n) → A.units + n < cLine →
    (b = true → i = 0 → ∀ x r, xs = x :: r → ∃ j, x = .num j) → fin = decide (us.length < vs.length) → Q c s → KatLex prog w A b fin Q (us.zip vs) i s
  | [], [], i, _, _, c, .nil, .nil, e, _, _, _, hf, hq => by
    rw [ltAll] at e
    cases e
    subst hf
    exact kat_nil hq
  | [], y :: ys, i, _, _, c, .nil, .cons q qs, e, _, _, _, hf, hq => by
    rw [ltAll] at e
    cases e
    subst hf
    exact kat_nil (by simpa using hq)
  | x :: xs, [], i, _, _, c, .cons p ps, .nil, e, _, _, _, hf, hq => by
    rw [ltAll] at e
    cases e
    subst hf
    exact kat_nil (by simpa using hq)
  | x :: xs, y :: ys, i, _, _, c, .cons p ps, .cons q qs, e, hd, hu, hb, hf, hq => by
    rw [List.zip_cons_cons]
    have dx := hd x (.head _)
    refine kat_cons (eqAt_key x y A s _ _ p.is q.is (by omega) prog w _ _ ?_)
    rw [← NestedKey.decide_eq]
    rw [ltAll] at e
    by_cases h : x = y
    · rw [if_pos h] at e
      rw [decide_eq_true h]
      exact kat_yes (katLexN xs ys (i + 1) _ _ c ps qs e (fun z hz => hd z (.tail _ hz)) hu (fun _ hi => absurd hi (Nat.succ_ne_zero i)) (by rw [hf]; simp) hq)
    · rw [if_neg h] at e
      rw [decide_eq_false h]
      refine kat_no (one_ltN (n := n) (fun hb2 => ?_) p q e dx hu hq)
      rw [Bool.and_eq_true, beq_iff_eq] at hb2
      exact hb hb2.1 hb2.2 x xs rfl
theorem each_tups {h : Heap} : ∀ {vs : List Value} {ks : List NestedKey}, EachIs (fun v k => Ns h k v) vs ks → (∀ k ∈ ks, ∃ i r, k = .tup (.num i :: r)) → ∃ fs, KatTups h vs fs ∧ fs.length = vs.length ∧ ∀ f ∈ fs, ∃ i t, f = Value.int i t
  | _, _, .nil, _ => ⟨[], KatTups.nil, rfl, fun f hf => by cases hf⟩
  | _, _, .cons (b := k) p t, hk => by
    obtain ⟨fs, h1, h2, h3⟩ := each_tups t fun k hk2 => hk k (.tail _ hk2)
    obtain ⟨i, r, rfl⟩ := hk k (.head _)
    cases p with
    | @tup a o vs n _ ho hc hd hr =>
      cases q : vs.toList with
      | nil => rw [q] at hr; cases hr
      | cons f fr =>
        rw [q] at hr
        cases hr with
        | cons p1 p2 =>
          obtain ⟨u, rfl⟩ : ∃ u, f = Value.int i u := by cases p1; exact ⟨_, rfl⟩
          refine ⟨_ :: fs, KatTups.cons ho hc hd (by rw [← Array.getElem?_toList, q]; rfl) h1, by rw [List.length_cons, List.length_cons, h2], fun g hg => ?_⟩
          rcases List.mem_cons.mp hg with rfl | hg
          · exact ⟨_, _, rfl⟩
          · exact h3 g hg
theorem sortsN {vs : List Value} {ks : List NestedKey} {n : Nat} (e : EachIs (fun v k => Ns s.heap k v) vs ks) (hh : ∀ k ∈ ks, ∃ i r, k = .tup (.num i :: r)) (hc : ∀ k ∈ ks, ∀ k' ∈ ks, ∃ c, ltK k k' = some c) (hd : ∀ k ∈ ks, k.depth ≤ n) (hu : A.units + n < cLine) :
    SortsAt prog w A s (nkKind s.heap ks) vs := by
  refine ⟨fun v hv => ?_, tuples' ((Value.type "int") != Value.type "tuple"), ?_, fun h2 E Q hq => ?_⟩
  · obtain ⟨k, hk, p⟩ := e.left v hv
    exact ⟨_, nk_some hk p⟩
  · intro E x y a b Q ha hb hq
    obtain ⟨k, hk, p, rfl⟩ := nk_inv ha
    obtain ⟨k', hk', p', rfl⟩ := nk_inv hb
    obtain ⟨c, ec⟩ := hc k hk k' hk'
    have dk := hd k hk
    obtain ⟨i, r, rfl⟩ := hh k hk
    obtain ⟨i', r', rfl⟩ := hh k' hk'
    rw [depth_tup] at dk
    rw [ltK] at ec
    have hq : Q (lexT (toks (.tup (.num i :: r))) (toks (.tup (.num i' :: r')))) s := hq
    rw [lex_tup ec] at hq
    cases p with
    | tup h1 h2 h3 h4 =>
      cases p' with
      | tup k1 k2 k3 k4 =>
        refine kat_lt h1 h3 k1 k3 (katLexN (n := n) _ _ 0 _ _ c h4 k4 ec (fun x hx => ?_) hu (fun _ _ x r ex => ?_) (by simp) hq)
        · have := depth_mem hx
          omega
        · obtain ⟨rfl, rfl⟩ := List.cons.inj ex
          exact ⟨_, rfl⟩
  · obtain ⟨fs, t1, t2, t3⟩ := each_tups e hh
    refine kat_kind (T := Value.type "int") t1 (by omega) (fun f hf => ?_) (beq_self_eq_true _) hq
    obtain ⟨i, t, rfl⟩ := t3 f hf
    exact looks_reads (Reads.int i t)
end
end My

set_option Elab.async false
set_option linter.all false
set_option maxRecDepth 100000
set_option maxHeartbeats 2000000
/-! sorted(.., key=f), f a def of the text that tells a tuple of each item. -/
namespace My
open PySem PySem.Spec PyProof.Rows L2 PySem.SeqAt PySem.W
/-- a key's promise: F of the item's data, all else stays -/
def spKey (F : NestedKey → NestedKey) (C : NestedKey → Prop) : Sp := fun vs H Q _ => ∃ x k, vs = [x] ∧ Nk H x k ∧ C k ∧ ∀ v H', Same H H' → Nk H' v (F k) → Q v H'
/-- items with their data, by their keys -/
def leF (F : NestedKey → NestedKey) : V × NestedKey → V × NestedKey → Bool := sortLe (listOrd itemOrd) false fun b => toks (F b.2)
theorem zip_each : ∀ {xs : List V} {ks : List NestedKey} {vs : List Value}, Vals xs vs → xs.length = ks.length → EachIs (fun (v : Value) (b : V × NestedKey) => RelV b.1 v) vs (xs.zip ks)
  | [], [], _, .nil, _ => .nil
  | _ :: _, k :: ks, _, .cons r t, h => .cons r (zip_each t (by simpa using h))
theorem each_vals : ∀ {vs : List Value} {bs : List (V × NestedKey)}, EachIs (fun (v : Value) (b : V × NestedKey) => RelV b.1 v) vs bs → Vals (bs.map Prod.fst) vs
  | _, _, .nil => .nil
  | _, _, .cons r t => .cons r (each_vals t)
theorem each_snd {R : Value → NestedKey → Prop} : ∀ {vs : List Value} {xs : List V} {ks : List NestedKey}, EachIs R vs ks → xs.length = ks.length → EachIs (fun v (b : V × NestedKey) => R v b.2) vs (xs.zip ks)
  | _, [], [], .nil, _ => .nil
  | _, x :: xs, _ :: _, .cons r t, h => .cons r (each_snd t (by simpa using h))
section
variable {X : Cx} {pins : List (Addr × Obj)} {σ : L2.St} {H : Hp} {s : Shared} {f a : Addr} {fd : FuncData} {ps : List Str} {j n : Nat} {F : NestedKey → NestedKey} {C : NestedKey → Prop}
theorem Room.in2 {A : Around} (r : Room (j + 1) A) : Room j A.in1.in1 := ⟨r.hd, by have := r.dp; show A.depth + 3 * j + 5 < _; omega, by have := r.un; show A.units + 1 + 1 + 16 * j + 200 < _; omega⟩
/-- one call of the key, some objects of the sort's own pinned -/
theorem key_call (G : FnOk X.prog X.w X.K X.mg X.base CX0 j f fd ps (spKey F C)) (hr : Room (j + 1) X.A) (hb : Binds X.K fd ps []) (I : Inv X pins σ H s) {x : V} {v : Value} {k : NestedKey} (rv : RelV x v) (hx : Nk H x k) (hC : C k) {Q : Value → Shared → Prop} {E : Value → Shared → Prop}
    (h : ∀ u s' y H', Inv X pins σ H' s' → RelV y u → Same H H' → Nk H' y (F k) → Q u s') : wpAny (model X.prog X.w) X.A.in1.in1 (call (.ref f) [v]) Q E s := by
  have sp : spKey F C [x] H (fun y H' => Same H H' ∧ Nk H' y (F k)) E0 := ⟨x, k, rfl, hx, hC, fun y H' s1 n1 => ⟨s1, n1⟩⟩
  have hl : ([v] ++ ([] : List Value)).length = ps.length := by
    have := G.len _ _ _ _ sp
    simpa using this
  refine wpAny_call (codeAny_mono (G.run X.A.in1.in1 X.stack s H ⟨[v], []⟩ [v] [x] _ E0 (Room.in2 hr) I.env0.in1.in1 (hb s [v] I.kIn hl) (.cons rv .nil) sp) fun r s' hq => ?_)
  match r, hq with
  | .error e, hq => exact hq.elim
  | .ok (.ret u), hq =>
    obtain ⟨y, H', I', ry, s1, n1⟩ := I.after hq
    exact h u s' y H' I' ry s1 n1
end
end My

set_option Elab.async false
set_option linter.all false
set_option maxRecDepth 100000
set_option maxHeartbeats 2000000
namespace My
open PySem PySem.Spec PyProof.Rows L2 PySem.SeqAt PySem.W
theorem each_snocN {R : Value → NestedKey → Prop} {v : Value} {k : NestedKey} (h : R v k) : ∀ {vs : List Value} {ks : List NestedKey}, EachIs R vs ks → EachIs R (vs ++ [v]) (ks ++ [k])
  | _, _, .nil => .cons h .nil
  | _, _, .cons a t => .cons a (each_snocN h t)
section
variable {X : Cx} {pins : List (Addr × Obj)} {σ : L2.St} {H : Hp} {s : Shared} {f a : Addr} {fd : FuncData} {ps : List Str} {j n : Nat} {F : NestedKey → NestedKey} {C : NestedKey → Prop}
/-- a key's value, as it is known to the sort -/
def IsKey (H : Hp) (v : Value) (k : NestedKey) : Prop := ∃ x, Nk H x k ∧ RelV x v
theorem IsKey.at {H H' : Hp} {v : Value} {k : NestedKey} (h : IsKey H v k) (t : Tups H H') : IsKey H' v k := let ⟨x, a, b⟩ := h; ⟨x, a.at t, b⟩
theorem sort_key {xs : List V} {vs : List Value} {ks : List NestedKey} {P : PySem.Fin → Shared → Prop} {E : Value → Shared → Prop} (G : FnOk X.prog X.w X.K X.mg X.base CX0 j f fd ps (spKey F C)) (hr : Room (j + 1) X.A) (hb : Binds X.K fd ps [])
    (I : Inv X pins σ H s) (fa : FpOk X pins H a) (ho : s.heap.get? a = some (seqObj "list" vs.toArray n)) (rv : Vals xs vs) (hk : NkAll H xs ks) (hC : ∀ k ∈ ks, C k) (hh : ∀ k ∈ ks, ∃ i r, F k = .tup (.num i :: r))
    (hc : ∀ k ∈ ks, ∀ k' ∈ ks, ∃ c, ltK (F k) (F k') = some c) (hd : ∀ k ∈ ks, (F k).depth ≤ 50) (hz : vs.length ≤ sizeLine)
    (h : ∀ H' s', Same H H' → H' a = none → Inv X pins σ (upd H' a (.lst (((xs.zip ks).mergeSort (leF F)).map Prod.fst))) s' → P (.done (.ret .none)) s') :
    wpAny (model X.prog X.w) X.A.in1.in1 (ksk_tree a (.ref f) false) P E s := by
  have lk : xs.length = ks.length := hk.length
  have lv : xs.length = vs.length := rv.length
  unfold ksk_tree
  refine wpAny_bind (listItems_at ho rfl ?_)
  refine wpAny_bind (listUpdate_at ho rfl ?_ (by rw [List.size_toArray]; exact hz) (Nat.zero_le _))
  obtain ⟨e1, ho1⟩ : ∃ e1, (s.heap.update a (Obj.mapSeq fun _ => (#[] : Array Value))).get? a = some (seqObj "list" #[] e1) := ⟨_, get?_update_seq ho fun _ => #[]⟩
  have s1 := Heap.SameBut.update s.heap a (Obj.mapSeq fun _ => (#[] : Array Value))
  have I1 : Inv X pins σ H { s with heap := s.heap.update a (Obj.mapSeq fun _ => (#[] : Array Value)) } := I.turnedL (ch := [a]) (t' := s.toks) (fun b o hb e => (s1.2 b (fun z => hb (by simp [z]))).trans e) (fun b hb => by rw [List.mem_singleton.mp hb]; exact fa)
  generalize s.heap.update a (Obj.mapSeq fun _ => (#[] : Array Value)) = h1 at ho1 I1 ⊢
  refine wpAny_bind (seqEpoch_at ho1 rfl ?_)
  refine wpAny_bind (wpAny_newTuple ?_ (by show vs.length ≤ _; exact hz))
  refine wpAny_bind (wpAny_newList ?_ (Nat.zero_le _))
  refine wpAny_holding ?_
  show wpAny _ _ (ksk_rest a (.ref f) false vs.toArray e1 (.ref _)) _ _ { s with heap := (h1.push (seqObj "tuple" vs.toArray 0)).push (seqObj "list" #[] 0) }
  have I2 : Inv X pins σ H { s with heap := h1.push (seqObj "tuple" vs.toArray 0) } := I1.kept (t' := s.toks) fun b u e => Heap.get?_push_of_some _ e
  have I3 : Inv X pins σ H { s with heap := (h1.push (seqObj "tuple" vs.toArray 0)).push (seqObj "list" #[] 0) } := I2.kept (t' := s.toks) fun b u e => Heap.get?_push_of_some _ e
  have ho3 : ((h1.push (seqObj "tuple" vs.toArray 0)).push (seqObj "list" #[] 0)).get? a = some (seqObj "list" #[] e1) := Heap.get?_push_of_some _ (Heap.get?_push_of_some _ ho1)
  have hk3 : ((h1.push (seqObj "tuple" vs.toArray 0)).push (seqObj "list" #[] 0)).get? (h1.push (seqObj "tuple" vs.toArray 0)).objs.size = some (seqObj "list" #[] 0) := Heap.get?_push_size _ rfl
  have fk : FpOk X pins H (h1.push (seqObj "tuple" vs.toArray 0)).objs.size := I2.fpOk (Nat.le_refl _) (I2.hok.fresh (Nat.le_refl _))
  have hka : (h1.push (seqObj "tuple" vs.toArray 0)).objs.size ≠ a := fun z => by
    have := Heap.lt_size (Heap.get?_push_of_some (seqObj "tuple" vs.toArray 0) ho1)
    rw [← z] at this
    exact Nat.lt_irrefl _ this
  generalize (h1.push (seqObj "tuple" vs.toArray 0)).push (seqObj "list" #[] 0) = h3 at I3 ho3 hk3 ⊢
  generalize (h1.push (seqObj "tuple" vs.toArray 0)).objs.size = kS at hk3 fk hka ⊢
  clear I1 I2 ho1 s1
  unfold ksk_rest
  refine wpAny_bind (wpAny_rule ?_)
  rw [List.forIn_toArray]
  refine wpAny_bind (ksk_fold (fun i s' => ∃ H' kA e, Inv X pins σ H' s' ∧ Same H H' ∧ H' a = none ∧ H' kS = none ∧ s'.heap.get? kS = some (seqObj "list" kA e) ∧ s'.heap.get? a = some (seqObj "list" #[] e1) ∧ EachIs (IsKey H') kA.toList ((ks.map F).take i)) vs 0 _
    ⟨H, #[], 0, I3, Same.refl _, fa.1, fk.1, hk3, ho3, by rw [List.take_zero]; exact EachIs.nil⟩ ?step ?done)
  case step =>
    rintro i v s' hv ⟨H', kA, e, I', sm, na, nk, gk, ga, ek⟩
    simp only [Nat.zero_add] at ek ⊢
    have hi : i < vs.length := (List.getElem?_eq_some_iff.mp hv).1
    have hxi : xs[i]? = some xs[i] := List.getElem?_eq_getElem (by omega)
    obtain ⟨k, hki, nkx⟩ := hk.get hxi
    obtain ⟨v2, hv2, rx⟩ := rv.get hxi
    obtain rfl : v2 = v := Option.some.inj (hv2.symm.trans hv)
    have szA : kA.size ≤ vs.length := by
      have h1 := ek.length
      rw [Array.length_toList, List.length_take, List.length_map] at h1
      omega
    have Ip := I'.pinned (fp := [a, kS]) (fun b hb => by
      rcases List.mem_cons.mp hb with rfl | hb
      · exact ⟨na, fa.2⟩
      · rw [List.mem_singleton.mp hb]; exact ⟨nk, fk.2⟩) (fun b hb => by
      rcases List.mem_cons.mp hb with rfl | hb
      · exact ⟨_, ga, fun v z => by cases z⟩
      · rw [List.mem_singleton.mp hb]; exact ⟨_, gk, fun v z => by cases z⟩)
    refine wpAny_bind (wpAny_attempt (key_call G hr hb Ip rx (nkx.at (.same sm)) (hC k (List.mem_of_getElem? hki)) fun u s2 y H2 I2 ry sm2 ny => ?_))
    have pa := I2.pin (a, seqObj "list" #[] e1) (List.mem_append_right _ (List.mem_append_right _ (mem_pinsAt (by simp) ga)))
    have pk := I2.pin (kS, seqObj "list" kA e) (List.mem_append_right _ (List.mem_append_right _ (mem_pinsAt (by simp) gk)))
    have I2 := I2.unpinned
    try dsimp only
    have s3 := Heap.SameBut.update s2.heap kS (Obj.mapSeq (·.push u))
    obtain ⟨c2, hc2⟩ : ∃ c2, (s2.heap.update kS (Obj.mapSeq (·.push u))).get? kS = some (seqObj "list" (kA.push u) c2) := ⟨_, get?_update_seq pk.1 (·.push u)⟩
    refine wpAny_bind (listUpdate_at pk.1 rfl ?_ (Nat.le_trans szA hz) (by rw [Array.size_push]; omega))
    refine wpAny_pure ⟨rfl, H2, kA.push u, c2, ?_, sm.trans sm2, pa.2.1, pk.2.1, hc2, (s3.2 a hka.symm).trans pa.1, ?_⟩
    · exact I2.turnedL (ch := [kS]) (t' := s2.toks) (fun b o hb e => (s3.2 b (fun z => hb (by simp [z]))).trans e) (fun b hb => by rw [List.mem_singleton.mp hb]; exact ⟨pk.2.1, fk.2⟩)
    · have e2 : (ks.map F).take (i + 1) = (ks.map F).take i ++ [F k] := by
        rw [List.take_add_one, List.getElem?_map, hki]
        rfl
      rw [e2, Array.toList_push]
      exact each_snocN ⟨y, ny, ry⟩ (ek.mono fun v k q => q.at (.same sm2))
  case done =>
    rintro s' ⟨H', kA, e, I', sm, na, nk, gk, ga, ek⟩
    rw [List.take_of_length_le (by rw [List.length_map]; omega)] at ek
    have szA : kA.size = vs.length := by
      have h1 := ek.length
      rw [Array.length_toList, List.length_map] at h1
      omega
    refine wpAny_bind (listItems_at gk rfl ?_)
    have en : EachIs (fun v k => Ns s'.heap k v) kA.toList (ks.map F) := ek.mono fun v k q => let ⟨x, a, b⟩ := q; a.ns I' b
    have mem : ∀ {k : NestedKey}, k ∈ ks.map F → ∃ k0, k0 ∈ ks ∧ F k0 = k := fun h => List.mem_map.mp h
    have S : SortsAt X.prog X.w X.A.in1.in1 s' (nkKind s'.heap (ks.map F)) kA.toList := sortsN (n := 50) en
      (fun k hk => by obtain ⟨k0, h0, rfl⟩ := mem hk; exact hh k0 h0)
      (fun k hk k' hk' => by obtain ⟨k0, h0, rfl⟩ := mem hk; obtain ⟨k1, h1, rfl⟩ := mem hk'; exact hc k0 h0 k1 h1)
      (fun k hk => by obtain ⟨k0, h0, rfl⟩ := mem hk; exact hd k0 h0) (by have := hr.un; show X.A.units + 1 + 1 + 50 < cLine; omega)
    have hid : (hideAll s'.heap [kS]).get? kS = none := hideAll_none _ (by simp)
    have kp : KeepsBut a (hideAll s'.heap [kS]) s'.heap := fun b o _ q => of_hideAll _ q
    refine keyH_end (κ := nkKind s'.heap (ks.map F)) (b := false) (vs := vs) (h₁ := hideAll s'.heap [kS]) kp hid gk ga hka S szA hz fun h4 tk c k4 n4 => ?_
    have out := sortVals_each (κ := nkKind s'.heap (ks.map F)) (rev := false) (R := fun (v : Value) (b : V × NestedKey) => RelV b.1 v) (ks := kA.toList) (vs := vs) (bs := xs.zip ks) (fun b => toks (F b.2)) (zip_each rv lk) (by
      have e3 : EachIs (fun v k => (nkKind s'.heap (ks.map F)).keyOf v = some (toks (F k))) kA.toList ks := each_of_map F ((each_mem en).mono fun v k q => nk_some q.2 q.1)
      exact each_snd e3 lk)
    have keep : ∀ b o, b ∉ [a, kS] → s'.heap.get? b = some o → h4.get? b = some o := fun b o nb q => k4 b o (fun z => nb (by simp [z])) (hideAll_get _ q fun z => nb (by simp [List.mem_singleton.mp z]))
    have I4 : Inv X pins σ H' { s' with heap := hideAll s'.heap [], toks := s'.toks } := I'
    refine h H' _ sm na ?_
    have rel : Vals (((xs.zip ks).mergeSort (leF F)).map Prod.fst) (sortVals (nkKind s'.heap (ks.map F)) false kA.toList vs) := each_vals out
    have lo : (((xs.zip ks).mergeSort (leF F)).map Prod.fst).length ≤ sizeLine := by
      rw [List.length_map, List.length_mergeSort, List.length_zip]
      omega
    have I5 : Inv X pins σ H' { s' with heap := h4, toks := tk } := by
      refine I'.turnedL (ch := [a, kS]) (t' := tk) keep fun b hb => ?_
      rcases List.mem_cons.mp hb with rfl | hb
      · exact ⟨na, fa.2⟩
      · rw [List.mem_singleton.mp hb]; exact ⟨nk, fk.2⟩
    exact I5.take (t' := tk) (fun b ob _ e => e) ⟨na, fa.2⟩ ⟨lo, _, c, rel, n4⟩
end
end My

set_option Elab.async false
set_option linter.all false
set_option maxRecDepth 100000
set_option maxHeartbeats 2000000
/-! Dicts whose keys are tuples of numbers, texts and such tuples, all values True. -/
namespace My
open PySem PySem.Spec PyProof.Rows L2 PySem.SeqAt PySem.W
def tri (xs : List (NestedKey × Addr)) : List (NestedKey × Addr × Value) := xs.map fun p => (p.1, p.2, Value.bool true)
def NDraw (P : Program) (w : World) (d : Addr) (xs : List (NestedKey × Addr)) (h : Heap) : Prop :=
  ∃ o es ep, h.get? d = some o ∧ o.ExactDict ∧ o.data = .dict es ep ∧ es.toList = (tri xs).map (entryOfKey (nestedKind P w)) ∧ ((tri xs).map (·.1)).Nodup ∧ (d == sysModules) = false
/-- such a dict -/
def ND (P : Program) (w : World) (d : Addr) (xs : List (NestedKey × Addr)) : HO := .ext (NDraw P w d xs)
/-- such a dict (of none, too), its keys there -/
def NdAt (P : Program) (w : World) (H : Hp) (d : Addr) (xs : List (NestedKey × Addr)) : Prop := (H d = some (ND P w d xs) ∨ (xs = [] ∧ H d = some (.dK []))) ∧ ∀ p ∈ xs, Nk H (.ref p.2) p.1 ∧ p.1.depth ≤ 8
def putN (xs : List (NestedKey × Addr)) (k : NestedKey) (a : Addr) : List (NestedKey × Addr) := if k ∈ xs.map (·.1) then xs else xs ++ [(k, a)]
theorem tri_keys (xs : List (NestedKey × Addr)) : (tri xs).map (·.1) = xs.map (·.1) := by
  unfold tri
  rw [List.map_map]
  rfl
theorem atKey_some {xs : List (NestedKey × Addr)} {k : NestedKey} : (atKey (tri xs) k).isSome = decide (k ∈ xs.map (·.1)) := by
  induction xs with
  | nil => rfl
  | cons p xs ih =>
    unfold tri atKey at *
    rw [List.map_cons, List.find?_cons]
    by_cases e : p.1 = k
    · subst e
      simp
    · have e2 : ¬ k = p.1 := fun z => e z.symm
      simp only [decide_eq_false e]
      rw [ih, List.map_cons]
      simp [List.mem_cons, e2]
theorem stored_tri (xs : List (NestedKey × Addr)) (k : NestedKey) (a : Addr) : storedH (tri xs) k a (.bool true) = tri (putN xs k a) := by
  unfold storedH putN
  rw [atKey_some]
  by_cases e : k ∈ xs.map (·.1)
  · rw [decide_eq_true e, if_pos rfl, if_pos e]
    unfold tri
    rw [List.map_map]
    refine List.map_congr_left fun p _ => ?_
    show putAt k (Value.bool true) (p.1, p.2, Value.bool true) = _
    unfold putAt
    split <;> rfl
  · rw [decide_eq_false e, if_neg Bool.false_ne_true, if_neg e]
    unfold tri
    rw [List.map_append]
    rfl
section
variable {X : Cx} {pins : List (Addr × Obj)} {σ : L2.St} {H : Hp} {s : Shared} {d : Addr} {xs : List (NestedKey × Addr)}
theorem nd_full (I : Inv X pins σ H s) (h : NdAt X.prog X.w H d xs) : s.heap.DictOfH (nestedKind X.prog X.w) d (tri xs) ∧ (d == sysModules) = false := by
  have keys : ∀ x ∈ tri xs, (nestedKind X.prog X.w).is s.heap x.1 x.2.1 := fun x hx => by
    obtain ⟨p, hp, rfl⟩ := List.mem_map.mp hx
    exact ⟨(h.2 p hp).1.is I rfl, (h.2 p hp).2⟩
  rcases h.1 with e | ⟨rfl, e⟩
  · obtain ⟨⟨o, es, ep, h1, h2, h3, h4, h5, h6⟩, _⟩ := (show ObjOk X.prog X.w H s.heap d (ND X.prog X.w d xs) from I.hok d _ e)
    exact ⟨⟨o, es, ep, h1, h2, h3, h4, keys, h5⟩, h6⟩
  · obtain ⟨z, hd, vs, rel, o, es, ep, h1, h2, h3, h4⟩ := (show ObjOk X.prog X.w H s.heap d (.dK []) from I.hok d _ e)
    cases rel
    have e0 : es.toList = [] := by
      have := h4.2.1
      cases q : es.toList with
      | nil => rfl
      | cons a b => rw [q] at this; cases this
    exact ⟨⟨o, es, ep, h1, h2, h3, e0, keys, List.nodup_nil⟩, hd⟩
theorem nd_new {P : Program} {w : World} {H : Hp} {h : Heap} (m : h.DictOfH (nestedKind P w) d (tri xs)) (hd : (d == sysModules) = false) : ObjOk P w H h d (ND P w d xs) := by
  obtain ⟨o, es, ep, h1, h2, h3, h4, _, h5⟩ := m
  refine ⟨⟨o, es, ep, h1, h2, h3, h4, h5, hd⟩, ⟨o, h1⟩, ?_⟩
  rintro g1 g2 ⟨o, es, ep, k1, k2⟩ up
  exact ⟨o, es, ep, up o k1, k2⟩
theorem nd_mut {P : Program} {w : World} {H : Hp} (h : NdAt P w H d xs) : Mut (H d) := by
  rcases h.1 with e | ⟨_, e⟩ <;> rw [e] <;> trivial
/-- behind d[k] = True -/
theorem nd_put {P : Program} {w : World} {H : Hp} {a : Addr} {k : NestedKey} (h : NdAt P w H d xs) (hk : Nk H (.ref a) k) (hd : k.depth ≤ 8) (nd : ∀ ys, H d ≠ some (.tup ys)) : NdAt P w (upd H d (ND P w d (putN xs k a))) d (putN xs k a) := by
  have t : Tups H (upd H d (ND P w d (putN xs k a))) := fun b ys e => by
    rw [upd_ne (fun z => nd ys (by rw [← z]; exact e))]
    exact e
  refine ⟨.inl upd_same, fun p hp => ?_⟩
  unfold putN at hp
  split at hp
  · exact ⟨(h.2 p hp).1.at t, (h.2 p hp).2⟩
  · rcases List.mem_append.mp hp with hp | hp
    · exact ⟨(h.2 p hp).1.at t, (h.2 p hp).2⟩
    · rw [List.mem_singleton.mp hp]
      exact ⟨hk.at t, hd⟩
theorem nd_ntup {P : Program} {w : World} {H : Hp} (h : NdAt P w H d xs) : ∀ ys, H d ≠ some (.tup ys) := fun ys z => by
  rcases h.1 with e | ⟨_, e⟩
  · rw [e] at z; cases z
  · rw [e] at z; cases z
theorem nd_dictSet {A : Around} {a : Addr} {k : NestedKey} {E : Value → Shared → Prop} {Q : Unit → Shared → Prop} (hu : A.units + 8 < cLine) (I : Inv X pins σ H s) (h : NdAt X.prog X.w H d xs) (hk : Nk H (.ref a) k) (hd : k.depth ≤ 8) (hz : xs.length < sizeLine)
    (q : ∀ s', Inv X pins σ (upd H d (ND X.prog X.w d (putN xs k a))) s' → Q () s') : wpAny (model X.prog X.w) A (dictSet d (.ref a) (.bool true)) Q E s := by
  obtain ⟨m, hs⟩ := nd_full I h
  refine wpAny_dictSet_heap (knd := nestedKind X.prog X.w) (hsz := by unfold tri; rw [List.length_map]; omega) hu ⟨hk.is I rfl, hd⟩ m fun h' m' sb => q _ ?_
  rw [stored_tri] at m'
  have he : ∃ o, h'.get? d = some o := let ⟨o, _, _, g, _⟩ := m'; ⟨o, g⟩
  exact d_write I (nd_mut h) sb he (nd_new m' hs)
theorem nd_setItem {A : Around} {a : Addr} {k : NestedKey} {E : Value → Shared → Prop} {Q : Unit → Shared → Prop} (hu : A.units + 9 < cLine) (I : Inv X pins σ H s) (h : NdAt X.prog X.w H d xs) (hk : Nk H (.ref a) k) (hd : k.depth ≤ 8) (hz : xs.length < sizeLine)
    (q : ∀ s', Inv X pins σ (upd H d (ND X.prog X.w d (putN xs k a))) s' → Q () s') : wpAny (model X.prog X.w) A (setItem (.ref d) (.ref a) (.bool true)) Q E s := by
  obtain ⟨m, hs⟩ := nd_full I h
  refine wpAny_setItem_heap (knd := nestedKind X.prog X.w) (hsz := by unfold tri; rw [List.length_map]; omega) (by show A.units + 1 + 8 < cLine; omega) ⟨hk.is I rfl, hd⟩ m fun h' m' sb => q _ ?_
  rw [stored_tri] at m'
  have he : ∃ o, h'.get? d = some o := let ⟨o, _, _, g, _⟩ := m'; ⟨o, g⟩
  exact d_write I (nd_mut h) sb he (nd_new m' hs)
end
section
variable {X : Cx} {o i value : Expr} {td ty tv : TE} {pos pos' : Pos}
/-- d[k] = True -/
def sDPutN (P : Program) (w : World) (td ty tv : TE) : TS := fun D σ H => tv σ H fun v H1 => td σ H1 fun x H2 => ty σ H2 fun y H3 => ∃ d a k xs, v = .bl true ∧ x = .ref d ∧ y = .ref a ∧ NdAt P w H3 d xs ∧ Nk H3 (.ref a) k ∧ k.depth ≤ 8 ∧ xs.length < sizeLine ∧ D.nx σ (upd H3 d (ND P w d (putN xs k a)))
theorem ps_dputN (hu : X.A.units + 64 < cLine) (ho : PE X o td) (hi : PE X i ty) (hv : PE X value tv) (hs : swapsWith value (some (.Subscript o i pos')) pos.line X.env = pure false) : PS X (.Assign [.Subscript o i pos'] value pos) (sDPutN X.prog X.w td ty tv) := by
  constructor
  intro pins s σ H D I h
  refine wpAny_Assign_Subscript (thn (hv.run pins s σ H _ I h) ?_) hs
  rintro r s1 ⟨v, H1, I1, rv, q1⟩
  refine thn (ho.run pins s1 σ H1 _ I1 q1) ?_
  rintro u s2 ⟨x, H2, I2, rx, q2⟩
  refine thn (hi.run pins s2 σ H2 _ I2 q2) ?_
  rintro iv s3 ⟨y, H3, I3, ry, d, a, k, xs, rfl, rfl, rfl, hn, hk, hd, hz, q3⟩
  cases rv
  cases rx
  cases ry
  exact nd_setItem (by omega) I3 hn hk hd hz fun s4 I4 => ⟨σ, _, I4, q3⟩
/-- k in d, k not in d -/
def rInD (P : Program) (w : World) (neg : Bool) : R2 := fun x y H Q => ∃ d a k xs, x = .ref a ∧ y = .ref d ∧ NdAt P w H d xs ∧ Nk H (.ref a) k ∧ k.depth ≤ 8 ∧ Q (.bl (if neg then !decide (k ∈ xs.map (·.1)) else decide (k ∈ xs.map (·.1)))) H
theorem op_inD (hu : X.A.units + 64 < cLine) : OpR X (compareOp .In) (rInD X.prog X.w false) := by
  intro pins s σ H x y v u Q I rx ry h
  obtain ⟨d, a, k, xs, rfl, rfl, hn, hk, hd, q⟩ := h
  cases rx
  cases ry
  obtain ⟨m, hs⟩ := nd_full I hn
  refine wpAny_in_heap (knd := nestedKind X.prog X.w) (by show X.A.units + 1 + 8 < cLine; omega) ⟨hk.is I rfl, hd⟩ hs m ⟨.bl _, H, I.tok _, rfl, ?_⟩
  rw [atKey_some]
  exact q
theorem op_notInD (hu : X.A.units + 64 < cLine) : OpR X (compareOp .NotIn) (rInD X.prog X.w true) := by
  intro pins s σ H x y v u Q I rx ry h
  obtain ⟨d, a, k, xs, rfl, rfl, hn, hk, hd, q⟩ := h
  cases rx
  cases ry
  obtain ⟨m, hs⟩ := nd_full I hn
  refine notIn_keyed (knd := nestedKind X.prog X.w) (by show X.A.units + 1 + 8 < cLine; omega) ⟨hk.is I rfl, hd⟩ hs ⟨_, m, rfl⟩ ⟨.bl _, H, I.tok _, rfl, ?_⟩
  rw [valueAt_pairsH, Option.isSome_map, atKey_some]
  exact q
end
end My

set_option Elab.async false
set_option linter.all false
set_option maxRecDepth 100000
set_option maxHeartbeats 2000000
namespace My
open PySem PySem.Spec PyProof.Rows L2 PySem.SeqAt PySem.W
theorem kdl_rawD {prog : Program} {w : World} {d : Addr} {es : Array DictEntry} {ep : Nat} (lo : (d == sysModules) = false) : KdlSrc prog w "dict" d d es.size (fun i v => ∃ hi : i < es.size, v = es[i].key) (fun h => h.DictRaw d es ep) where
  type := fun _ hm => hm.typeIs
  there := fun h hm => let ⟨o, ho, _⟩ := hm; ⟨Heap.lt_size ho, Heap.lt_size ho⟩
  keep := fun _ _ hm hk => hm.at fun o e => hk d (.inl rfl) o e
  notList := by decide
  notTuple := by decide
  hint := fun _ _ _ _ hm hq => kdl_hint_dict hm.typeIs hq
  iter := fun _ s hh hm => by
    obtain ⟨o, ho, _⟩ := id hm
    exact ⟨_, _, (fun _ _ hq => wpAny_pyIter_dict_raw lo hm hq), Walks.rawKeys hh _ d (Nat.ne_of_lt (Heap.lt_size ho)) es ep, ⟨⟨_, Heap.get?_push_size _ rfl, rfl, rfl⟩, hm.at fun o e => Heap.get?_push_of_some _ e⟩⟩
/-- what sorted tells of such a dict's keys -/
def sortD (F : NestedKey → NestedKey) (xs : List (NestedKey × Addr)) : List V := (((xs.map fun p => V.ref p.2).zip (xs.map (·.1))).mergeSort (leF F)).map Prod.fst
theorem vals_refs : ∀ {xs : List (NestedKey × Addr)} {us : List Value}, us.length = xs.length → (∀ (j : Nat) (v : Value), us[j]? = some v → ∃ p : NestedKey × Addr, xs[j]? = some p ∧ v = Value.ref p.2) → Vals (xs.map fun p => V.ref p.2) us
  | [], [], _, _ => .nil
  | p :: xs, u :: us, hl, h => by
    refine .cons ?_ (vals_refs (by simpa using hl) fun j v e => h (j + 1) v (by simpa using e))
    obtain ⟨q, e, e2⟩ := h 0 u rfl
    cases e
    exact e2
theorem nk_refs {H : Hp} : ∀ {xs : List (NestedKey × Addr)}, (∀ p ∈ xs, Nk H (.ref p.2) p.1) → NkAll H (xs.map fun p => V.ref p.2) (xs.map (·.1))
  | [], _ => .nil
  | p :: xs, h => .cons (h p (.head _)) (nk_refs fun q hq => h q (.tail _ hq))
section
variable {X : Cx} {f : Addr} {fd : FuncData} {ps : List Str} {j : Nat} {F : NestedKey → NestedKey} {C : NestedKey → Prop}
def rSortD (P : Program) (w : World) (f : Addr) (F : NestedKey → NestedKey) (C : NestedKey → Prop) : List V → List V → Hp → VK → Prop := fun vs zs H Q => ∃ (d : Addr) (xs : List (NestedKey × Addr)), vs = [.ref d] ∧ zs = [.ref f] ∧ NdAt P w H d xs ∧ (∀ p ∈ xs, C p.1) ∧
  (∀ p ∈ xs, ∃ i r, F p.1 = .tup (.num i :: r)) ∧ (∀ p ∈ xs, ∀ q ∈ xs, ∃ c, ltK (F p.1) (F q.1) = some c) ∧ (∀ p ∈ xs, (F p.1).depth ≤ 50) ∧ xs.length ≤ sizeLine ∧ ∀ H' p, Same H H' → H' p = none → H p = none → Q (.ref p) (upd H' p (.lst (sortD F xs)))
theorem cr_sortD (hcalm : X.calm = true) (G : FnOk X.prog X.w X.K X.mg X.base CX0 j f fd ps (spKey F C)) (hr : Room (j + 1) X.A) (hb : Binds X.K fd ps []) : CallRK X (.builtin "sorted") [Str.ofString "key"] (rSortD X.prog X.w f F C) := by
  intro pins s σ H vs zs us ws Q I r1 r2 h
  obtain ⟨d, xs, rfl, rfl, hn, hC, hh, hc, hd, hz, q⟩ := h
  obtain ⟨u, rfl, ru⟩ := vals1 r1
  obtain ⟨u2, rfl, ru2⟩ := vals1 r2
  cases ru
  cases ru2
  obtain ⟨m, lo⟩ := nd_full I hn
  obtain ⟨o, es, ep, g1, g2, g3, g4, g5, g6⟩ := m
  have hes : es.size = xs.length := by rw [← Array.length_toList, g4, List.length_map]; unfold tri; rw [List.length_map]
  show wpAny _ _ (call (.builtin "sorted") [.ref d] [(Str.ofString "key", .ref f)]) _ _ _
  refine call_function_entry_kw kind_sorted plain_sorted entry_sorted (ksk_s1 _ _) ?_
  unfold Builtin.«sorted»
  refine wpAny_bind (m := checkCount "sorted" 1 1 _) (wpAny_pure ?_)
  refine wpAny_bind (kdu_collect (A := X.A.in1) (kdl_rawD (es := es) (ep := ep) lo) (I.ok.hd hcalm) ⟨o, g1, g2, g3⟩ (by omega) fun h' tk acc hk hacc => ?_)
  have rv : Vals (xs.map fun p => V.ref p.2) acc.toList := vals_refs (by rw [Array.length_toList, hacc.1, hes]) fun i v e => by
    obtain ⟨hi, rfl⟩ := hacc.2 i v (by rw [← Array.getElem?_toList]; exact e)
    have hx : i < xs.length := by omega
    refine ⟨xs[i], List.getElem?_eq_getElem hx, ?_⟩
    have e2 : es[i]? = some es[i] := Array.getElem?_eq_getElem hi
    rw [← Array.getElem?_toList, g4, List.getElem?_map] at e2
    unfold tri at e2
    rw [List.getElem?_map, List.getElem?_eq_getElem hx] at e2
    rw [← Option.some.inj e2]
    rfl
  have la : acc.toList.length ≤ sizeLine := by rw [Array.length_toList, hacc.1]; omega
  have I1 : L2.Inv X pins σ H { s with heap := h', toks := tk } := I.kept hk
  refine wpAny_bind (wpAny_newList ?_ la)
  show wpAny _ _ _ _ _ { s with heap := h'.push (seqObj "list" acc.toList.toArray 0), toks := tk }
  have I2 : L2.Inv X pins σ H { s with heap := h'.push (seqObj "list" acc.toList.toArray 0), toks := tk } := I1.kept (t' := tk) fun b u e => Heap.get?_push_of_some _ e
  have hoL : (h'.push (seqObj "list" acc.toList.toArray 0)).get? h'.objs.size = some (seqObj "list" acc.toList.toArray 0) := Heap.get?_push_size _ rfl
  have fresh : H h'.objs.size = none := I1.hok.fresh (Nat.le_refl _)
  have fp : FpOk X pins H h'.objs.size := I1.fpOk (Nat.le_refl _) fresh
  refine wpAny_bind (wpAny_holding (wpAny_call_entry_kw slot_list_sort ⟨_, hoL, rfl⟩ entry_list_sort ?_ (ksk_l1 _ _)))
  rw [ksk_t1]
  have mem : ∀ {k : NestedKey}, k ∈ xs.map (·.1) → ∃ p, p ∈ xs ∧ p.1 = k := fun h => List.mem_map.mp h
  refine sort_key (X := X) (pins := pins) (σ := σ) (H := H) (s := { s with heap := h'.push (seqObj "list" acc.toList.toArray 0), toks := tk }) G hr hb I2 fp hoL rv (nk_refs fun p hp => (hn.2 p hp).1)
    (fun k hk => by obtain ⟨p, hp, rfl⟩ := mem hk; exact hC p hp) (fun k hk => by obtain ⟨p, hp, rfl⟩ := mem hk; exact hh p hp)
    (fun k hk k' hk' => by obtain ⟨p, hp, rfl⟩ := mem hk; obtain ⟨p2, hp2, rfl⟩ := mem hk'; exact hc p hp p2 hp2) (fun k hk => by obtain ⟨p, hp, rfl⟩ := mem hk; exact hd p hp) la fun H' s' sm nh I3 => ?_
  exact ⟨_, rfl, wpAny_pure ⟨_, rfl, .ref h'.objs.size, _, I3, rfl, q H' _ sm nh fresh⟩⟩
end
end My

set_option Elab.async false
set_option linter.all false
set_option maxRecDepth 100000
set_option maxHeartbeats 2000000
/-! {k: True for .. in ..}, k a tuple of numbers, texts and such tuples. -/
namespace My
open PySem PySem.Spec PyProof.Rows L2 PySem.SeqAt PySem.W
section
variable {X : Cx}
def DcStep (P : Program) (w : World) (J : It) (g : TG) (tt : TT) (tk tv : TE) (vs : List Nat) (σ : L2.St) (D : Addr) (Qd : Hp → Prop) (W : Nat → Nat → Hp → Prop) (i m : Nat) (H : Hp) : Prop :=
  (J.stop i H ∧ Qd H) ∨ (J.go i H ∧ ∃ Nx : Hp → Prop, (∀ H', Nx H' → ∃ m', m' < m ∧ W (i + 1) m' H') ∧ ∀ x H', J.yld i H x H' →
    g x (wipe σ vs) H' fun σ2 H2 => wipe σ2 vs = wipe σ vs ∧ tt σ2 H2 fun b H3 => if b = true then tk σ2 H3 fun y H4 => tv σ2 H4 fun z H5 =>
      ∃ a k xs, y = .ref a ∧ z = .bl true ∧ NdAt P w H5 D xs ∧ Nk H5 (.ref a) k ∧ k.depth ≤ 8 ∧ xs.length < sizeLine ∧ Nx (upd H5 D (ND P w D (putN xs k a))) else Nx H3)
def tDcN (P : Program) (w : World) (wi : TI) (g : TG) (tt : TT) (tk tv : TE) (vs : List Nat) : TE := fun σ H Q => wi σ H fun J H1 => ∀ D, H1 D = none →
  ∃ W : Nat → Nat → Hp → Prop, (∃ m, W 0 m (upd H1 D (.dK []))) ∧ ∀ i m H', W i m H' → DcStep P w J g tt tk tv vs σ D (fun H2 => Q (.ref D) H2) W i m H'
abbrev Blk (X : Cx) (scope : Scope) (s : Shared) (H : Hp) (C : Addr) (cl : List (Str × Addr)) (fp : List Addr) : Cx := X.blk s H scope (compEnvC scope cl C X.env) fp
theorem dcN_core {pins : List (Addr × Obj)} {s : Shared} {σ : L2.St} {H : Hp} {Q : VK} {kx vx tg iter : Expr} {ifs : List Expr} {scope : Scope} {own : List (Str × Nat)} {pos pos' : Pos} {wi : TI} {g : TG} {tt : TT} {tk tv : TE} {use : Option (Value → Sem Unit)} {Qf : Value → Shared → Prop}
    (hu : X.A.units + 64 < cLine) (calm : X.calm = true) (nd : X.N.Nodup) (I : L2.Inv X pins σ H s) (hi : PI X tg iter wi) (ok : BlkOk X.N X.env.scope scope own)
    (hg : ∀ s H C cl fp, PG (Blk X scope s H C cl fp) tg g) (ht : ∀ s H C cl fp, PTs (Blk X scope s H C cl fp) ifs tt) (hk : ∀ s H C cl fp, PE (Blk X scope s H C cl fp) kx tk) (hv : ∀ s H C cl fp, PE (Blk X scope s H C cl fp) vx tv)
    (fold : ∀ x, foldedSetIterable iter X.env x = pure x) (h : tDcN X.prog X.w wi g tt tk tv (own.map (·.2)) σ H Q)
    (back : ∀ D C s' m H', L2.Inv X pins σ H' s' → Q (.ref D) H' → s'.heap.Ns C m → FpOk X pins H' C → compPost (model X.prog X.w) X.A X.xe use Qf (.ref D) C (.ok .next) s') :
    wpAny (model X.prog X.w) X.A (comprehension (.DictComp kx vx [⟨tg, iter, ifs, 0⟩] scope pos) scope X.env pos' newDict false (eval iter X.env) use) Qf X.xe s := by
  have free : ∀ y ∈ scope.names, y.2 = .free → ∃ c, X.env.cells.lookup y.1 = some c := by
    intro y hy e
    exact (ok.free y hy e).elim (fun k => I.ok.has _ (.inl k)) fun k => I.ok.has _ (.inr k)
  refine wpAny_comprehension_free (use := use) rfl fold (closure_ok free) ok.kind (fun y hy e => by rw [ok.uniq y hy, e]) (thn (hi.run pins s σ H _ I h) fun xv s1 hx => thn hx ?_)
  rintro itv s2 ⟨it, fp, tn, J, H2, rfl, I2, T, st2, f2, q⟩
  refine wpAny_newObj_type (newEnv_comp ?_)
  obtain ⟨D, hD⟩ : ∃ D, D = s2.heap.objs.size := ⟨_, rfl⟩
  rw [← hD]
  have fresh : H2 D = none := I2.hok.fresh (Nat.le_of_eq hD.symm)
  obtain ⟨W, ⟨m0, w0⟩, turn⟩ := q D fresh
  obtain ⟨s3, hs3⟩ : ∃ s3 : Shared, s3 = { s2 with heap := s2.heap.push { cls := .type "dict", data := .dict #[] } } := ⟨_, rfl⟩
  have I3 : L2.Inv X pins σ (upd H2 D (.dK [])) s3 := by
    rw [hs3]
    refine I2.laid (t' := s2.toks) (fun b o e => Heap.get?_push_of_some _ e) (Nat.le_of_eq hD.symm) ?_
    rw [hD]
    exact dk_empty s2.heap I2.big
  have h3 : s3.heap = s2.heap.push { cls := .type "dict", data := .dict #[] } := by rw [hs3]
  have old : ∀ b ∈ fp, b < s2.heap.objs.size := fun b hb => let ⟨o, e, _⟩ := T.obj _ _ st2 b hb; Heap.lt_size e
  have f3 : ∀ b ∈ fp, FpOk X pins (upd H2 D (.dK [])) b ∧ b < s3.heap.objs.size := by
    intro b hb
    have lt := old b hb
    refine ⟨⟨?_, (f2 b hb).2⟩, by rw [h3, Heap.size_push]; exact Nat.lt_succ_of_lt lt⟩
    rw [upd_ne (by rw [hD]; exact Nat.ne_of_lt lt)]
    exact (f2 b hb).1
  have st3 : tn 0 s3.heap := T.keep _ _ _ st2 fun b _ o e => by rw [h3]; exact Heap.get?_push_of_some _ e
  have I4 := block_start I3 ok nd f3
  obtain ⟨cl, hcl⟩ : ∃ cl, cl = cellsFrom (s3.heap.objs.size + 1) scope.names (cloFrom X.env.cells scope.names []) := ⟨_, rfl⟩
  obtain ⟨C, hC⟩ : ∃ C, C = s3.heap.objs.size := ⟨_, rfl⟩
  obtain ⟨H3, hH3⟩ : ∃ H3, H3 = upd H2 D (.dK []) := ⟨_, rfl⟩
  rw [← hcl, ← hC, ← hH3] at I4
  rw [← hH3] at I3 f3 w0
  obtain ⟨s4, hs4⟩ : ∃ s4 : Shared, s4 = { s3 with heap := pushCells (s3.heap.push { cls := .type "dict", data := .dict #[] }) scope.names } := ⟨_, rfl⟩
  rw [← hs4] at I4
  rw [← hs3]
  show codeAny _ _ (.compStart (.DictComp kx vx [⟨tg, iter, ifs, 0⟩] scope pos) 0 (.ref it) (.ref D) (compEnvC scope (cellsFrom (s3.heap.objs.size + 1) scope.names (cloFrom X.env.cells scope.names [])) s3.heap.objs.size X.env)) (compPost (model X.prog X.w) X.A X.xe use Qf (.ref D) s3.heap.objs.size) { s3 with heap := pushCells (s3.heap.push { cls := .type "dict", data := .dict #[] }) scope.names }
  rw [← hcl, ← hC, ← hs4]
  have pg := hg s3 H3 C cl fp
  have pt := ht s3 H3 C cl fp
  have pk := hk s3 H3 C cl fp
  have pv := hv s3 H3 C cl fp
  have cL : (compEnvC scope cl C X.env).locals = C := rfl
  have nfp : ∀ b ∈ fp, H3 b = none := fun b hb => (f3 b hb).1.1
  have st4 : tn 0 s4.heap := T.keep _ _ _ st3 fun b _ o e => by rw [hs4]; exact pushCells_keeps _ _ _ _ (Heap.get?_push_of_some _ e)
  have stat : ∀ {σ' : L2.St} {H' : Hp} {s' : Shared}, L2.Inv (Blk X scope s3 H3 C cl fp) [] σ' H' s' → (∀ b ∈ fp, H' b = none) → ∀ b ∈ fp, FpOk (Blk X scope s3 H3 C cl fp) [] H' b := by
    intro σ' H' s' I' hn b hb
    exact ⟨hn b hb, (I'.ok.exf b hb).1, I'.ok.exfs b hb, .inl hb, fun x c e => (I'.ok.exf b hb).2 x c e, fun p hp => absurd (show p ∈ ([] : List (Addr × Obj)) ++ [] from hp) (by simp)⟩
  have loop : codeAny (model X.prog X.w) X.A (.compLoop (.DictComp kx vx [⟨tg, iter, ifs, 0⟩] scope pos) 0 (.ref it) (.ref D) (compEnvC scope cl C X.env)) (compPost (model X.prog X.w) X.A X.xe use Qf (.ref D) C) s4 := by
    refine compLoop_anyD (fun n s' => ∃ i H', L2.Inv (Blk X scope s3 H3 C cl fp) [] (wipe σ (own.map (·.2))) H' s' ∧ tn i s'.heap ∧ (∀ b ∈ fp, H' b = none) ∧ W i n H') ?_ m0 ⟨0, H3, I4, st4, nfp, w0⟩
    rintro n s5 ⟨i, H5, I5, st5, n5, w5⟩
    rcases turn i n H5 w5 with ⟨stop, qq⟩ | ⟨go, Nx, hNx, step⟩
    · refine thnF (T.done (Blk X scope s3 H3 C cl fp) rfl rfl rfl calm i [] s5 _ H5 (fun _ _ => False) I5 (stat I5 n5) st5 stop) ?_
      rintro r s6 ⟨rfl, I6⟩
      have I7 : L2.Inv X pins σ H5 s6 := I3.call' (ch := fp) I6.os I6.base I6.hok I6.bare fun b hb => ⟨(f3 b hb).1.2.2.2.1, (f3 b hb).1.2.1, (f3 b hb).1.2.2.2.2.1, (f3 b hb).1.2.2.2.2.2⟩
      have nC : H5 C = none := I6.free
      obtain ⟨m, hn, _⟩ := I6.loc
      exact back D C s6 m H5 I7 qq hn (I3.fpOk (Nat.le_of_eq hC.symm) nC)
    · refine thnF (T.item (Blk X scope s3 H3 C cl fp) rfl rfl rfl calm i [] s5 _ H5 (fun _ _ => False) I5 (stat I5 n5) st5 go) ?_
      rintro r s6 ⟨u, rfl, h6⟩
      refine thnF h6 ?_
      rintro _ s7 ⟨x, H7, I7, r7, y7, st7, n7⟩
      refine thnF (pg.run _ s7 _ H7 x u _ (I7.pinned (stat I7 n7) (T.obj _ _ st7)) r7 (step x H7 y7)) ?_
      rintro _ s8 ⟨σ8, H8, I8, hw8, q8⟩
      refine thnF (pt.run _ s8 σ8 H8 _ I8 q8) ?_
      rintro b s9 ⟨H9, I9, q9⟩
      have fin : ∀ {s' : Shared} {H' : Hp}, L2.Inv (Blk X scope s3 H3 C cl fp) ([] ++ pinsAt fp s7.heap) σ8 H' s' → Nx H' → ∃ m, m < n ∧ ∃ i H', L2.Inv (Blk X scope s3 H3 C cl fp) [] (wipe σ (own.map (·.2))) H' s' ∧ tn i s'.heap ∧ (∀ b ∈ fp, H' b = none) ∧ W i m H' := by
        intro s' H' I' nx
        obtain ⟨m', lt, w'⟩ := hNx H' nx
        have pin : ∀ b ∈ fp, ∀ o, s7.heap.get? b = some o → s'.heap.get? b = some o ∧ H' b = none := by
          intro b hb o e
          have z := I'.pin (b, o) (List.mem_append_right _ (List.mem_append_right _ (mem_pinsAt hb e)))
          exact ⟨z.1, z.2.1⟩
        refine ⟨m', lt, i + 1, H', (I'.unpinned (pins := [])).weak (by rw [← hw8, wipe_length]) (fun j v e => ?_), T.keep _ _ _ st7 fun b hb o e => (pin b hb o e).1, fun b hb => ?_, w'⟩
        · rw [← hw8] at e
          exact (wipe_some e).1
        · obtain ⟨o, e, _⟩ := T.obj _ _ st7 b hb
          exact (pin b hb o e).2
      cases b with
      | false =>
        simp only [Bool.false_eq_true, if_false] at q9 ⊢
        exact fin I9 q9
      | true =>
        simp only [if_true] at q9 ⊢
        refine thnF (pk.run _ s9 σ8 H9 _ I9 q9) ?_
        rintro z s10 ⟨yk, H10, I10, r10, q10⟩
        refine thnF (pv.run _ s10 σ8 H10 _ I10 q10) ?_
        rintro z2 s11 ⟨yv, H11, I11, r11, a, k, xs, rfl, rfl, hn, nk, dk, lz, nx⟩
        cases r10
        cases r11
        exact nd_dictSet (X := Blk X scope s3 H3 C cl fp) (by show X.A.units + 8 < cLine; omega) I11 hn nk dk lz fun s12 I12 => fin I12 nx
  exact codeAny_compStart_dict loop (T.self X.A 0 _ _ _ st4 loop)
end
end My

set_option Elab.async false
set_option linter.all false
set_option maxRecDepth 100000
set_option maxHeartbeats 2000000
namespace My
open PySem PySem.Spec PyProof.Rows L2 PySem.SeqAt PySem.W
section
variable {X : Cx} {kx vx tg iter : Expr} {ifs : List Expr} {scope : Scope} {own : List (Str × Nat)} {pos spos py : Pos} {wi : TI} {g : TG} {tt : TT} {tk tv : TE} {i : Nat} {y : Str}
theorem sw_dict {gs : List Comprehension} {l : Nat} {env : Env} (hk : env.scope.kind = .function) (hy : env.scope.names.lookup y = some .local) (hl : (py.line == pos.line) = true) (ha : (scope.names.any fun (n, k) => n == y && (k == .local || k == .cell)) = false) :
    swapsWith (.DictComp kx vx gs scope pos) (some (.Name y py)) l env = pure true := by
  have k1 : env.kindOf y = some .local := hy
  have k2 : env.blockKind = .function := by
    unfold Env.blockKind
    rw [hk]
    rfl
  unfold swapsWith
  simp only [k2, k1, ha, Expr.pos, hl]
  rfl
/-- as a value -/
theorem pe_dcN (hu : X.A.units + 64 < cLine) (calm : X.calm = true) (nd : X.N.Nodup) (hi : PI X tg iter wi) (ok : BlkOk X.N X.env.scope scope own)
    (hg : ∀ s H C cl fp, PG (Blk X scope s H C cl fp) tg g) (ht : ∀ s H C cl fp, PTs (Blk X scope s H C cl fp) ifs tt) (hk : ∀ s H C cl fp, PE (Blk X scope s H C cl fp) kx tk) (hv : ∀ s H C cl fp, PE (Blk X scope s H C cl fp) vx tv)
    (fold : ∀ x, foldedSetIterable iter X.env x = pure x := by intro _; rfl) : PE X (.DictComp kx vx [⟨tg, iter, ifs, 0⟩] scope pos) (tDcN X.prog X.w wi g tt tk tv (own.map (·.2))) := by
  constructor
  intro pins s σ H Q I h
  rw [arm_eval_DictComp]
  refine dcN_core hu calm nd I hi ok hg ht hk hv fold h ?_
  rintro D C s' m H' I' q hn ⟨f0, f1, f2, f3, f4, f5⟩
  exact ⟨m, hn, fun h2 sb => ⟨.ref D, H', I'.turned (t' := s'.toks) (fun b o hb e => (sb.2 b hb).trans e) f0 f1 f3 f4 f5, rfl, q⟩⟩
/-- name = {..} on one line, the name a local -/
theorem ps_setDcN (hu : X.A.units + 64 < cLine) (calm : X.calm = true) (nd : X.N.Nodup) (hy : X.N[i]? = some y) (hyl : X.env.scope.names.lookup y = some .local) (hsw : swapsWith (.DictComp kx vx [⟨tg, iter, ifs, 0⟩] scope pos) (some (.Name y py)) spos.line X.env = pure true)
    (hi : PI X tg iter wi) (ok : BlkOk X.N X.env.scope scope own)
    (hg : ∀ s H C cl fp, PG (Blk X scope s H C cl fp) tg g) (ht : ∀ s H C cl fp, PTs (Blk X scope s H C cl fp) ifs tt) (hk : ∀ s H C cl fp, PE (Blk X scope s H C cl fp) kx tk) (hv : ∀ s H C cl fp, PE (Blk X scope s H C cl fp) vx tv)
    (fold : ∀ x, foldedSetIterable iter X.env x = pure x := by intro _; rfl) : PS X (.Assign [.Name y py] (.DictComp kx vx [⟨tg, iter, ifs, 0⟩] scope pos) spos) (tAsg (tDcN X.prog X.w wi g tt tk tv (own.map (·.2))) (gName i)) := by
  constructor
  intro pins s σ H D I h
  rw [exec_Assign_Name_used _ _ _ _ hsw]
  refine wpAny_bind (wpAny_standAt (wpAny_bind ?_))
  show wpAny _ X.A (do let _ ← comprehension (.DictComp kx vx [⟨tg, iter, ifs, 0⟩] scope pos) scope X.env (firstIterPos [⟨tg, iter, ifs, 0⟩] pos) newDict false (eval iter X.env) (some (assign (.Name y py) X.env))) _ _ s
  have h2 : tDcN X.prog X.w wi g tt tk tv (own.map (·.2)) σ H (fun x H1 => gName i x σ H1 D.nx) := h
  refine wpAny_bind (thn (dcN_core (Qf := fun _ s' => SP X pins D .next s') hu calm nd I hi ok hg ht hk hv fold h2 ?_) fun _ s' hq => wpAny_pure (wpAny_pure hq))
  rintro L C s' m H' I' q hn ⟨f0, f1, f2, f3, f4, f5⟩
  show wpAny _ _ (assign (.Name y py) X.env (.ref L)) _ _ _
  refine wpAny_assign_Name (store_ok2 (v := V.ref L) I' nd hy (.inl hyl) rfl ?_ (.inr hyl))
  rintro s2 I2 ⟨a, sb, ha⟩
  have ne : C ≠ a := ha.elim (fun z => by rw [z]; exact f1) fun z e => f4 y a z e.symm
  exact ⟨m, hn.sameBut sb ne, fun h3 sb3 => ⟨_, H', I2.turned (t' := s2.toks) (fun b o hb e => (sb3.2 b hb).trans e) f0 f1 f3 f4 f5, q⟩⟩
end
/-- a walk's turns -/
theorem dcN_it {P : Program} {w : World} {J : It} {n : Nat} {G : Hp → Prop} {Y : Nat → Hp → V → Hp → Prop} (wk : Walk J n G Y) {g : TG} {tt : TT} {tk tv : TE} {vs : List Nat} {σ : L2.St} {H1 : Hp} {D : Addr} {Qd : Hp → Prop} (Pv : Nat → Hp → Prop) (h0 : Pv 0 (upd H1 D (.dK []))) (hG : ∀ i H, i ≤ n → Pv i H → G H)
    (hs : ∀ i x H H', i < n → Pv i H → Y i H x H' → g x (wipe σ vs) H' fun σ2 H2 => wipe σ2 vs = wipe σ vs ∧ tt σ2 H2 fun b H3 => if b = true then tk σ2 H3 fun y H4 => tv σ2 H4 fun z H5 =>
      ∃ a k xs, y = .ref a ∧ z = .bl true ∧ NdAt P w H5 D xs ∧ Nk H5 (.ref a) k ∧ k.depth ≤ 8 ∧ xs.length < sizeLine ∧ Pv (i + 1) (upd H5 D (ND P w D (putN xs k a))) else Pv (i + 1) H3)
    (hd : ∀ H, Pv n H → Qd H) : ∃ W : Nat → Nat → Hp → Prop, (∃ m, W 0 m (upd H1 D (.dK []))) ∧ ∀ i m H', W i m H' → DcStep P w J g tt tk tv vs σ D Qd W i m H' := by
  refine ⟨fun i m H => m = n - i ∧ i ≤ n ∧ Pv i H, ⟨n, by simp, Nat.zero_le _, h0⟩, ?_⟩
  rintro i m H ⟨rfl, hi, p⟩
  have q := hG i H hi p
  by_cases lt : i < n
  · exact .inr ⟨wk.goes i H lt q, Pv (i + 1), fun H' p' => ⟨n - (i + 1), by omega, rfl, lt, p'⟩, fun x H' y => hs i x H H' lt p (wk.yields i H x H' lt q y)⟩
  · obtain rfl : i = n := by omega
    exact .inl ⟨wk.stops H q, hd H p⟩
end My

set_option Elab.async false
set_option linter.all false
set_option maxRecDepth 100000
set_option maxHeartbeats 2000000
/-! Pages as data: their places, how these stand, lists that are put in order. -/
namespace My
open PySem PySem.Spec PyProof.Rows L2 PySem.SeqAt PySem.W
def HomeW (ws : List Int) : Prop := ws.length ≤ 7 ∧ ∀ w ∈ ws, 0 ≤ w ∧ w < 7
/-- what stands behind a page's day -/
inductive Rest : Str → List NestedKey → Prop
  | house {a : Str} {ws : List Int} : Plain a → HomeW ws → Rest "house" [.text a, .tup (ws.map .num)]
  | home {a : Str} {ws : List Int} : Plain a → HomeW ws → Rest "home" [.text a, .tup (ws.map .num)]
  | part {a b : Str} {ws : List Int} : Plain a → Plain b → HomeW ws → Rest "part" [.text a, .text b, .tup (ws.map .num)]
  | mourn {a : Str} {m : Int} : Plain a → 0 ≤ m → m ≤ 60 → Rest "mourn" [.text a, .num m]
  | join {a b : Str} : Plain a → Plain b → Rest "join" [.text a, .text b]
  | ahead {a b : Str} : Plain a → Plain b → Rest "ahead" [.text a, .text b]
  | card {a b : Str} : Plain a → Plain b → Rest "card" [.text a, .text b]
  | visit {a b : Str} : Plain a → Plain b → Rest "visit" [.text a, .text b]
def PgK (k : NestedKey) : Prop := ∃ z d r, k = .tup (.text z :: .num d :: r) ∧ Rest z r ∧ 0 ≤ d ∧ d < 20000
def ixK (z : Str) : Nat := kinds.idxOf z
def place : NestedKey → NestedKey
  | .tup (.text z :: .num d :: r) => .tup [.num d, .num (ixK z), .tup (.text z :: .num d :: r)]
  | k => k
theorem place_eq (z : Str) (d : Int) (r : List NestedKey) : place (.tup (.text z :: .num d :: r)) = .tup [.num d, .num (ixK z), .tup (.text z :: .num d :: r)] := rfl
theorem lt_nums : ∀ ws vs : List Int, ∃ c, ltAll (ws.map .num) (vs.map .num) = some c
  | [], [] => ⟨_, by rw [List.map_nil, ltAll]⟩
  | [], _ :: _ => ⟨true, by rw [List.map_nil, List.map_cons, ltAll]⟩
  | _ :: _, [] => ⟨false, by rw [List.map_nil, List.map_cons, ltAll]⟩
  | a :: ws, b :: vs => by
    rw [List.map_cons, List.map_cons, ltAll]
    split
    · exact lt_nums ws vs
    · exact ⟨_, by rw [ltK]⟩
theorem lt_step {x y : NestedKey} {xs ys : List NestedKey} (h1 : ∃ c, ltK x y = some c) (h2 : ∃ c, ltAll xs ys = some c) : ∃ c, ltAll (x :: xs) (y :: ys) = some c := by
  rw [ltAll]
  split
  · exact h2
  · exact h1
theorem lt_text (a b : Str) : ∃ c, ltK (.text a) (.text b) = some c := ⟨_, by rw [ltK]⟩
theorem lt_num (a b : Int) : ∃ c, ltK (.num a) (.num b) = some c := ⟨_, by rw [ltK]⟩
theorem lt_nil : ∃ c, ltAll [] [] = some c := ⟨_, by rw [ltAll]⟩
theorem lt_home (ws vs : List Int) : ∃ c, ltK (.tup (ws.map .num)) (.tup (vs.map .num)) = some c := by
  rw [ltK]
  exact lt_nums ws vs
theorem rest_lt {z : Str} {r r' : List NestedKey} (h : Rest z r) (h' : Rest z r') : ∃ c, ltAll r r' = some c := by
  have ne : ∀ {a b : String}, (Str.ofString a == Str.ofString b) = false → Str.ofString a = Str.ofString b → False := fun {a b} e z => by rw [z] at e; simp at e
  generalize hz : z = z' at h'
  cases h <;> cases h' <;> first
    | exact lt_step (lt_text _ _) (lt_step (lt_home _ _) lt_nil)
    | exact lt_step (lt_text _ _) (lt_step (lt_text _ _) (lt_step (lt_home _ _) lt_nil))
    | exact lt_step (lt_text _ _) (lt_step (lt_num _ _) lt_nil)
    | exact lt_step (lt_text _ _) (lt_step (lt_text _ _) lt_nil)
    | exact (ne (by decide +kernel) hz).elim
theorem ixK_inj {z z' : Str} {r r' : List NestedKey} (h : Rest z r) (h' : Rest z' r') (e : ixK z = ixK z') : z = z' := by
  cases h <;> cases h' <;> first | rfl | exact absurd e (by decide +kernel)
/-- each two pages' places can be compared -/
theorem place_lt {k k' : NestedKey} (h : PgK k) (h' : PgK k') : ∃ c, ltK (place k) (place k') = some c := by
  obtain ⟨z, d, r, rfl, hr, _⟩ := h
  obtain ⟨z', d', r', rfl, hr', _⟩ := h'
  rw [place_eq, place_eq, ltK]
  by_cases e : ixK z = ixK z'
  · have ez := ixK_inj hr hr' e
    subst ez
    exact lt_step (lt_num _ _) (lt_step (lt_num _ _) (lt_step (by rw [ltK]; exact lt_step (lt_text _ _) (lt_step (lt_num _ _) (rest_lt hr hr'))) lt_nil))
  · rw [ltAll]
    split
    · rw [ltAll, if_neg (fun q => e (by injection q with q; exact Int.ofNat.inj q))]
      exact lt_num _ _
    · exact lt_num _ _
theorem place_depth {k : NestedKey} (h : PgK k) : (place k).depth ≤ 50 ∧ k.depth ≤ 8 := by
  obtain ⟨z, d, r, rfl, hr, _⟩ := h
  have hn : ∀ ws : List Int, NestedKey.depthAll (ws.map .num) = 0 := fun ws => by
    induction ws with
    | nil => rw [List.map_nil, NestedKey.depthAll]
    | cons a l ih => rw [List.map_cons, NestedKey.depthAll, ih, NestedKey.depth]; rfl
  have hd : NestedKey.depthAll r ≤ 2 := by
    cases hr <;> simp only [NestedKey.depthAll, NestedKey.depth, hn] <;> decide
  rw [place_eq]
  simp only [NestedKey.depthAll, NestedKey.depth]
  omega
theorem place_head {k : NestedKey} (h : PgK k) : ∃ i r, place k = .tup (.num i :: r) := by
  obtain ⟨z, d, r, rfl, _⟩ := h
  exact ⟨_, _, rfl⟩
theorem place_inj {k k' : NestedKey} (h : PgK k) (h' : PgK k') (e : place k = place k') : k = k' := by
  obtain ⟨z, d, r, rfl, _⟩ := h
  obtain ⟨z', d', r', rfl, _⟩ := h'
  rw [place_eq, place_eq] at e
  injection e with e
  simp only [List.cons.injEq] at e
  exact e.2.2.1
end My

set_option Elab.async false
set_option linter.all false
set_option maxRecDepth 100000
set_option maxHeartbeats 2000000
namespace My
open PySem PySem.Spec PyProof.Rows L2 PySem.SeqAt PySem.W
theorem text_total {x y : Str} (h1 : ¬ x.cps.toList < y.cps.toList) (h2 : ¬ y.cps.toList < x.cps.toList) : x = y :=
  str_of_cps (strKind.total _ _ (decide_eq_false h1) (decide_eq_false h2))
theorem text_asym {x y : Str} (h1 : x.cps.toList < y.cps.toList) (h2 : y.cps.toList < x.cps.toList) : False := by
  have := strKind.trans _ _ _ (decide_eq_true h1) (decide_eq_true h2)
  rw [strKind.irrefl] at this
  cases this
mutual
theorem flipK : ∀ (x y : NestedKey) (c : Bool), x ≠ y → ltK x y = some c → ltK y x = some (!c)
  | .num i, .num j, c, ne, e => by
    rw [ltK] at e ⊢
    cases e
    have : i ≠ j := fun z => ne (by rw [z])
    by_cases h : i < j
    · rw [decide_eq_true h, decide_eq_false (by omega)]; rfl
    · rw [decide_eq_false h, decide_eq_true (by omega)]; rfl
  | .text x, .text y, c, ne, e => by
    rw [ltK] at e ⊢
    cases e
    by_cases h : x.cps.toList < y.cps.toList
    · rw [decide_eq_true h, decide_eq_false (fun h2 => text_asym h h2)]; rfl
    · rw [decide_eq_false h, decide_eq_true (Classical.byContradiction fun h2 => ne (by rw [text_total h h2]))]; rfl
  | .tup xs, .tup ys, c, ne, e => by
    rw [ltK] at e ⊢
    exact flipAll xs ys c (fun z => ne (by rw [z])) e
  | .none, y, c, ne, e => by cases y <;> simp [ltK] at e
  | .num i, .none, c, ne, e => by simp [ltK] at e
  | .num i, .text _, c, ne, e => by simp [ltK] at e
  | .num i, .tup _, c, ne, e => by simp [ltK] at e
  | .text i, .none, c, ne, e => by simp [ltK] at e
  | .text i, .num _, c, ne, e => by simp [ltK] at e
  | .text i, .tup _, c, ne, e => by simp [ltK] at e
  | .tup i, .none, c, ne, e => by simp [ltK] at e
  | .tup i, .num _, c, ne, e => by simp [ltK] at e
  | .tup i, .text _, c, ne, e => by simp [ltK] at e
theorem flipAll : ∀ (xs ys : List NestedKey) (c : Bool), xs ≠ ys → ltAll xs ys = some c → ltAll ys xs = some (!c)
  | [], [], c, ne, e => absurd rfl ne
  | [], y :: ys, c, ne, e => by
    rw [ltAll] at e
    cases e
    rw [ltAll]
    rfl
  | x :: xs, [], c, ne, e => by
    rw [ltAll] at e
    cases e
    rw [ltAll]
    rfl
  | x :: xs, y :: ys, c, ne, e => by
    rw [ltAll] at e ⊢
    by_cases h : x = y
    · subst h
      rw [if_pos rfl] at e ⊢
      exact flipAll xs ys c (fun z => ne (by rw [z])) e
    · rw [if_neg h] at e
      rw [if_neg (fun z => h z.symm)]
      exact flipK x y c h e
end
/-- the first page stands ahead of the other one -/
def ahead (k k' : NestedKey) : Bool := lexT (toks (place k)) (toks (place k'))
theorem ahead_lt {k k' : NestedKey} (h : PgK k) (h' : PgK k') : ltK (place k) (place k') = some (ahead k k') := by
  obtain ⟨c, e⟩ := place_lt h h'
  obtain ⟨i, r, e1⟩ := place_head h
  obtain ⟨i', r', e2⟩ := place_head h'
  have e3 := e
  rw [e1, e2, ltK] at e3
  have := lex_tup e3
  rw [← e1, ← e2] at this
  rw [e]
  exact congrArg some this.symm
theorem ahead_self (k : NestedKey) : ahead k k = false := lex_irrefl _
theorem ahead_trans {a b c : NestedKey} (h1 : ahead a b = true) (h2 : ahead b c = true) : ahead a c = true := lex_trans _ _ _ h1 h2
theorem ahead_flip {k k' : NestedKey} (h : PgK k) (h' : PgK k') (ne : k ≠ k') : ahead k' k = !ahead k k' := by
  have h1 := ahead_lt h h'
  have h2 := ahead_lt h' h
  rw [flipK _ _ _ (fun z => ne (place_inj h h' z)) h1] at h2
  exact (Option.some.inj h2).symm
/-- strictly rising by places -/
abbrev Ord (l : List NestedKey) : Prop := l.Pairwise fun a b => ahead a b = true
theorem ord_unique : ∀ {l m : List NestedKey}, Ord l → Ord m → (∀ k, k ∈ l ↔ k ∈ m) → l = m
  | [], [], _, _, _ => rfl
  | [], b :: _, _, _, h => absurd ((h b).mpr (.head _)) (by simp)
  | a :: _, [], _, _, h => absurd ((h a).mp (.head _)) (by simp)
  | a :: l, b :: m, hl, hm, h => by
    have ea : a = b := by
      rcases List.mem_cons.mp ((h a).mp (.head _)) with e | e
      · exact e
      · rcases List.mem_cons.mp ((h b).mpr (.head _)) with e2 | e2
        · exact e2.symm
        · have h1 := (List.pairwise_cons.mp hm).1 a e
          have h2 := (List.pairwise_cons.mp hl).1 b e2
          have := ahead_trans h1 h2
          rw [ahead_self] at this
          cases this
    subst ea
    have na : ∀ {n : List NestedKey}, Ord (a :: n) → a ∉ n := fun hn z => by
      have := (List.pairwise_cons.mp hn).1 a z
      rw [ahead_self] at this
      cases this
    rw [ord_unique (List.pairwise_cons.mp hl).2 (List.pairwise_cons.mp hm).2 fun k => ⟨fun hk => ?_, fun hk => ?_⟩]
    · rcases List.mem_cons.mp ((h k).mp (.tail _ hk)) with e | e
      · subst e; exact absurd hk (na hl)
      · exact e
    · rcases List.mem_cons.mp ((h k).mpr (.tail _ hk)) with e | e
      · subst e; exact absurd hk (na hm)
      · exact e
end My

set_option Elab.async false
set_option linter.all false
set_option maxRecDepth 100000
set_option maxHeartbeats 2000000
namespace My
open PySem PySem.Spec PyProof.Rows L2 PySem.SeqAt PySem.W
theorem zip_two (xs : List (NestedKey × Addr)) : (xs.map fun p => V.ref p.2).zip (xs.map (·.1)) = xs.map fun p => (V.ref p.2, p.1) := by
  induction xs with
  | nil => rfl
  | cons p xs ih => rw [List.map_cons, List.map_cons, List.map_cons, List.zip_cons_cons, ih]
theorem nk_pairs {H : Hp} : ∀ {l : List (V × NestedKey)}, (∀ b ∈ l, Nk H b.1 b.2) → NkAll H (l.map Prod.fst) (l.map Prod.snd)
  | [], _ => .nil
  | b :: l, h => .cons (h b (.head _)) (nk_pairs fun c hc => h c (.tail _ hc))
/-- the keys of such a dict, sorted by places -/
theorem sortD_ok {H : Hp} {F : NestedKey → NestedKey} {xs : List (NestedKey × Addr)} (hF : ∀ p ∈ xs, ∀ q ∈ xs, lexT (toks (F p.1)) (toks (F q.1)) = ahead p.1 q.1) (hk : ∀ p ∈ xs, Nk H (.ref p.2) p.1) (hp : ∀ p ∈ xs, PgK p.1) (nd : (xs.map (·.1)).Nodup) :
    ∃ ks, NkAll H (sortD F xs) ks ∧ Ord ks ∧ ∀ k, k ∈ ks ↔ k ∈ xs.map (·.1) := by
  have pm := List.mergeSort_perm ((xs.map fun p => V.ref p.2).zip (xs.map (·.1))) (leF F)
  have pw := sort_pairwise (sortLe_total (listOrd itemOrd) false fun b : V × NestedKey => toks (F b.2)) ((xs.map fun p => V.ref p.2).zip (xs.map (·.1)))
  unfold sortD
  change List.Pairwise (fun a b => leF F a b = true) (((xs.map fun p => V.ref p.2).zip (xs.map (·.1))).mergeSort (leF F)) at pw
  generalize ((xs.map fun p => V.ref p.2).zip (xs.map (·.1))).mergeSort (leF F) = l at pm pw ⊢
  rw [zip_two] at pm
  have mem : ∀ b ∈ l, ∃ p ∈ xs, b = (V.ref p.2, p.1) := fun b hb => by
    obtain ⟨p, hp, e⟩ := List.mem_map.mp (pm.mem_iff.mp hb)
    exact ⟨p, hp, e.symm⟩
  have pk : (l.map Prod.snd).Perm (xs.map (·.1)) := by
    have := pm.map Prod.snd
    rwa [List.map_map] at this
  refine ⟨l.map Prod.snd, nk_pairs fun b hb => ?_, ?_, fun k => pk.mem_iff⟩
  · obtain ⟨p, hp, rfl⟩ := mem b hb
    exact hk p hp
  · have nl : (l.map Prod.snd).Nodup := pk.nodup_iff.mpr nd
    have nl2 : l.Pairwise fun a b => a.2 ≠ b.2 := List.pairwise_map.mp nl
    refine List.pairwise_map.mpr ((pw.and nl2).imp_of_mem fun {a b} ha hb h => ?_)
    obtain ⟨p, hp1, rfl⟩ := mem a ha
    obtain ⟨q, hq1, rfl⟩ := mem b hb
    have h1 : (!lexT (toks (F q.1)) (toks (F p.1))) = true := h.1
    rw [hF q hq1 p hp1] at h1
    have := ahead_flip (hp p hp1) (hp q hq1) h.2
    rw [this] at h1
    simpa using h1
theorem putN_keys (xs : List (NestedKey × Addr)) (k : NestedKey) (a : Addr) : (∀ x, x ∈ (putN xs k a).map (·.1) ↔ x = k ∨ x ∈ xs.map (·.1)) ∧ ((xs.map (·.1)).Nodup → ((putN xs k a).map (·.1)).Nodup) ∧ (putN xs k a).length ≤ xs.length + 1 := by
  unfold putN
  split
  · rename_i h
    exact ⟨fun x => ⟨.inr, fun e => e.elim (fun z => by rw [z]; exact h) id⟩, id, Nat.le_succ _⟩
  · rename_i h
    refine ⟨fun x => ?_, fun nd => ?_, by rw [List.length_append]; exact Nat.le_refl _⟩
    · rw [List.map_append, List.mem_append]
      constructor
      · rintro (e | e)
        · exact .inr e
        · exact .inl (by simpa using e)
      · rintro (e | e)
        · exact .inr (by simpa using e)
        · exact .inl e
    · rw [List.map_append, List.nodup_append]
      refine ⟨nd, by simp, fun x hx y hy => ?_⟩
      obtain rfl : y = k := by simpa using hy
      exact fun z => h (by rw [← z]; exact hx)
theorem putN_mem {xs : List (NestedKey × Addr)} {k : NestedKey} {a : Addr} {p : NestedKey × Addr} (h : p ∈ putN xs k a) : p ∈ xs ∨ p = (k, a) := by
  unfold putN at h
  split at h
  · exact .inl h
  · rcases List.mem_append.mp h with h | h
    · exact .inl h
    · exact .inr (List.mem_singleton.mp h)
end My

set_option Elab.async false
set_option linter.all false
set_option maxRecDepth 100000
set_option maxHeartbeats 2000000
/-! The end of a law whose promise wants that no repr is under way, with tables of codes. -/
namespace GU
open PySem PySem.Spec PyProof.Rows L2
/-- what is tracked at the head: the script's list (where it is not the text's own) and the tables -/
def headH (own : Bool) (a : Addr) (T : List Addr) (o : Obj) (xs : List V) : Hp := fun b =>
  if b ∈ T then some (.tbl #[]) else if b = a ∧ own = false then some (.frz o (.lst xs)) else none
section
variable {own : Bool} {a b : Addr} {T : List Addr} {o : Obj} {xs : List V}
theorem head_tbl (h : b ∈ T) : headH own a T o xs b = some (.tbl #[]) := if_pos h
theorem head_scr (h : a ∉ T) (e : own = false) : headH own a T o xs a = some (.frz o (.lst xs)) := (if_neg h).trans (if_pos ⟨rfl, e⟩)
theorem head_cases (b : Addr) : (b ∈ T ∧ headH own a T o xs b = some (.tbl #[])) ∨ (b ∉ T ∧ b = a ∧ own = false ∧ headH own a T o xs b = some (.frz o (.lst xs))) ∨ (b ∉ T ∧ ¬ (b = a ∧ own = false) ∧ headH own a T o xs b = none) := by
  by_cases h : b ∈ T
  · exact .inl ⟨h, if_pos h⟩
  · by_cases k : b = a ∧ own = false
    · exact .inr (.inl ⟨h, k.1, k.2, (if_neg h).trans (if_pos k)⟩)
    · exact .inr (.inr ⟨h, k, (if_neg h).trans (if_neg k)⟩)
end
theorem law_callG {P : Program} {w : World} {K : PySem.W.Frag} {mg mb : Str → Option Value} {CX : CXT} {k : Nat} {fa a : Addr} {cs : List (Addr × Addr)} {fd : FuncData} {x : Str} {sp : Sp} {s : Shared} {vs : List Value} {ns : List Int}
    (inK : K.In s.heap) (glob : s.heap.Ns mainGlobals mg) (bltn : s.heap.Ns builtinsNs mb) (boot : ∀ x : Str, x ≠ "__name__" → mb x = bootBuiltins x) (lim : s.heap.NoLimit) (gens : s.gens = #[])
    (tabs : ∀ p ∈ cs, s.heap.get? p.2 = some { cls := .none, data := .fields #[] }) (far : ∀ p ∈ cs, K.lookup p.2 = none) (heads : ∀ p ∈ cs, PySem.W.CodeHd s.heap p.1 p.2)
    (bmod : ∃ (bm : Addr) (ob : Obj), mg "__builtins__" = some (.ref bm) ∧ bm ≠ builtinsNs ∧ s.heap.get? bm = some ob ∧ ob.cls = .type "module" ∧ ob.dict = some builtinsNs ∧ ob.data = .plain)
    (scr : s.heap.get? a = some { cls := .type "list", data := .seq vs.toArray }) (nums : IntsAre vs ns) (few : ns.length ≤ sizeLine) (room : Room k callerA)
    (F : ∀ base : Heap, K.In base → base.Ns mainGlobals mg → (∀ p ∈ cs, LamX.TabB base mg p.1 p.2) → FnG P w K mg base CX k fa fd [x] sp) (binds : ∀ (s : Shared) (u : Value), BindsTo s fd ⟨[u], []⟩ [(x, u)])
    (want : ∀ H : Hp, (∀ p ∈ cs, H p.2 = some (.tbl #[])) → SqL K H a (ns.map V.int) → sp [.ref a] H (fun v _ => v = .bl true) fun _ _ _ => False)
    (calm : ∀ H e s', CX [] H s (fun _ _ _ => False) e s' → False) :
    codeAny (model P w) callerA (.call (.ref fa) ⟨[.ref a], []⟩) (fun r s' => r = .ok (.ret (.bool true)) ∧ OldK s.heap s'.heap ∧ s'.os = s.os ∧ AllBare s'.gens) s := by
  let T := cs.map (·.2)
  let oA : Obj := { cls := .type "list", data := .seq vs.toArray }
  have tabT : ∀ b ∈ T, s.heap.get? b = some { cls := .none, data := .fields #[] } := by
    intro b hb
    obtain ⟨p, hp, rfl⟩ := List.mem_map.mp hb
    exact tabs p hp
  have farT : ∀ b ∈ T, K.lookup b = none := by
    intro b hb
    obtain ⟨p, hp, rfl⟩ := List.mem_map.mp hb
    exact far p hp
  have inT : ∀ p ∈ cs, p.2 ∈ T := fun p hp => List.mem_map.mpr ⟨p, hp, rfl⟩
  have apart : a ∉ T := fun z => by
    have q := (tabT a z).symm.trans scr
    cases congrArg Obj.data (Option.some.inj q)
  obtain ⟨own, hown⟩ : ∃ own : Bool, own = (K.lookup a).isSome := ⟨_, rfl⟩
  generalize hH : headH own a T oA (ns.map V.int) = H
  have cases3 := fun b => hH ▸ head_cases (own := own) (a := a) (T := T) (o := oA) (xs := ns.map V.int) b
  have vals := vals_ints nums
  have read : SqL K H a (ns.map V.int) := by
    cases e : K.lookup a with
    | none =>
      rw [e] at hown
      exact .inl (.inr ⟨oA, hH ▸ head_scr apart hown⟩)
    | some o =>
      obtain rfl : o = oA := Option.some.inj ((inK a o e).symm.trans scr)
      exact .inr ⟨oA, vs.toArray, _, e, rfl, rfl, rfl, by rw [List.size_toArray, nums.length]; exact few, by simpa using vals⟩
  have hok : HOk P w H s.heap := by
    intro b u e
    rcases cases3 b with ⟨hb, z⟩ | ⟨_, rfl, _, z⟩ | ⟨_, _, z⟩
    · cases z.symm.trans e
      exact tabT b hb
    · cases z.symm.trans e
      exact ⟨scr, by rw [List.length_map]; exact few, vs, _, vals, scr⟩
    · cases z.symm.trans e
  have clear : ∀ {b : Addr} {o : Obj}, s.heap.get? b = some o → (∀ vs n, o.data ≠ .seq vs n) → o.data ≠ .fields #[] → H b = none := by
    intro b o e h1 h2
    rcases cases3 b with ⟨hb, _⟩ | ⟨_, rfl, _, _⟩ | ⟨_, _, z⟩
    · cases (tabT b hb).symm.trans e
      exact (h2 rfl).elim
    · cases scr.symm.trans e
      exact (h1 _ _ rfl).elim
    · exact z
  have names : ∀ {b : Addr} {m : Str → Option Value}, s.heap.Ns b m → (hidT s.heap H).Ns b m := by
    rintro b m ⟨o, es, ep, e, d, r⟩
    exact ⟨o, es, ep, hidT_get e (clear e (fun vs n z => by rw [d] at z; cases z) fun z => by rw [d] at z; cases z), d, r⟩
  have inB : K.In (hidT s.heap H) := by
    intro b o e
    refine hidT_get (inK b o e) ?_
    rcases cases3 b with ⟨hb, _⟩ | ⟨_, rfl, ho, _⟩ | ⟨_, _, z⟩
    · cases (farT b hb).symm.trans e
    · rw [hown, e] at ho
      cases ho
    · exact z
  have md : L2.Mod K mg (hidT s.heap H) := ⟨inB, names glob, ⟨mb, names bltn, boot⟩, lim.imp fun mc h => ⟨names h.1, h.2⟩⟩
  have tb : ∀ p ∈ cs, LamX.TabB (hidT s.heap H) mg p.1 p.2 := by
    intro p hp
    obtain ⟨og, eg, pg, ag, dg, rg⟩ := id glob
    refine ⟨?_, ?_, fun z => ?_⟩
    · obtain ⟨o, us, file, tf, flags, tg, inF, text, tt, e1, r1, r2, r3, rest⟩ := heads p hp
      refine ⟨o, us, file, tf, flags, tg, inF, text, tt, hidT_get e1 (clear e1 (fun vs n z => ?_) fun z => ?_), r1, r2, r3, rest⟩
      · cases r2.symm.trans z
      · cases r2.symm.trans z
        simp at r3
    · obtain ⟨bm, ob, b1, b2, b3, b4, b5, b6⟩ := bmod
      refine ⟨bm, ob, b1, b2, fun q => ?_, fun q => ?_, hidT_get b3 (clear b3 (fun vs n z => ?_) fun z => ?_), b4, b5, b6⟩
      · rw [q] at b3
        cases ag.symm.trans b3
        cases dg.symm.trans b6
      · rw [q] at b3
        cases (tabs p hp).symm.trans b3
        cases b6
      · cases b6.symm.trans z
      · cases b6.symm.trans z
    · rw [z] at ag
      cases (tabs p hp).symm.trans ag
      cases dg
  have env : Env0 P w K mg (hidT s.heap H) callerA [] s H :=
    { frames := rfl, mod := md, bs := fun b o e => of_hidT e, bsz := Nat.le_of_eq (hidT_size _ _), funs := trivial, frf := fun b hb => absurd (show b ∈ ([] : List Addr) from hb) (by simp), hok := hok, bare := .of_eq gens }
  have hT : ∀ p ∈ cs, H p.2 = some (.tbl #[]) := fun p hp => hH ▸ head_tbl (inT p hp)
  refine codeAny_mono ((F _ inB (names glob) tb).go callerA rfl [] s H ⟨[.ref a], []⟩ [.ref a] [.ref a] _ _ room env (binds s (.ref a)) (.cons rfl .nil) (want H hT read)) ?_
  intro r s' h
  match r, h with
  | .error e, h => exact (calm H e s' h).elim
  | .ok (.ret u), h =>
    obtain ⟨v, H', os, bare, un, hok', rel, q⟩ := h
    obtain rfl : v = .bl true := q
    obtain rfl : u = Value.bool true := rel
    have same : ∀ b o, b ∉ T → s.heap.get? b = some o → s'.heap.get? b = some o := by
      intro b o nb e
      rcases cases3 b with ⟨hb, _⟩ | ⟨_, rfl, _, z⟩ | ⟨_, _, z⟩
      · exact absurd hb nb
      · have e2 := (hok' b _ (un.frzs b _ _ z)).1
        cases scr.symm.trans e
        exact e2
      · exact un.keep b o e z (fun z => absurd (show b ∈ ([] : List Addr) from z) (by simp)) (by simp)
    have more : ∀ p ∈ cs, ∃ ps : Array Value, s'.heap.get? p.2 = some { cls := .none, data := .fields ps } := by
      intro p hp
      obtain ⟨ps, z⟩ := un.tbls p.2 #[] (hT p hp)
      exact ⟨_, hok' p.2 _ z⟩
    refine ⟨rfl, ⟨fun b o e => ?_, fun b o e => ?_⟩, os, bare⟩
    all_goals
      by_cases hb : b ∈ T
      case neg => first | exact .inl (same b o hb e) | exact ⟨o, same b o hb e⟩
      obtain ⟨p, hp, rfl⟩ := List.mem_map.mp hb
      obtain ⟨ps, hm⟩ := more p hp
    · cases (tabs p hp).symm.trans e
      exact .inr (.inl ⟨((heads p hp).tab (tabs p hp)).isCodeTable, rfl, #[], ps, rfl, by rw [Array.empty_append]; exact hm⟩)
    · exact ⟨_, hm⟩
/-- what is known of the law's promise at the head's heap -/
def LawAtG (l : PySem.W.OpenLaw) (w : World) (K : PySem.W.Frag) (CX : CXT) (k n : Nat) (x : Str) (mg : Str → Option Value) (fa : Addr) (h : Heap) : Prop :=
  ∃ (fd : FuncData) (cs : List (Addr × Addr)) (sp : Sp), (∀ p ∈ cs, h.get? p.2 = some { cls := .none, data := .fields #[] }) ∧ (∀ p ∈ cs, K.lookup p.2 = none) ∧ (∀ p ∈ cs, PySem.W.CodeHd h p.1 p.2) ∧ (∀ (s : Shared) (u : Value), BindsTo s fd ⟨[u], []⟩ [(x, u)]) ∧
    (∀ (H : Hp) (a : Addr) (ns : List Int), ns.length ≤ n → (∀ p ∈ cs, H p.2 = some (.tbl #[])) → SqL K H a (ns.map V.int) → sp [.ref a] H (fun v _ => v = .bl true) fun _ _ _ => False) ∧
    ∀ base : Heap, K.In base → base.Ns mainGlobals mg → (∀ p ∈ cs, LamX.TabB base mg p.1 p.2) → FnG l.prog w K mg base CX k fa fd [x] sp
theorem walk_G {l : PySem.W.OpenLaw} {n k : Nat} {q : Program} {loose : List Str} {XP : (Str → Option Value) → Heap → Prop} {YP : World → Heap → Prop} {d : DefRec} {K : Params → PySem.W.Frag} {CX : World → CXT} {x : Str}
    (hn : l.most = some n) (hn2 : n ≤ sizeLine) (hdf : d.params.defaults = []) (hr : Room k callerA) (hY : ∀ (w : World) (h : Heap), YP w h → (K w.params).In h)
    (F : ∀ (w : World) (mg : Str → Option Value) (fa : Addr) (h : Heap), (K w.params).In h → h.Ns mainGlobals mg → mg d.name = some (.ref fa) → GE.TabsIn q (K w.params) h → LawAtG l w (K w.params) (CX w) k n x mg fa h)
    (hCX : ∀ (w : World) (H : Hp) (s : Shared) (e : Value) (s' : Shared), CX w [] H s (fun _ _ _ => False) e s' → False) :
    PySem.W.WalkO q loose XP YP l.row.toRowW d [] (fun f vs => PySem.call f vs) := by
  refine Att.attach_callB hn hdf fun w s0 s1 mg mb fa o pm cd doc a vs ns G Y ho hd hcd hmg hobj hints hlen hbits hg => ?_
  have KX := hY w _ Y
  obtain ⟨fd, cs, sp, hT, nT, C, hb, hsp, hF⟩ := F w mg fa _ KX G.T.g hmg fun x d c P h1 h2 => PySem.W.tab_of G.T KX h1 h2
  exact law_callG KX G.T.g G.T.b G.T.builtins G.T.nolimit hg hT nT C G.T.bmain hobj hints (Nat.le_trans hlen hn2) hr hF hb (fun H hH hS => hsp H a ns hlen hH hS) fun H e s' => hCX w H s1 e s'
end GU

set_option Elab.async false
set_option linter.all false
set_option maxRecDepth 100000
set_option maxHeartbeats 2000000
/-! tuple(elt for tg in iter if ..), whatever the element calls -/
namespace GE
open PySem PySem.Spec PyProof.Rows L2 GenW
section
variable {X : Cx} {pins : List (Addr × Obj)} {σ : L2.St} {H : Hp} {s : Shared}
/-- an around from which the def's generator may be woken -/
structure Near (X : Cx) (A : Around) : Prop where
  hd : A.handled = none
  fr : A.frames = X.A.frames
  dp : A.depth = X.A.depth
  un : A.units ≤ X.A.units + 8
/-- a generator that stands ready, its parts told -/
structure Parts (X : Cx) (pins : List (Addr × Obj)) (σ : L2.St) (scope : Scope) (elt tg iter : Expr) (ifs : List Expr) (gpos : Pos) (vs : List Nat) (g : TG) (tt : TT) (te : TE) (R : It → Hp → Prop) (a : Addr) (s5 : Shared) (it : Addr) (fp : List Addr) (tn : Nat → Heap → Prop) (J : It) (cenv : Env) (s4 : Shared) (H3 : Hp) (go : Obj) (gi : Nat) : Prop where
  gen : ∀ h : Heap, h.get? a = some go → h.IsGen a gi
  isg : s5.heap.IsGen a gi
  lim : s5.heap.NoLimit
  gs : s5.gens[gi]? = some (.fresh (.compStart (.GeneratorExp elt [⟨tg, iter, ifs, 0⟩] scope gpos) 0 (.ref it) .none cenv))
  T : Turn X.prog X.w X.K tg J fp it tn
  t0 : tn 0 s5.heap
  f0 : ∀ b ∈ fp, H3 b = none
  out : ∀ b ∈ fp, b < s4.heap.objs.size
  az : s4.heap.objs.size < a
  al : a < s5.heap.objs.size
  old : s4.heap.objs.size ≤ s5.heap.objs.size
  hco : cenv.scope.isCoroutine = false
  loc : cenv.locals = s4.heap.objs.size
  cel : ∀ x c, cenv.cells.lookup x = some c → c < s4.heap.objs.size
  stk : ∀ b ∈ frs X.stack, b < s4.heap.objs.size
  inv : ∀ (A : Around), Near X A → Inv (gctx X (A.deeper cenv) s4 H3 scope cenv fp) [(a, go)] (wipe σ vs) H3 s5
  pg : ∀ (A : Around), Near X A → PG (gctx X (A.deeper cenv) s4 H3 scope cenv fp) tg g
  pt : ∀ (A : Around), Near X A → PTs (gctx X (A.deeper cenv) s4 H3 scope cenv fp) ifs tt
  pe : ∀ (A : Around), Near X A → PE (gctx X (A.deeper cenv) s4 H3 scope cenv fp) elt te
  back : ∀ (A : Around) pn σ' H' s', Inv (gctx X (A.deeper cenv) s4 H3 scope cenv fp) pn σ' H' s' → Inv X pins σ H' s'
  fresh : s4.heap.objs.size ≤ s5.heap.objs.size
  read : R J H3
def MadeP (X : Cx) (pins : List (Addr × Obj)) (σ : L2.St) (scope : Scope) (elt tg iter : Expr) (ifs : List Expr) (gpos : Pos) (vs : List Nat) (g : TG) (tt : TT) (te : TE) (R : It → Hp → Prop) (u : Value) (s5 : Shared) : Prop :=
  ∃ (a it : Addr) (fp : List Addr) (tn : Nat → Heap → Prop) (J : It) (cenv : Env) (s4 : Shared) (H3 : Hp) (go : Obj) (gi : Nat), u = .ref a ∧ Parts X pins σ scope elt tg iter ifs gpos vs g tt te R a s5 it fp tn J cenv s4 H3 go gi
theorem gen_parts {c P : Addr} {elt tg iter : Expr} {ifs : List Expr} {gpos : Pos} {scope : Scope} {own : List (Str × Nat)} {wi : TI} {g : TG} {tt : TT} {te : TE} {k : Nat} {R : It → Hp → Prop}
    (hc : X.calm = true) (hN : X.N.Nodup) (hr : Room (k + 1) X.A) (TB : GxR.TabB X.base X.mg c P) (hcode : X.env.code = .ref c) (S : GSc X.N X.env.scope scope own) (hi : PI X tg iter wi)
    (hg : ∀ (A : Around) (s : Shared) (H : Hp) (C : Addr) (code : Value) (fp : List Addr), Room k A → PG (gctx X A s H scope (genEnv scope (cloFrom X.env.cells scope.names []) C code builtinsNs X.env) fp) tg g)
    (ht : ∀ (A : Around) (s : Shared) (H : Hp) (C : Addr) (code : Value) (fp : List Addr), Room k A → PTs (gctx X A s H scope (genEnv scope (cloFrom X.env.cells scope.names []) C code builtinsNs X.env) fp) ifs tt)
    (he : ∀ (A : Around) (s : Shared) (H : Hp) (C : Addr) (code : Value) (fp : List Addr), Room k A → PE (gctx X A s H scope (genEnv scope (cloFrom X.env.cells scope.names []) C code builtinsNs X.env) fp) elt te)
    (hs : ∀ v, genFold iter X.env v = pure v) (I : Inv X pins σ H s) (h : wi σ H fun J H1 => GxR.TabG H1 P ∧ ∀ H2, GxR.Tabbed P H1 H2 → R J H2) :
    wpAny (model X.prog X.w) X.A (eval (.GeneratorExp elt [⟨tg, iter, ifs, 0⟩] scope gpos) X.env) (MadeP X pins σ scope elt tg iter ifs gpos (own.map (·.2)) g tt te R) X.xe s := by
  have hfree : ∀ y ∈ scope.names, y.2 = .free → ∃ c, X.env.cells.lookup y.1 = some c := fun y hy e => by
    rcases S.blk.free y hy e with z | z
    · exact I.ok.has _ (.inl z)
    · exact I.ok.has _ (.inr z)
  refine wpAny_GeneratorExp_make S.co (closure_ok hfree) S.cell S.dot S.blk.kind (by have := hr.dp; omega) ?_ hs
  refine thn (hi.run pins s σ H _ I h) fun xv s1 hx => thn hx fun itv s2 h2 => ?_
  obtain ⟨it, fp, tn, J, H1, rfl, I2, T, t2, f2, ⟨ps, hP, htr⟩, q⟩ := h2
  have oP : s2.heap.get? P = some { cls := .none, data := .fields ps } := I2.hok P _ hP
  have cd : PySem.W.CodeHd s2.heap c P := TB.code.keeps I2.bk
  refine ⟨I2.nolimit, ?_⟩
  have nP : ∀ b ∈ fp, b ≠ P := fun b hb z => by
    have q := (f2 b hb).1
    rw [z, hP] at q
    cases q
  have rest : ∀ (code : Value) (h3 : Heap) (tk : Nat) (ps' : Array Value), Heap.ExtBut P s2.heap h3 → h3.get? P = some { cls := .none, data := .fields ps' } → (∃ more, ps' = ps ++ more) → TriplesOk ps'.toList →
      wpAny (model X.prog X.w) X.A (builtinsFor X.env.globals X.env.builtins) (fun bi s4 =>
        ∀ h', h'.Ns s4.heap.objs.size (fun y => if y = ".0" then some (.ref it) else none) → Heap.SameBut s4.heap.objs.size (s4.heap.push { cls := .type "frame", data := .dict #[] }) h' →
          (MadeP X pins σ scope elt tg iter ifs gpos (own.map (·.2)) g tt te R) (.ref h'.objs.size) { s4 with
            gens := s4.gens.push (.fresh (.compStart (.GeneratorExp elt [⟨tg, iter, ifs, 0⟩] scope gpos) 0 (.ref it) .none (genEnv scope (cloFrom X.env.cells scope.names []) s4.heap.objs.size code bi X.env))),
            toks := s4.toks + 1 + 1 + 1,
            heap := h'.push { cls := .type "generator", data := .fields #[.int s4.gens.size 0, .str "<genexpr>" (s4.toks + 1), .str (X.env.qual ++ "<genexpr>") (s4.toks + 1 + 1)] } }) X.xe { s2 with heap := h3, toks := tk } := by
    intro code h3 tk ps' hx hP3 hmore htr3
    obtain ⟨bm, ob, b1, b2, b3, b4, b5, b6, b7, b8⟩ := TB.bm
    refine wpAny_builtinsFor (m := X.mg) ?_ b1 b2 (hx _ _ b4 (I2.bk _ _ b5)) b6 b7 b8 ?_
    · rw [I2.ok.glob]
      exact (I2.mod.glob.keeps I2.bk).extBut hx TB.gP
    obtain ⟨more, rfl⟩ := hmore
    have I3 : Inv X pins σ (upd H1 P (.tbl (ps ++ more))) { s2 with heap := h3, toks := tk } := GxR.inv_tab (more := more) (h' := h3) (g' := s2.gens) (d' := s2.drawn) (t' := tk) I2 hP hx hP3 I2.bare
    have tab : GxR.Tabbed P H1 (upd H1 P (.tbl (ps ++ more))) := ⟨⟨_, upd_same, htr3⟩, fun b hb => upd_ne hb⟩
    have rd := q _ tab
    have t3 : tn 0 h3 := T.keep _ _ _ t2 fun b hb o e => hx b o (nP b hb) e
    have f3 : ∀ b ∈ fp, FpOk X pins (upd H1 P (.tbl (ps ++ more))) b ∧ b < h3.objs.size := fun b hb => by
      refine ⟨⟨?_, (f2 b hb).2⟩, ?_⟩
      · rw [upd_ne (nP b hb)]
        exact (f2 b hb).1
      · obtain ⟨o, e, _⟩ := T.obj _ _ t3 b hb
        exact Heap.lt_size e
    generalize upd H1 P (.tbl (ps ++ more)) = H3 at I3 rd f3
    intro h' hn' hs'
    generalize hs4 : ({ s2 with heap := h3, toks := tk } : Shared) = s4 at I3 hn' hs' ⊢
    have e4 : s4.heap = h3 := by rw [← hs4]
    rw [← e4] at t3 f3
    have hsz : h'.objs.size = s4.heap.objs.size + 1 := by rw [hs'.1, Heap.size_push]
    have hk : ∀ b o, s4.heap.get? b = some o → h'.get? b = some o := fun b o e => by
      rw [hs'.2 b (Nat.ne_of_lt (Heap.lt_size e))]
      exact Heap.get?_push_of_some _ e
    generalize hgo : ({ cls := .type "generator", data := .fields #[.int s4.gens.size 0, .str "<genexpr>" (s4.toks + 1), .str (X.env.qual ++ "<genexpr>") (s4.toks + 1 + 1)] } : Obj) = go
    have isg : ∀ hh : Heap, hh.get? h'.objs.size = some go → hh.IsGen h'.objs.size s4.gens.size := fun hh e => ⟨go, _, _, e, by rw [← hgo], by rw [← hgo], by rw [← hgo]⟩
    have hga : (h'.push go).get? h'.objs.size = some go := Heap.get?_push_size _ (by rw [← hgo]; rfl)
    have bare : AllBare (s4.gens.push (.fresh (.compStart (.GeneratorExp elt [⟨tg, iter, ifs, 0⟩] scope gpos) 0 (.ref it) .none (genEnv scope (cloFrom X.env.cells scope.names []) s4.heap.objs.size code builtinsNs X.env)))) := I3.bare.push rfl
    have kp5 : ∀ b o, s4.heap.get? b = some o → (h'.push go).get? b = some o := fun b o e => Heap.get?_push_of_some _ (hk b o e)
    have rmA : ∀ A, Near X A → Room k (A.deeper (genEnv scope (cloFrom X.env.cells scope.names []) s4.heap.objs.size code builtinsNs X.env)) := fun A N => by
      refine ⟨N.hd, ?_, ?_⟩
      · have := hr.dp
        have := N.dp
        show A.depth + 1 + 3 * k + 5 < _
        omega
      · have := hr.un
        have := N.un
        show A.units + 3 + 16 * k + 200 < _
        omega
    refine ⟨h'.objs.size, it, fp, tn, J, genEnv scope (cloFrom X.env.cells scope.names []) s4.heap.objs.size code builtinsNs X.env, s4, H3, go, s4.gens.size, rfl, ?_⟩
    have hs5 : (h'.push go).objs.size = h'.objs.size + 1 := Heap.size_push ..
    refine { gen := isg, isg := isg _ hga, lim := I3.nolimit.keeps kp5, gs := Array.getElem?_push_size .., T := T, t0 := T.keep _ _ _ t3 fun b _ o e => kp5 b o e, f0 := fun b hb => (f3 b hb).1.1, out := fun b hb => (f3 b hb).2, az := ?_, al := ?_, old := ?_, hco := S.co, loc := rfl, cel := ?_, stk := ?_, inv := ?_, pg := fun A N => hg _ s4 H3 s4.heap.objs.size code fp (rmA A N), pt := fun A N => ht _ s4 H3 s4.heap.objs.size code fp (rmA A N), pe := fun A N => he _ s4 H3 s4.heap.objs.size code fp (rmA A N), back := ?_, fresh := ?_, read := rd }
    · show s4.heap.objs.size < h'.objs.size
      omega
    · show h'.objs.size < (h'.push go).objs.size
      omega
    · show s4.heap.objs.size ≤ (h'.push go).objs.size
      omega
    · intro x c e
      have e : (cloFrom X.env.cells scope.names []).lookup x = some c := e
      rcases cloFrom_mem (PySem.mem_of_lookup e) with z | ⟨z, q⟩
      · cases z
      · obtain ⟨d, hd⟩ := hfree _ z rfl
        rw [hd] at q
        have q : c = d := q
        subst q
        obtain ⟨v, hv⟩ := I3.cell _ _ hd
        exact hv.lt
    · intro b hb
      rcases List.mem_cons.mp (I3.stkSub b hb) with z | z
      · rw [z]; exact I3.lt
      · obtain ⟨_, o, ho, _⟩ := I3.ok.funs.mem z
        exact Nat.lt_of_lt_of_le (Heap.lt_size ho) I3.sz
    · intro A N
      exact gen_start (code := code) (go := go) (tk := s4.toks + 1 + 1 + 1) I3 S.blk hN S.cell f3 N.hd (by show A.frames.map _ = _; rw [N.fr, I3.ok.frames]; rfl) hn' hk (fun v z => by rw [← hgo] at z; cases z) hga hsz bare
    · intro A pn σ' H' s' I'
      exact I3.call' (ch := fp) I'.os I'.base I'.hok I'.bare fun b hb => ⟨(f3 b hb).1.2.2.2.1, (f3 b hb).1.2.1, (f3 b hb).1.2.2.2.2.1, (f3 b hb).1.2.2.2.2.2⟩
    · show s4.heap.objs.size ≤ (h'.push go).objs.size
      omega
  cases hf : codeAmong gpos ps.toList with
  | none =>
    refine wpAny_genexprCodeX hcode (cd.code oP htr) (cd.tab oP) hf fun c' h' tk hx hge hlt hco' _ htab' _ => ?_
    obtain ⟨o1, v1, f1, tf, fl, t1, inF, tx, t0, op, _, _, _, _, _, _, _, _, _, htr', _⟩ := hco'
    exact rest _ h' tk _ hx htab'.2 ⟨_, rfl⟩ htr'
  | some cv =>
    refine wpAny_genexprCode_hit hcode (cd.code oP htr) hf ?_
    exact rest cv s2.heap s2.toks ps (Heap.ExtBut.refl _ _) oP ⟨#[], by simp⟩ htr
/-! ### all that is handed out is put into the list at S -/
def lo (acc : Array Value) (c : Nat) : Obj := { cls := .type "list", dict := none, data := .seq acc c, slots := #[] }
def GRt (Y : Cx) (pn : List (Addr × Obj)) (S : Addr) (Qt : List V → Hp → Prop) : GenEnd := fun _ _ r s1 =>
  ((r = .ok (.ret .none) ∨ r = .ok .next) ∧ ∃ σ' H' ys acc c, Inv Y (pn ++ [(S, lo acc c)]) σ' H' s1 ∧ Vals ys acc.toList ∧ Qt ys H') ∨ ∃ e, r = .error e ∧ (fun (_ : Value) (_ : Shared) => False) e s1
def GYt (Y : Cx) (pn : List (Addr × Obj)) (S : Addr) : Protocol := fun _ _ v s1 kap =>
  ∃ σ' H' acc c, Inv Y (pn ++ [(S, lo acc c)]) σ' H' s1 ∧ acc.size < sizeLine ∧
    ∀ (s2 : Shared) (c2 : Nat), (∀ b o, b ≠ S → s1.heap.get? b = some o → s2.heap.get? b = some o) → s2.heap.get? S = some (lo (acc.push v) c2) → s2.os = s1.os → AllBare s2.gens → kap (.send .none) s2
/-- one turn's reading; ys: what was handed out so far -/
def StepT (J : It) (g : TG) (tt : TT) (te : TE) (vs : List Nat) (σ : L2.St) (Qt : List V → Hp → Prop) (W : Nat → Nat → List V → Hp → Prop) (i m : Nat) (ys : List V) (H : Hp) : Prop :=
  (J.stop i H ∧ Qt ys H) ∨ (J.go i H ∧ ∃ Nx : List V → Hp → Prop, (∀ zs H', Nx zs H' → ∃ m', m' < m ∧ W (i + 1) m' zs H') ∧ ∀ x H', J.yld i H x H' → g x (wipe σ vs) H' fun σ2 H2 => wipe σ2 vs = wipe σ vs ∧ tt σ2 H2 fun b H3 =>
    if b = true then te σ2 H3 fun y H4 => ys.length < sizeLine ∧ Nx (ys ++ [y]) H4 else Nx ys H3)
theorem seg_turnsT {A0 : Around} {s3 : Shared} {H3 : Hp} {scope : Scope} {cenv : Env} {fp : List Addr} {pn : List (Addr × Obj)} {it S : Addr} {J : It} {tn : Nat → Heap → Prop} {elt tg iter : Expr} {ifs : List Expr} {pos : Pos} {vs : List Nat}
    {g : TG} {tt : TT} {te : TE} {Qt : List V → Hp → Prop} {W : Nat → Nat → List V → Hp → Prop} (hc : X.calm = true) (hco : cenv.scope.isCoroutine = false) (hpn : ∀ p ∈ pn, p.1 ∉ fp) (hS : S ∉ fp) (hS1 : s3.heap.objs.size ≤ S) (hS2 : S ≠ cenv.locals) (hS3 : ∀ x c, cenv.cells.lookup x = some c → c ≠ S)
    (hS4 : ∀ p ∈ pn, p.1 ≠ S) (hS5 : S ∉ frs X.stack)
    (T : Turn X.prog X.w X.K tg J fp it tn) (pg : PG (gctx X (A0.deeper cenv) s3 H3 scope cenv fp) tg g) (pt : PTs (gctx X (A0.deeper cenv) s3 H3 scope cenv fp) ifs tt) (pe : PE (gctx X (A0.deeper cenv) s3 H3 scope cenv fp) elt te)
    (turn : ∀ i m ys H', W i m ys H' → StepT J g tt te vs σ Qt W i m ys H') :
    ∀ (m n : Nat), m < n → ∀ (i : Nat) (s0 s1 : Shared) (H' : Hp) (ys : List V) (acc : Array Value) (c : Nat), Inv (gctx X (A0.deeper cenv) s3 H3 scope cenv fp) (pn ++ [(S, lo acc c)]) (wipe σ vs) H' s1 → Vals ys acc.toList → tn i s1.heap → (∀ b ∈ fp, H' b = none) → W i m ys H' →
      Seg (model X.prog X.w) A0 (GRt (gctx X (A0.deeper cenv) s3 H3 scope cenv fp) pn S Qt) (GYt (gctx X (A0.deeper cenv) s3 H3 scope cenv fp) pn S) n s0
        (.compLoop (.GeneratorExp elt [⟨tg, iter, ifs, 0⟩] scope pos) 0 (.ref it) .none cenv) ((model X.prog X.w).den (.compLoop (.GeneratorExp elt [⟨tg, iter, ifs, 0⟩] scope pos) 0 (.ref it) .none cenv)) [] s1 := by
  intro m
  induction m using Nat.strongRecOn with
  | ind m ih =>
    intro n hmn i s0 s1 H1 ys acc c I1 v1 t1 f1 w1
    have hpl : ∀ p ∈ pn ++ [(S, lo acc c)], p.1 ∉ fp := fun p hp => by
      rcases List.mem_append.mp hp with z | z
      · exact hpn p z
      · rw [List.mem_singleton.mp z]; exact hS
    have own : ∀ {pl : List (Addr × Obj)} {σ' : L2.St} {H' : Hp} {s' : Shared}, (∀ p ∈ pl, p.1 ∉ fp) → Inv (gctx X (A0.deeper cenv) s3 H3 scope cenv fp) pl σ' H' s' → (∀ b ∈ fp, H' b = none) → ∀ b ∈ fp, FpOk (gctx X (A0.deeper cenv) s3 H3 scope cenv fp) pl H' b :=
      fun {pl σ' H' s'} hpl I' hn b hb => ⟨hn b hb, (I'.ok.exf b hb).1, I'.ok.exfs b hb, .inl hb, fun x c e => (I'.ok.exf b hb).2 x c e, fun p hp z => hpl p (by simpa using hp) (by rw [z]; exact hb)⟩
    show Seg _ A0 _ _ _ s0 _ ((compTurn (.GeneratorExp elt [⟨tg, iter, ifs, 0⟩] scope pos) 0 (.ref it) .none cenv).onRaise (leaving cenv)) [] s1
    rw [compTurn_gen]
    rw [Sem.onRaise_eq_wrap]
    refine seg_bind_wrap (wpAny_standAt ?_)
    rcases turn i m ys H1 w1 with ⟨stop, qt⟩ | ⟨go, Nx, hNx, step⟩
    · refine seg_bind_wrap (wpF (T.done (gctx X (A0.deeper cenv) s3 H3 scope cenv fp) rfl rfl rfl hc i _ s1 _ H1 (fun _ _ => False) I1 (own hpl I1 f1) t1 stop) fun r s2 ⟨hr, I2⟩ => ?_)
      subst hr
      exact seg_end (.ok .next) (.inl ⟨.inr rfl, _, H1, ys, acc, c, I2, v1, qt⟩)
    · refine seg_bind_wrap (wpF (T.item (gctx X (A0.deeper cenv) s3 H3 scope cenv fp) rfl rfl rfl hc i _ s1 _ H1 (fun _ _ => False) I1 (own hpl I1 f1) t1 go) fun r s2 ⟨u, hr, h2⟩ => ?_)
      subst hr
      refine seg_bind_wrap (wpF h2 fun _ s4 ⟨x, H4, I4, r4, y4, t4, f4⟩ => ?_)
      have P4 := I4.pinned (own hpl I4 f4) (T.obj _ _ t4)
      refine seg_bind_wrap (wpF (pg.run _ s4 _ H4 x u _ P4 r4 (step x H4 y4)) fun _ s5 ⟨σ5, H5, I5, w5, q5⟩ => ?_)
      refine seg_bind_wrap (wpF (pt.run _ s5 σ5 H5 _ I5 q5) fun b s6 ⟨H6, I6, q6⟩ => ?_)
      have back : ∀ {s' : Shared} {H' : Hp}, Inv (gctx X (A0.deeper cenv) s3 H3 scope cenv fp) ((pn ++ [(S, lo acc c)]) ++ pinsAt fp s4.heap) σ5 H' s' →
          Inv (gctx X (A0.deeper cenv) s3 H3 scope cenv fp) (pn ++ [(S, lo acc c)]) (wipe σ vs) H' s' ∧ tn (i + 1) s'.heap ∧ ∀ b ∈ fp, H' b = none := fun {s' H'} I' => by
        have at' : ∀ b ∈ fp, ∀ o, s4.heap.get? b = some o → s'.heap.get? b = some o ∧ H' b = none := fun b hb o e =>
          let z := I'.pin (b, o) (List.mem_append_right _ (List.mem_append_right _ (mem_pinsAt hb e)))
          ⟨z.1, z.2.1⟩
        refine ⟨I'.unpinned.weak (by rw [← w5, wipe_length]) fun j v e => ?_, T.keep _ _ _ t4 fun b hb o e => (at' b hb o e).1, fun b hb => ?_⟩
        · rw [← w5] at e
          exact (wipe_some e).1
        · obtain ⟨o, e, _⟩ := T.obj _ _ t4 b hb
          exact (at' b hb o e).2
      cases b with
      | false =>
        have q6 : Nx ys H6 := by simpa using q6
        obtain ⟨m', hm, w'⟩ := hNx ys H6 q6
        obtain ⟨I7, t7, f7⟩ := back I6
        simp only [Bool.false_eq_true, if_false]
        exact seg_again rfl (ih m' hm n (by omega) (i + 1) s0 s6 H6 ys acc c I7 v1 t7 f7 w')
      | true =>
        rw [if_pos rfl] at q6
        simp only [if_true]
        have hy : ∀ v, yieldOut cenv v = yieldValue v := fun v => by
          unfold yieldOut
          simp [hco]
        simp only [hy]
        rw [Sem.bind_eq_wrap', Sem.bind_eq_wrap']
        rw [Sem.wrap_wrap, Sem.wrap_wrap]
        refine seg_wrap (wpF (pe.run _ s6 σ5 H6 _ I6 q6) fun v s7 ⟨yv, H7, I7, r7, hlt, qn⟩ => ?_)
        obtain ⟨I8, t8, f8⟩ := back I7
        obtain ⟨n, rfl⟩ : ∃ k, n = k + 1 := ⟨n - 1, by omega⟩
        have hsz : acc.size < sizeLine := by
          have e1 : ys.length = acc.toList.length := v1.length
          rw [← Array.length_toList, ← e1]
          exact hlt
        refine seg_at (seg_yield rfl rfl rfl ⟨_, H7, acc, c, I8, hsz, fun s9 c2 hk hS9 ho hb => ?_⟩)
        obtain ⟨m', hm, w'⟩ := hNx _ H7 qn
        have pS := I8.pin (S, lo acc c) (List.mem_append_right _ (List.mem_append_right _ (List.mem_singleton.mpr rfl)))
        have I9 : Inv (gctx X (A0.deeper cenv) s3 H3 scope cenv fp) pn (wipe σ vs) H7 s7 := I8.unpinned
        have I10 : Inv (gctx X (A0.deeper cenv) s3 H3 scope cenv fp) pn (wipe σ vs) H7 { s7 with heap := s9.heap, toks := s9.toks } :=
          I9.turned (t' := s9.toks) (it := S) hk pS.2.1 hS2 (.inr hS1) hS3 fun p hp => hS4 p (by simpa using hp)
        have I11 : Inv (gctx X (A0.deeper cenv) s3 H3 scope cenv fp) (pn ++ [(S, lo (acc.push v) c2)]) (wipe σ vs) H7 s9 := by
          refine (inv_heap (s' := s9) I10 rfl ho hb).pins_of fun p hp => ?_
          rcases List.mem_append.mp hp with z | z
          · exact (inv_heap (s' := s9) I10 rfl ho hb).pin p (List.mem_append_right _ z)
          · rw [List.mem_singleton.mp z]
            exact ⟨hS9, pS.2.1, hS2, hS5, fun v z => by cases z⟩
        refine seg_again rfl (ih m' hm n (by omega) (i + 1) s9 s9 H7 _ (acc.push v) c2 I11 ?_ (T.keep _ _ _ t8 fun b hb' o e => hk b o (fun z => hS (by rw [← z]; exact hb')) e) f8 w')
        rw [Array.toList_push]
        exact v1.append (.cons r7 .nil)
/-- list.extend walks the generator -/
theorem extend_walk {Y : Cx} {pn : List (Addr × Obj)} {Qt : List V → Hp → Prop} {A : Around} {R : Result → Shared → Prop} {a S : Addr} {go : Obj} {g : Nat} {res : Value} (hh : A.handled = none) (hd : A.depth < recursionLimit)
    (hpa : (a, go) ∈ pn) (hgen : ∀ h : Heap, h.get? a = some go → h.IsGen a g) (hSa : S ≠ a)
    (eT : ∀ σ' H' s' ys acc c, Inv Y (pn ++ [(S, lo acc c)]) σ' H' s' → Vals ys acc.toList → Qt ys H' → R (.ok (.ret res)) s') :
    ∀ (n : Nat) (s1 : Shared) (gs : GenState), s1.heap.IsGen a g → s1.heap.NoLimit → s1.gens[g]? = some gs →
      gs.Goes (model Y.prog Y.w) A.in1.in1 (GRt Y pn S Qt) (GYt Y pn S) n (.send .none) (s1.setGen g .running) → codeAny (model Y.prog Y.w) A (.builtin "list.extend.loop" ⟨[.ref S, .ref a, res], []⟩) R s1 := by
  have fin : ∀ {s2 : Shared} {h' : Heap}, (∃ σ' H' ys acc c, Inv Y (pn ++ [(S, lo acc c)]) σ' H' s2 ∧ Vals ys acc.toList ∧ Qt ys H') → (∀ b o, s2.heap.get? b = some o → h'.get? b = some o) → R (.ok (.ret res)) { s2.setGen g .finished with heap := h' } := fun {s2 h'} hp hk => by
    obtain ⟨σ', H', ys, acc, c, I2, v2, q⟩ := hp
    have I3 : Inv Y (pn ++ [(S, lo acc c)]) σ' H' (s2.setGen g .finished) := inv_heap I2 rfl rfl (allBare_setGen I2.bare rfl)
    exact eT σ' H' _ ys acc c (I3.kept (t' := s2.toks) hk) v2 q
  intro n
  induction n with
  | zero =>
    intro s1 gs isg lim hgs goes
    refine codeAny_builtin F.entry_extend_loop ?_
    rw [Around.under_plainId F.plain_extend_loop _]
    show wpAny _ A.in1 (pyNext (.ref a) >>= _) _ _ s1
    refine wpAny_bind (next_genG (A := A.in1) hh lim hd isg hgs goes (fun v s2 gs' hb hv => ?_) (fun s2 hp h' hk => ?_) fun e s2 he => he.elim)
    · obtain ⟨σ', H', acc, c, I2, hz, q2⟩ := hv
      have pS := I2.pin (S, lo acc c) (List.mem_append_right _ (List.mem_append_right _ (List.mem_singleton.mpr rfl)))
      have e0 : s2.heap.get? S = some (lo acc c) := pS.1
      have hS3 := Heap.get?_update_self (Obj.mapSeq (·.push v)) e0 rfl
      exact (q2 { s2 with heap := s2.heap.update S (Obj.mapSeq (·.push v)) } _ (fun b o hbS e => (Heap.get?_update_other _ _ (Ne.symm hbS)).trans e) hS3 rfl I2.bare).elim
    · exact wpAny_pure (fin hp hk)
  | succ n ih =>
    intro s1 gs isg lim hgs goes
    have hgl : g < s1.gens.size := (Array.getElem?_eq_some_iff.mp hgs).1
    refine codeAny_builtin F.entry_extend_loop ?_
    rw [Around.under_plainId F.plain_extend_loop _]
    show wpAny _ A.in1 (pyNext (.ref a) >>= _) _ _ s1
    refine wpAny_bind (wpAny_gsz (n := g + 1) hgl (next_genG (A := A.in1) hh lim hd isg hgs goes (fun v s2 gs' hb hv => ?_) (fun s2 hp h' hk => ?_) fun e s2 he => he.elim))
    · intro hsz
      obtain ⟨σ', H', acc, c, I2, hz, q2⟩ := hv
      have pS := I2.pin (S, lo acc c) (List.mem_append_right _ (List.mem_append_right _ (List.mem_singleton.mpr rfl)))
      have e0 : s2.heap.get? S = some (lo acc c) := pS.1
      show wpAny _ A.in1 (updateSeq S (·.push v) >>= _) _ _ _
      refine wpAny_bind (wpAny_updateSeq (s := s2.setGen g gs') e0 rfl (wpAny_pure ⟨plainId_quiet F.plain_extend_loop _, ?_⟩) (Nat.le_of_lt hz) (by show (acc.push v).size ≤ sizeLine + 1; rw [Array.size_push]; omega))
      have hS3 := Heap.get?_update_self (Obj.mapSeq (·.push v)) e0 rfl
      have k3 : ∀ b o, b ≠ S → s2.heap.get? b = some o → (s2.heap.update S (Obj.mapSeq (·.push v))).get? b = some o := fun b o hbS e => (Heap.get?_update_other _ _ (Ne.symm hbS)).trans e
      have hg2 : g < s2.gens.size := by
        have z : (s2.setGen g gs').gens.size = s2.gens.size := setGen_size _ _ _
        have hsz : g + 1 ≤ (s2.setGen g gs').gens.size := hsz
        omega
      have ha2 := (I2.pin (a, go) (List.mem_append_right _ (List.mem_append_left _ hpa))).1
      have lim2 := I2.nolimit
      refine ih { s2.setGen g gs' with heap := s2.heap.update S (Obj.mapSeq (·.push v)) } gs' (hgen _ (k3 a go (Ne.symm hSa) ha2)) ?_ (setGen_at hg2) ?_
      · obtain ⟨mc, hns, hnn⟩ := lim2
        refine ⟨mc, hns.at' fun o e => k3 _ o (fun z => ?_) e, hnn⟩
        obtain ⟨oo, es, ep, ho, hdd, _⟩ := hns
        rw [z, e0] at ho
        cases ho
        cases hdd
      · exact q2 _ _ k3 hS3 rfl (allBare_setGen (s := s2.setGen g gs') (allBare_setGen I2.bare hb) rfl)
    · intro _
      exact wpAny_pure (fin hp hk)
/-- what the reading of tuple(..) asks of the walk -/
def RT (g : TG) (tt : TT) (te : TE) (vs : List Nat) (σ : L2.St) (Qt : List V → Hp → Prop) : It → Hp → Prop := fun J H2 =>
  ∃ W : Nat → Nat → List V → Hp → Prop, (∃ m, W 0 m [] H2) ∧ ∀ i m ys H', W i m ys H' → StepT J g tt te vs σ Qt W i m ys H'
theorem collect_made {scope : Scope} {elt tg iter : Expr} {ifs : List Expr} {gpos : Pos} {vs : List Nat} {g : TG} {tt : TT} {te : TE} {Qt : List V → Hp → Prop} {a it : Addr} {s5 s4 : Shared} {fp : List Addr} {tn : Nat → Heap → Prop} {J : It} {cenv : Env} {H3 : Hp} {go : Obj} {gi : Nat} {A : Around} {E : Value → Shared → Prop} {Q : List Value → Shared → Prop}
    (hc : X.calm = true) (Pt : Parts X pins σ scope elt tg iter ifs gpos vs g tt te (RT g tt te vs σ Qt) a s5 it fp tn J cenv s4 H3 go gi) (N : Near X A.in1.in1) (hd : A.depth < recursionLimit) (bare : AllBare s5.gens)
    (hQ : ∀ pn σ' H' s' ys acc, Inv (gctx X (A.in1.in1.deeper cenv) s4 H3 scope cenv fp) pn σ' H' s' → Vals ys acc → Qt ys H' → Q acc s') : wpAny (model X.prog X.w) A (collect (.ref a)) Q E s5 := by
  have hSa : s5.heap.objs.size ≠ a := Nat.ne_of_gt Pt.al
  obtain ⟨W, ⟨m0, w0⟩, turn⟩ := Pt.read
  unfold collect
  refine wpAny_bind (wpAny_runValue (codeAny_builtin F.entry_proto_collect ?_))
  rw [Around.under_plainId F.plain_proto_collect _]
  show wpAny _ A.in1 (newList [] >>= fun l => again (.builtin "list.__iadd__" ⟨[l, .ref a], []⟩)) _ _ s5
  refine wpAny_bind (wpAny_newObj_type ?_)
  refine wpAny_pure ⟨plainId_quiet F.plain_list_iadd _, codeAny_builtin F.entry_list_iadd ?_⟩
  rw [Around.under_plainId F.plain_list_iadd _]
  have k1 : ∀ b o, s5.heap.get? b = some o → (s5.heap.push { cls := .type "list", data := .seq ([] : List Value).toArray }).get? b = some o := fun b o e => Heap.get?_push_of_some _ e
  have hS1 : (s5.heap.push { cls := .type "list", data := .seq ([] : List Value).toArray }).get? s5.heap.objs.size = some { cls := .type "list", data := .seq ([] : List Value).toArray } := Heap.get?_push_size _ rfl
  have gty : ({ s5 with heap := s5.heap.push { cls := .type "list", data := .seq ([] : List Value).toArray } } : Shared).TypeIs (.ref a) "generator" := Heap.IsGen.typeIs (s := { s5 with heap := s5.heap.push { cls := .type "list", data := .seq ([] : List Value).toArray } }) (Pt.isg.keeps k1)
  show wpAny _ A.in1 (Builtin.List.listExtendWith (.ref s5.heap.objs.size) (.ref a) (.ref s5.heap.objs.size)) _ _ _
  unfold Builtin.List.listExtendWith
  refine wpAny_bind (wpAny_typeOf gty ?_)
  have h1 : Builtin.List.listSameRef (.ref s5.heap.objs.size) (.ref a) = false := by simp [Builtin.List.listSameRef, hSa]
  rw [if_neg (by rw [h1]; decide)]
  refine wpAny_bind (wpAny_pyIter_gen (s := { s5 with heap := s5.heap.push { cls := .type "list", data := .seq ([] : List Value).toArray } }) (Pt.isg.keeps k1) ?_)
  refine wpAny_bind (wpAny_holding ?_)
  unfold Builtin.List.listLengthHint
  refine wpAny_bind (wpAny_specialOf gty F.gen_no_len ?_)
  show wpAny _ A.in1 (specialOf (Value.ref a) (Str.ofString "__length_hint__") >>= _) _ _ _
  refine wpAny_bind (wpAny_specialOf gty F.gen_no_hint (wpAny_pure ?_))
  show wpAny _ A.in1 (rule "list.extend.makes-room" >>= fun _ => Builtin.List.listTouch (.ref s5.heap.objs.size) >>= fun _ => again (.builtin "list.extend.loop" ⟨[.ref s5.heap.objs.size, .ref a, .ref s5.heap.objs.size], []⟩)) _ _ _
  refine wpAny_bind (wpAny_rule (wpAny_bind ?_))
  show wpAny _ A.in1 (updateSeq s5.heap.objs.size (·.push .none) >>= fun _ => updateSeq s5.heap.objs.size (·.pop)) _ _ _
  refine wpAny_bind (wpAny_updateSeq hS1 rfl ?_)
  have hS2 := Heap.get?_update_self (Obj.mapSeq (·.push Value.none)) hS1 rfl
  refine wpAny_updateSeq hS2 rfl ?_
  have hS3 := Heap.get?_update_self (Obj.mapSeq (·.pop)) hS2 rfl
  have k3 : ∀ b o, s5.heap.get? b = some o → (((s5.heap.push { cls := .type "list", data := .seq ([] : List Value).toArray }).update s5.heap.objs.size (Obj.mapSeq (·.push Value.none))).update s5.heap.objs.size (Obj.mapSeq (·.pop))).get? b = some o := fun b o e =>
    have ne : s5.heap.objs.size ≠ b := Nat.ne_of_gt (Heap.lt_size e)
    (Heap.get?_update_other _ _ ne).trans ((Heap.get?_update_other _ _ ne).trans (k1 b o e))
  refine wpAny_pure ⟨plainId_quiet F.plain_extend_loop _, ?_⟩
  generalize ((s5.heap.push { cls := .type "list", data := .seq ([] : List Value).toArray }).update s5.heap.objs.size (Obj.mapSeq (·.push Value.none))).update s5.heap.objs.size (Obj.mapSeq (·.pop)) = h6 at hS3 k3 ⊢
  have hS6 : ∃ c, h6.get? s5.heap.objs.size = some (lo #[] c) := ⟨_, hS3⟩
  obtain ⟨c6, hS6⟩ := hS6
  have I5 := Pt.inv A.in1.in1 N
  have zS : s4.heap.objs.size ≤ s5.heap.objs.size := Pt.old
  have I6 : ∀ g' : Array GenState, AllBare g' → Inv (gctx X (A.in1.in1.deeper cenv) s4 H3 scope cenv fp) ([(a, go)] ++ [(s5.heap.objs.size, lo #[] c6)]) (wipe σ vs) H3 { s5 with heap := h6, gens := g' } := fun g' hg' => by
    have I7 : Inv (gctx X (A.in1.in1.deeper cenv) s4 H3 scope cenv fp) [(a, go)] (wipe σ vs) H3 { s5 with heap := h6, gens := g' } := inv_heap (I5.kept (t' := s5.toks) k3) rfl rfl hg'
    refine I7.pins_of fun p hp => ?_
    rcases List.mem_append.mp hp with z | z
    · exact I7.pin p (List.mem_append_right _ z)
    · rw [List.mem_singleton.mp z]
      refine ⟨hS6, I5.hok.fresh (Nat.le_refl _), ?_, fun z => ?_, fun v z => by cases z⟩
      · show s5.heap.objs.size ≠ cenv.locals
        rw [Pt.loc]
        have := Pt.az
        have := Pt.al
        exact Nat.ne_of_gt (Nat.lt_trans Pt.az Pt.al)
      · exact absurd (Pt.stk _ z) (Nat.not_lt.mpr zS)
  refine extend_walk (A := A) (Y := gctx X (A.in1.in1.deeper cenv) s4 H3 scope cenv fp) (pn := [(a, go)]) (Qt := Qt) (go := go) (g := gi) N.hd hd (List.mem_singleton.mpr rfl) Pt.gen hSa (fun σ' H' s' ys acc c I' v' q => ?_) (m0 + 1) { s5 with heap := h6 } _ (Pt.isg.keeps k3) (Pt.lim.keeps k3) Pt.gs ⟨rfl, ?_⟩
  · show wpAny _ A (load s5.heap.objs.size >>= _) _ _ s'
    have pS := (I'.pin (s5.heap.objs.size, lo acc c) (List.mem_append_right _ (List.mem_append_right _ (List.mem_singleton.mpr rfl)))).1
    refine wpAny_bind (wpAny_load pS ?_)
    exact wpAny_pure (hQ _ σ' H' s' ys acc.toList I' v' q)
  · have t6 : tn 0 h6 := Pt.T.keep _ _ _ Pt.t0 fun b _ o e => k3 b o e
    refine seg_first (fun A Q E hq => Pt.T.self A 0 _ Q E t6 hq) ?_
    refine seg_turnsT (S := s5.heap.objs.size) hc Pt.hco (fun p hp z => ?_) (fun z => ?_) zS ?_ (fun x c e z => ?_) (fun p hp => ?_) (fun z => ?_) Pt.T (Pt.pg _ N) (Pt.pt _ N) (Pt.pe _ N) turn m0 (m0 + 1) (Nat.lt_succ_self _) 0 _ _ H3 [] #[] c6 (I6 _ (allBare_setGen (s := { s5 with heap := h6 }) bare rfl)) .nil t6 Pt.f0 w0
    · rw [List.mem_singleton.mp hp] at z
      exact absurd (Pt.out _ z) (Nat.not_lt.mpr (Nat.le_of_lt Pt.az))
    · exact absurd (Pt.out _ z) (Nat.not_lt.mpr zS)
    · rw [Pt.loc]
      exact Nat.ne_of_gt (Nat.lt_trans Pt.az Pt.al)
    · have := Pt.cel x c e
      rw [z] at this
      exact absurd this (Nat.not_lt.mpr zS)
    · rw [List.mem_singleton.mp hp]
      exact Ne.symm hSa
    · exact absurd (Pt.stk _ z) (Nat.not_lt.mpr zS)
theorem code_tuple_made {scope : Scope} {elt tg iter : Expr} {ifs : List Expr} {gpos : Pos} {vs : List Nat} {g : TG} {tt : TT} {te : TE} {Qt : List V → Hp → Prop} {a it : Addr} {s5 s4 : Shared} {fp : List Addr} {tn : Nat → Heap → Prop} {J : It} {cenv : Env} {H3 : Hp} {go : Obj} {gi : Nat} {A : Around} {E : Value → Shared → Prop} {Q1 : Value → Shared → Prop}
    (hc : X.calm = true) (Pt : Parts X pins σ scope elt tg iter ifs gpos vs g tt te (RT g tt te vs σ Qt) a s5 it fp tn J cenv s4 H3 go gi) (N : Near X A.in1.in1.in1) (hd : A.depth < recursionLimit) (bare : AllBare s5.gens)
    (hQ : ∀ pn σ' H' s' ys acc, Inv (gctx X (A.in1.in1.in1.deeper cenv) s4 H3 scope cenv fp) pn σ' H' s' → Vals ys acc → Qt ys H' → acc.toArray.size ≤ sizeLine ∧ Q1 (.ref s'.heap.objs.size) { s' with heap := s'.heap.push { cls := .type "tuple", data := .seq acc.toArray } }) :
    codeAny (model X.prog X.w) A (.call (.builtin "tuple.__new__") ⟨[.type "tuple", .ref a], []⟩) (wants Q1 E) s5 := by
  refine codeAny_of_tree ?_
  show wpAny _ A.in1 (do checkBuiltinCall "tuple.__new__" ⟨[.type "tuple", .ref a], []⟩; again (.builtin "tuple.__new__" ⟨[.type "tuple", .ref a], []⟩)) _ _ s5
  refine wpAny_bind (wpAny_of_eq (F.newCall_tuple_1 _) (wpAny_pure ⟨plainId_quiet F.plain_tuple_new _, codeAny_builtin F.entry_tuple_new ?_⟩))
  rw [Around.under_plainId F.plain_tuple_new _]
  have hsub := sub_tuple_self
  have hinit := init_tuple_lookup
  have hmh := madeHere_tuple
  have hTI : s5.TypeIs (.ref a) "generator" := Pt.isg.typeIs
  wp_walk using wpAny_typeOf hTI, collect_made (A := A.in1) hc Pt N hd bare
  intro pn σ' H' s' ys acc I' v' q
  obtain ⟨hz, h1⟩ := hQ pn σ' H' s' ys acc I' v' q
  show wpAny _ _ (Builtin.Tuple.tupleExact acc.toArray >>= fun v => ret v) _ _ _
  unfold Builtin.Tuple.tupleExact
  refine wpAny_bind (wpAny_newObj_type ?_ hz)
  exact wpAny_pure h1
/-- tuple(elt for tg in iter if ..) -/
def tTG (P : Addr) (wi : TI) (g : TG) (tt : TT) (te : TE) (vs : List Nat) : TE := fun σ H Q => wi σ H fun J H1 => GxR.TabG H1 P ∧ ∀ H2, GxR.Tabbed P H1 H2 →
  RT g tt te vs σ (fun ys H' => ys.length ≤ sizeLine ∧ ∀ q, H' q = none → Q (.ref q) (upd H' q (.tup ys))) J H2
theorem pe_tupleG {c P : Addr} {elt tg iter : Expr} {ifs : List Expr} {p pos gpos : Pos} {scope : Scope} {own : List (Str × Nat)} {wi : TI} {g : TG} {tt : TT} {te : TE} {k : Nat}
    (hc : X.calm = true) (hN : X.N.Nodup) (hr : Room (k + 1) X.A) (hgl : Gl X "tuple") (hm : X.mg "tuple" = none) (TB : GxR.TabB X.base X.mg c P) (hcode : X.env.code = .ref c) (S : GSc X.N X.env.scope scope own) (hi : PI X tg iter wi)
    (hg : ∀ (A : Around) (s : Shared) (H : Hp) (C : Addr) (code : Value) (fp : List Addr), Room k A → PG (gctx X A s H scope (genEnv scope (cloFrom X.env.cells scope.names []) C code builtinsNs X.env) fp) tg g)
    (ht : ∀ (A : Around) (s : Shared) (H : Hp) (C : Addr) (code : Value) (fp : List Addr), Room k A → PTs (gctx X A s H scope (genEnv scope (cloFrom X.env.cells scope.names []) C code builtinsNs X.env) fp) ifs tt)
    (he : ∀ (A : Around) (s : Shared) (H : Hp) (C : Addr) (code : Value) (fp : List Addr), Room k A → PE (gctx X A s H scope (genEnv scope (cloFrom X.env.cells scope.names []) C code builtinsNs X.env) fp) elt te)
    (hs : ∀ v, genFold iter X.env v = pure v := by intro _; rfl) (hb : bootBuiltins "tuple" = some (.type "tuple") := by decide +kernel)
    (hse : starEach [.GeneratorExp elt [⟨tg, iter, ifs, 0⟩] scope gpos] X.env = (false, eval (.GeneratorExp elt [⟨tg, iter, ifs, 0⟩] scope gpos) X.env) :: starEach [] X.env := by rfl) :
    PE X (.Call (.Name "tuple" p) [.GeneratorExp elt [⟨tg, iter, ifs, 0⟩] scope gpos] [] pos) (tTG P wi g tt te (own.map (·.2))) := by
  refine ⟨fun pins s σ H Q I h => ?_⟩
  refine Call_ (ld_blt I hgl hm hb (PyProof.Rows.callWith_type1 (args_cons (thn (gen_parts hc hN hr TB hcode S hi hg ht he hs I h) fun u s5 hu => args_nil ?_) hse) hse rfl))
  obtain ⟨a, it, fp, tn, J, cenv, s4, H3, go, gi, rfl, Pt⟩ := hu
  have N : Near X X.A.in1.in1.in1.in1 := ⟨hr.hd, rfl, rfl, by show X.A.units + 1 + 1 + 1 + 1 ≤ X.A.units + 8; omega⟩
  have bare := (Pt.inv _ N).bare
  refine callType_codes (Q₁ := fun obj s1 => s1.TypeIs obj "tuple" ∧ EP X pins σ Q obj s1) F.called_tuple (F.typeCall_tuple_1 _) F.entry_object_init
    (code_tuple_made (A := X.A.in1) hc Pt N (by have := hr.dp; show X.A.depth < _; omega) bare fun pn σ' H' s' ys acc I' v' q => ?_) fun obj s1 h1 => ?_
  · have I2 := Pt.back _ pn σ' H' s' I'
    have el : ys.length = acc.length := v'.length
    refine ⟨by rw [List.size_toArray, ← el]; exact q.1, ⟨_, Heap.get?_push_size _ rfl, rfl⟩, .ref s'.heap.objs.size, upd H' s'.heap.objs.size (.tup ys), ?_, rfl, q.2 _ (I2.hok.fresh (Nat.le_refl _))⟩
    exact I2.laid (t' := s'.toks) (fun c o e => Heap.get?_push_of_some _ e) (Nat.le_refl _) (show ObjOk X.prog X.w _ _ _ (.tup ys) from ⟨q.1, acc, v', IsTup.new _ _⟩)
  · exact ⟨h1.1, F.args_object_init_2 obj _, object_init_meets F.called_tuple.init.lookup F.called_tuple.made (by decide) X.prog X.w X.A.in1 _ s1 ⟨h1.1, rfl, h1.2⟩⟩
end
section
variable {J : It} {n : Nat} {G : Hp → Prop} {Y : Nat → Hp → V → Hp → Prop}
theorem tg_it (w : Walk J n G Y) {g : TG} {tt : TT} {te : TE} {vs : List Nat} {σ : L2.St} {H2 : Hp} {Qt : List V → Hp → Prop} (Pv : Nat → List V → Hp → Prop) (h0 : Pv 0 [] H2) (hG : ∀ i ys H, i ≤ n → Pv i ys H → G H)
    (hs : ∀ i x ys H H', i < n → Pv i ys H → Y i H x H' → g x (wipe σ vs) H' fun σ2 H2 => wipe σ2 vs = wipe σ vs ∧ tt σ2 H2 fun b H3 =>
      if b = true then te σ2 H3 fun y H4 => ys.length < sizeLine ∧ Pv (i + 1) (ys ++ [y]) H4 else Pv (i + 1) ys H3) (hd : ∀ ys H, Pv n ys H → Qt ys H) : RT g tt te vs σ Qt J H2 := by
  refine ⟨fun i m ys H => m = n - i ∧ i ≤ n ∧ Pv i ys H, ⟨n, by simp, Nat.zero_le _, h0⟩, ?_⟩
  rintro i m ys H ⟨rfl, hi, p⟩
  have q := hG i ys H hi p
  by_cases hlt : i < n
  · exact .inr ⟨w.goes i H hlt q, Pv (i + 1), fun zs H' p' => ⟨n - (i + 1), by omega, rfl, hlt, p'⟩, fun x H' y => hs i x ys H H' hlt p (w.yields i H x H' hlt q y)⟩
  · have e : i = n := by omega
    subst e
    exact .inl ⟨w.stops H q, hd ys H p⟩
end
end GE

set_option Elab.async false
set_option linter.all false
set_option maxRecDepth 100000
set_option maxHeartbeats 2000000
/-! Pages shown and compared as data. -/
namespace My
open PySem PySem.Spec PyProof.Rows L2 PySem.SeqAt PySem.W
mutual
theorem alike_self : ∀ k : NestedKey, alike k.data k.data = true
  | .none => by rw [NestedKey.data, alike]
  | .num _ => by rw [NestedKey.data, alike]
  | .text _ => by rw [NestedKey.data, alike]
  | .tup ks => by rw [NestedKey.data, alike]; exact alike_selves ks
theorem alike_selves : ∀ ks : List NestedKey, alikeAll (NestedKey.datas ks) (NestedKey.datas ks) = true
  | [] => by rw [NestedKey.datas, alikeAll]
  | k :: ks => by rw [NestedKey.datas, alikeAll, alike_self k, alike_selves ks]; rfl
end
theorem eqv_list_self (ks : List NestedKey) : PyData.eqv (.list (NestedKey.datas ks)) (.list (NestedKey.datas ks)) = true := eqv_refl_alike _ (by rw [alike]; exact alike_selves ks)
/-- what is known of a thing that is shown and compared -/
structure Fine (d : PyData) (c : Nat) : Prop where
  sh : GU.Sh d
  cost : GU.cost d ≤ c
  lay : d.canLay0 = true
  deep : d.depth ≤ 3
structure FineAll (ds : List PyData) (c : Nat) : Prop where
  sh : GU.ShAll ds
  cost : GU.costAll ds ≤ c
  lay : PyData.canLayAll0 ds = true
  deep : PyData.depthAll ds ≤ 3
theorem FineAll.nil : FineAll [] 0 := ⟨trivial, Nat.le_refl _, by rw [PyData.canLayAll0], by rw [PyData.depthAll]; omega⟩
theorem FineAll.cons {d : PyData} {ds : List PyData} {a b : Nat} (h : Fine d a) (t : FineAll ds b) : FineAll (d :: ds) (a + 2 + b) := by
  refine ⟨⟨h.sh, t.sh⟩, ?_, by rw [PyData.canLayAll0, h.lay, t.lay]; rfl, ?_⟩
  · rw [GU.costAll]
    have := h.cost
    have := t.cost
    omega
  · rw [PyData.depthAll]
    have := h.deep
    have := t.deep
    omega
theorem Fine.mono {d : PyData} {a b : Nat} (h : Fine d a) (le : a ≤ b) : Fine d b := ⟨h.sh, Nat.le_trans h.cost le, h.lay, h.deep⟩
theorem fine_text {z : Str} (h : Plain z) : Fine (.str z) 1004 := by
  refine ⟨fun c hc => Nat.lt_of_lt_of_le (h.2 c hc) (by decide), ?_, ?_, by rw [PyData.depth]; omega⟩
  · have := h.1
    rw [GU.cost]
    omega
  · rw [PyData.canLay0]
    unfold PyData.strOk
    rw [← Array.all_toList]
    refine List.all_eq_true.mpr fun c hc => ?_
    have := h.2 c hc
    simp
    omega
theorem fine_int {i : Int} (h0 : -1000000 < i) (h1 : i < 1000000) : Fine (.int i) 1921 := ⟨small_nat h0 h1, by rw [GU.cost]; omega, by rw [PyData.canLay0], by rw [PyData.depth]; omega⟩
theorem fine_home {ws : List Int} (h : HomeW ws) : Fine (NestedKey.tup (ws.map .num)).data 14000 := by
  have key : ∀ {ws : List Int}, (∀ w ∈ ws, 0 ≤ w ∧ w < 7) → FineAll (NestedKey.datas (ws.map .num)) (1923 * ws.length) ∧ PyData.depthAll (NestedKey.datas (ws.map .num)) = 0 := by
    intro ws
    induction ws with
    | nil => intro _; exact ⟨by rw [List.map_nil, NestedKey.datas]; exact .nil, by rw [List.map_nil, NestedKey.datas, PyData.depthAll]⟩
    | cons a l ih =>
      intro h
      have ha := h a (.head _)
      obtain ⟨i1, i2⟩ := ih fun w hw => h w (.tail _ hw)
      rw [List.map_cons, NestedKey.datas, NestedKey.data]
      refine ⟨?_, by rw [PyData.depthAll, i2, PyData.depth]; rfl⟩
      have := FineAll.cons (fine_int (i := a) (by omega) (by omega)) i1
      rw [List.length_cons]
      exact ⟨this.sh, by have := this.cost; omega, this.lay, this.deep⟩
  obtain ⟨k, kd⟩ := key h.2
  have := h.1
  rw [NestedKey.data]
  refine ⟨k.sh, ?_, by rw [PyData.canLay0]; exact k.lay, by rw [PyData.depth, kd]; omega⟩
  rw [GU.cost]
  have := k.cost
  omega
theorem plain_kind {z : Str} {r : List NestedKey} (h : Rest z r) : Plain z := by
  cases h <;> exact ⟨by decide +kernel, by decide +kernel⟩
theorem fine_rest {z : Str} {r : List NestedKey} (h : Rest z r) : FineAll (NestedKey.datas r) 17000 ∧ PyData.depthAll (NestedKey.datas r) ≤ 1 := by
  have one : ∀ {ws : List Int}, (NestedKey.tup (ws.map .num)).data.depth ≤ 1 := fun {ws} => by
    have : ∀ ws : List Int, PyData.depthAll (NestedKey.datas (ws.map .num)) = 0 := fun ws => by
      induction ws with
      | nil => rw [List.map_nil, NestedKey.datas, PyData.depthAll]
      | cons a l ih => rw [List.map_cons, NestedKey.datas, NestedKey.data, PyData.depthAll, ih, PyData.depth]; rfl
    rw [NestedKey.data, PyData.depth, this]
    omega
  have up : ∀ {ds : List PyData} {c : Nat}, FineAll ds c → c ≤ 17000 → FineAll ds 17000 := fun h le => ⟨h.sh, Nat.le_trans h.cost le, h.lay, h.deep⟩
  have txt : ∀ x : Str, (NestedKey.text x).data = .str x := fun x => by rw [NestedKey.data]
  have num : ∀ x : Int, (NestedKey.num x).data = .int x := fun x => by rw [NestedKey.data]
  cases h <;> simp only [NestedKey.datas, txt, num]
  case house a b => exact ⟨up (.cons (fine_text a) (.cons (fine_home b) .nil)) (by decide), by simp only [PyData.depthAll, PyData.depth]; refine Nat.max_le.mpr ⟨Nat.zero_le _, ?_⟩; first | exact Nat.max_le.mpr ⟨one, Nat.zero_le _⟩ | exact Nat.max_le.mpr ⟨Nat.zero_le _, Nat.max_le.mpr ⟨one, Nat.zero_le _⟩⟩⟩
  case home a b => exact ⟨up (.cons (fine_text a) (.cons (fine_home b) .nil)) (by decide), by simp only [PyData.depthAll, PyData.depth]; refine Nat.max_le.mpr ⟨Nat.zero_le _, ?_⟩; first | exact Nat.max_le.mpr ⟨one, Nat.zero_le _⟩ | exact Nat.max_le.mpr ⟨Nat.zero_le _, Nat.max_le.mpr ⟨one, Nat.zero_le _⟩⟩⟩
  case part a b c => exact ⟨up (.cons (fine_text a) (.cons (fine_text b) (.cons (fine_home c) .nil))) (by decide), by simp only [PyData.depthAll, PyData.depth]; refine Nat.max_le.mpr ⟨Nat.zero_le _, ?_⟩; first | exact Nat.max_le.mpr ⟨one, Nat.zero_le _⟩ | exact Nat.max_le.mpr ⟨Nat.zero_le _, Nat.max_le.mpr ⟨one, Nat.zero_le _⟩⟩⟩
  case mourn a b c => exact ⟨up (.cons (fine_text a) (.cons (fine_int (by omega) (by omega)) .nil)) (by decide), by simp only [PyData.depthAll, PyData.depth]; omega⟩
  case join a b => exact ⟨up (.cons (fine_text a) (.cons (fine_text b) .nil)) (by decide), by simp only [PyData.depthAll, PyData.depth]; omega⟩
  case ahead a b => exact ⟨up (.cons (fine_text a) (.cons (fine_text b) .nil)) (by decide), by simp only [PyData.depthAll, PyData.depth]; omega⟩
  case card a b => exact ⟨up (.cons (fine_text a) (.cons (fine_text b) .nil)) (by decide), by simp only [PyData.depthAll, PyData.depth]; omega⟩
  case visit a b => exact ⟨up (.cons (fine_text a) (.cons (fine_text b) .nil)) (by decide), by simp only [PyData.depthAll, PyData.depth]; omega⟩
theorem fine_page {k : NestedKey} (h : PgK k) : Fine k.data 20000 ∧ k.data.depth ≤ 2 := by
  obtain ⟨z, d, r, rfl, hr, d0, d1⟩ := h
  obtain ⟨f, fd⟩ := fine_rest hr
  have t := FineAll.cons (fine_text (plain_kind hr)) (FineAll.cons (fine_int (i := d) (by omega) (by omega)) f)
  have e : (NestedKey.tup (.text z :: .num d :: r)).data = .tuple (.str z :: .int d :: NestedKey.datas r) := by
    rw [NestedKey.data, NestedKey.datas, NestedKey.datas, NestedKey.data, NestedKey.data]
  have dp : (PyData.tuple (.str z :: .int d :: NestedKey.datas r)).depth ≤ 2 := by
    rw [PyData.depth, PyData.depthAll, PyData.depthAll, PyData.depth, PyData.depth]
    omega
  rw [e]
  refine ⟨⟨t.sh, ?_, by rw [PyData.canLay0]; exact t.lay, Nat.le_trans dp (by decide)⟩, dp⟩
  rw [GU.cost]
  have := t.cost
  omega
theorem fine_pages : ∀ {ks : List NestedKey}, (∀ k ∈ ks, PgK k) → FineAll (NestedKey.datas ks) (20002 * ks.length) ∧ PyData.depthAll (NestedKey.datas ks) ≤ 2
  | [], _ => ⟨by rw [NestedKey.datas]; exact .nil, by rw [NestedKey.datas, PyData.depthAll]; omega⟩
  | k :: ks, h => by
    obtain ⟨a, b⟩ := fine_page (h k (.head _))
    obtain ⟨c, d⟩ := fine_pages fun y hy => h y (.tail _ hy)
    have t := FineAll.cons a c
    rw [NestedKey.datas]
    refine ⟨⟨t.sh, by have := t.cost; rw [List.length_cons]; omega, t.lay, t.deep⟩, by rw [PyData.depthAll]; omega⟩
theorem shaped_pages {ks : List NestedKey} (h : ∀ k ∈ ks, PgK k) : SeqAt.shaped (.list (NestedKey.datas ks)) = true := by
  obtain ⟨f, fd⟩ := fine_pages h
  unfold SeqAt.shaped
  rw [Bool.and_eq_true, PyData.canLay0, PyData.depth]
  exact ⟨f.lay, decide_eq_true (by omega)⟩
theorem eqv_nil (ks : List NestedKey) : PyData.eqv (.list (NestedKey.datas ks)) (.list []) = ks.isEmpty := by
  cases ks with
  | nil => simp [NestedKey.datas, PyData.eqv, PyData.eqvAll]
  | cons k ks => simp [NestedKey.datas, PyData.eqv, PyData.eqvAll]
theorem repr_pages {ks : List NestedKey} (h : ∀ k ∈ ks, PgK k) (n : ks.length ≤ 200) : GU.Sh (.tuple (NestedKey.datas ks)) ∧ (PyData.tuple (NestedKey.datas ks)).depth ≤ 50 ∧ GU.cost (.tuple (NestedKey.datas ks)) ≤ sizeLine := by
  obtain ⟨f, fd⟩ := fine_pages h
  refine ⟨f.sh, by rw [PyData.depth]; omega, ?_⟩
  rw [GU.cost]
  have := f.cost
  have : GU.costAll (NestedKey.datas ks) + 3 ≤ 4000403 := by omega
  exact Nat.le_trans this (by decide)
end My

set_option Elab.async false
set_option linter.all false
set_option maxRecDepth 100000
set_option maxHeartbeats 2000000
/-! Errors of the program's own that carry fields: a def with generator expressions that may raise one; isinstance of a caught one where the answer is yes; != of pages. -/
namespace GE
open PySem PySem.Spec PyProof.Rows L2
theorem FunC.okX {P : Program} {w : World} {K : PySem.W.Frag} {mg : Str → Option Value} {base : Heap} {x qual : Str} {st : Stmt} {f : Addr} {fd : FuncData} {c : Addr} {N ps : List Str} {k : Nat} {sp : Sp} (F : FunC K x qual st f fd c) (S : FnScope N ps (defScope st))
    (len : ∀ vs H Q E, sp vs H Q E → vs.length = ps.length)
    (body : ∀ (A : Around) (outer : List Env) (s : Shared) (H : Hp) (vs : List V) (Q : VK) (E : XK), Room k (A.deeper (envOfC qual (defScope st) s.heap.objs.size f (.ref c))) → sp vs H Q E →
      ∃ t, PSs (cxOf (L2.CX P w) P w K mg base N qual (defScope st) f (.ref c) A outer s H E) (defBody st) t ∧ t { nx := fun _ H' => Q .non H', rt := Q } (start N vs) H) : FnOk P w K mg base (L2.CX P w) (k + 1) f fd ps sp := by
  obtain ⟨oc, od, kV, doc, pm, an, ct, osl, rfl, lk, hcd⟩ := F.ex
  exact fn_of lk hcd S len fun A outer s H vs Q E hr h => body A outer s H vs Q E hr h
end GE
namespace My
open PySem PySem.Spec PyProof.Rows L2 PySem.W
section
variable {prog : Program} {w : World} {A : Around} {E : Value → Shared → Prop} {s : Shared} {Q : Value → Shared → Prop} {K : PySem.W.Frag} {a D : Addr} {oe : Obj} {od : Option Obj} {c : Value}
/-- the class is the thing's own, or one above it: so no look at the thing's own attribute is taken -/
theorem yes_ans (e : PySem.W.kitOne K (.ref D) c = some true) : Answers (fun s => K.In s.heap ∧ PySem.W.InstAt s.heap a oe D od) (.ref a) c true := by
  intro dep tk prog w A R s hs
  obtain ⟨h0, g0, d0, t0, o0⟩ := s
  obtain ⟨⟨kin, inst⟩, fin⟩ := hs
  have own := inst.type (M := model prog w)
  unfold Builtin.«isinstance.nested»
  refine wpAny_bind (own.at ?_)
  unfold PySem.W.kitOne at e
  by_cases same : (Value.ref D == c) = true
  · rw [if_pos same]
    first
      | exact wpAny_bind (wpAny_rule (fin t0))
      | exact wpAny_bind (wpAny_rule (wpAny_pure (fin t0)))
      | ((repeat lk); exact fin t0)
  · rw [if_neg same] at e
    rw [if_neg same]
    obtain ⟨l1, l2, l3⟩ := PySem.W.kit_cls (M := model prog w) kin e
    have above : Looks (model prog w) h0 (isInstance (.ref a) c) true := own.andThen l3
    refine wpAny_bind (l1.at ?_)
    rw [if_pos (by decide)]
    k_delta "plainIsInstance"
    refine wpAny_bind (wpAny_bind (l2.at ?_))
    rw [if_neg (by decide)]
    refine wpAny_bind (above.at ?_)
    first
      | exact wpAny_pure (wpAny_pure (fin t0))
      | (rw [if_pos rfl]; first | exact wpAny_pure (wpAny_pure (fin t0)) | exact wpAny_pure (fin t0) | exact wpAny_bind (wpAny_pure (wpAny_pure (fin t0))))
theorem is_yes (kin : K.In s.heap) (inst : PySem.W.InstAt s.heap a oe D od) (e : PySem.W.kitOne K (.ref D) c = some true) (h : ∀ tk, Q (.bool true) { s with toks := tk }) : wpAny (model prog w) A (call (.builtin "isinstance") [.ref a, c]) Q E s :=
  PySem.call_isinstance (S := fun _ R s => (K.In s.heap ∧ PySem.W.InstAt s.heap a oe D od) ∧ ∀ tk, R (.ok (.ret (.bool true))) { s with toks := tk })
    (fun prog w A R s hs => PySem.isinstance_outer (yes_ans e 0 _ prog w A R s hs) (fun z => nomatch z)) ⟨⟨kin, inst⟩, h⟩
end
/-- isinstance(e, c), e the error that the suite holds, with fields in its dict -/
def rIsY (K : PySem.W.Frag) (D a : Addr) (cls : Value) (d : Option Addr) : List V → Hp → VK → Prop := fun xs H Q => ∃ (c : V) (cv : Value) (dd : Addr) (fs : List (Str × V)), xs = [.ref a, c] ∧ (∀ u, RelV c u → u = cv) ∧ PySem.W.kitOne K (.ref D) cv = some true ∧ cls = .ref D ∧ d = some dd ∧ H dd = some (.xd fs) ∧ Q (.bl true) H
theorem call_isY {X : Cx} {a D : Addr} {oe : Obj} {d : Option Addr} {cls : Value} {pn : List (Addr × Obj)} (hz : Zc cls d oe) (hf : ∃ vs, oe.data = .fields vs) : CallR (X.suite a ((a, oe) :: pn)) (.builtin "isinstance") (rIsY X.K D a cls d) := by
  intro pins s σ H xs us Q I r h
  obtain ⟨c, cv, dd, fs, rfl, hcv, e, hc, ed, hdd, q⟩ := h
  obtain ⟨u0, u1, rfl, r0, r1⟩ : ∃ u0 u1, us = [u0, u1] ∧ RelV (.ref a) u0 ∧ RelV c u1 := by
    cases r with
    | cons r0 r =>
      cases r with
      | cons r1 r =>
        cases r
        exact ⟨_, _, rfl, r0, r1⟩
  obtain rfl : u0 = Value.ref a := r0
  obtain rfl := hcv _ r1
  subst hc ed
  obtain ⟨here, _⟩ := I.pin (a, oe) (List.mem_append_left _ List.mem_cons_self)
  obtain ⟨vs, hv⟩ := hf
  have hx : ObjOk X.prog X.w H s.heap dd (.xd fs) := I.hok dd _ hdd
  obtain ⟨mA, hns, _⟩ := hx
  obtain ⟨od, ho, _⟩ := lookIn_ns hns
  have inst : PySem.W.InstAt s.heap a oe D (some od) := ⟨here, hz.1, by unfold PySem.W.notCls; rw [hv] <;> rfl, by rw [hz.2]; exact ho⟩
  exact is_yes I.kIn inst e fun tk => ⟨.bl true, H, I.kept (t' := tk) fun _ _ z => z, rfl, q⟩
mutual
theorem eqv_key : ∀ k l : NestedKey, PyData.eqv k.data l.data = NestedKey.beq k l
  | .none, l => by cases l <;> simp [NestedKey.data, PyData.eqv, NestedKey.beq]
  | .num a, l => by cases l <;> simp [NestedKey.data, PyData.eqv, NestedKey.beq] <;> (rw [Bool.eq_iff_iff]; simp)
  | .text a, l => by cases l <;> simp [NestedKey.data, PyData.eqv, NestedKey.beq] <;> (rw [Bool.eq_iff_iff]; simp)
  | .tup ks, .none => by simp [NestedKey.data, PyData.eqv, NestedKey.beq]
  | .tup ks, .num _ => by simp [NestedKey.data, PyData.eqv, NestedKey.beq]
  | .tup ks, .text _ => by simp [NestedKey.data, PyData.eqv, NestedKey.beq]
  | .tup ks, .tup ls => by
    rw [NestedKey.data, NestedKey.data, PyData.eqv, NestedKey.beq]
    exact eqv_keys ks ls
theorem eqv_keys : ∀ ks ls : List NestedKey, PyData.eqvAll (NestedKey.datas ks) (NestedKey.datas ls) = NestedKey.beqAll ks ls
  | [], [] => by simp [NestedKey.datas, PyData.eqvAll, NestedKey.beqAll]
  | [], _ :: _ => by simp [NestedKey.datas, PyData.eqvAll, NestedKey.beqAll]
  | _ :: _, [] => by simp [NestedKey.datas, PyData.eqvAll, NestedKey.beqAll]
  | k :: ks, l :: ls => by
    rw [NestedKey.datas, NestedKey.datas, PyData.eqvAll, NestedKey.beqAll, eqv_key k l, eqv_keys ks ls]
end
theorem eqv_dec (k l : NestedKey) : PyData.eqv k.data l.data = decide (k = l) := by rw [eqv_key, NestedKey.decide_eq]
theorem shaped_page {k : NestedKey} (h : PgK k) : SeqAt.shaped k.data = true := by
  obtain ⟨f, fd⟩ := fine_page h
  unfold SeqAt.shaped
  rw [Bool.and_eq_true]
  exact ⟨f.lay, decide_eq_true (by omega)⟩
end My

set_option Elab.async false
set_option linter.all false
set_option maxRecDepth 100000
set_option maxHeartbeats 2000000
/-! xs == [], xs != []: a list of any things against the list of none. -/
namespace My
open PySem PySem.Spec PyProof.Rows L2 PySem.SeqAt
def rEqE (K : PySem.W.Frag) (f : Bool → Bool) : R2 := fun x y H Q => ∃ (p q : Addr) (xs : List V), x = .ref p ∧ y = .ref q ∧ SqL K H p xs ∧ SqL K H q [] ∧ Q (.bl (f xs.isEmpty)) H
section
variable {X : Cx}
theorem op_eqE (hu : X.A.units + 1 < cLine) : OpR X (compareOp .Eq) (rEqE X.K fun b => b) := by
  intro pins s σ H x y v u Q I rx ry h
  obtain ⟨p, q, xs, rfl, rfl, hp, hq, h⟩ := h
  cases (show v = Value.ref p from rx)
  cases (show u = Value.ref q from ry)
  obtain ⟨us, r1, p1, _⟩ := I.list hp
  obtain ⟨ws, r2, p2, _⟩ := I.list hq
  cases r2
  cases r1 with
  | nil => exact RcAt.lists (e := fun _ => true) p1.isList p2.isList rfl (by omega) (fun j h1 _ => absurd h1 (Nat.not_lt_zero j)) X.prog X.w _ _ ⟨.bl true, H, I, rfl, h⟩
  | cons _ _ => exact RcAt.lists_lengths p1.isList p2.isList (by simp) (by omega) X.prog X.w _ _ ⟨.bl false, H, I, rfl, h⟩
theorem op_neE (hu : X.A.units + 1 < cLine) : OpR X (compareOp .NotEq) (rEqE X.K fun b => !b) := by
  intro pins s σ H x y v u Q I rx ry h
  obtain ⟨p, q, xs, rfl, rfl, hp, hq, h⟩ := h
  cases (show v = Value.ref p from rx)
  cases (show u = Value.ref q from ry)
  obtain ⟨us, r1, p1, _⟩ := I.list hp
  obtain ⟨ws, r2, p2, _⟩ := I.list hq
  cases r2
  cases r1 with
  | nil => exact RcNeAt.lists (e := fun _ => true) p1.isList p2.isList rfl (by omega) (fun j h1 _ => absurd h1 (Nat.not_lt_zero j)) X.prog X.w _ _ ⟨.bl false, H, I, rfl, h⟩
  | cons _ _ => exact RcNeAt.lists_lengths p1.isList p2.isList (by simp) (by omega) X.prog X.w _ _ ⟨.bl true, H, I, rfl, h⟩
end
end My

set_option Elab.async false
set_option linter.all false
/-! Rules that name the fragment, for use inside comprehensions (the block's context must not stand in what they ask). -/
namespace My
open PySem PySem.Spec PyProof.Rows L2
def rLenK (K : PySem.W.Frag) : List V → Hp → VK → Prop := fun xs H Q => ∃ p ys, xs = [.ref p] ∧ (SqL K H p ys ∨ SqT K H p ys) ∧ Q (.int ys.length) H
section
variable {X : Cx}
theorem call_lenK : CallR X (.builtin "len") (rLenK X.K) := call_len_seq
variable {o e : Expr} {es : List Expr} {to : TE} {t : TA} {name : Str} {apos cpos : Pos} {T id : String} {r : V → List V → Hp → VK → Prop} {K1 : PySem.W.Frag}
theorem pe_bmK (hK : X.K = K1) (pa : PlainAttrs T) (slot : Slot T name id) (hty : typeOf (.builtin id) = pure (.type "method_descriptor")) (hm : MtR X id r) (ho : PE X o to) (ha : PA X (e :: es) t)
    (hbase : attributeBase o name X.env (eval o X.env) = eval o X.env := by rfl)
    (hfew : ((backTo cpos (starEach (e :: es) X.env)).all (fun x => !x.1) && (backToKw cpos (keywordEach [] X.env)).all (fun x => x.1.isSome)
      && decide ((e :: es).length + ([] : List Keyword).length + (if ([] : List Keyword).isEmpty then 0 else 1) < 30)) = true := by rfl)
    (hline : (apos.endLine == cpos.line) = true := by rfl) (hs : starEach (e :: es) X.env = (false, eval e X.env) :: starEach es X.env := by rfl) (hplain : (backTo cpos (starEach es X.env)).any (·.1) = false := by rfl) :
    PE X (.Call (.Attribute o name apos) (e :: es) [] cpos) (tBM K1 T r to t) := by
  subst hK
  exact pe_bm pa slot hty hm ho ha hbase hfew hline hs hplain
theorem pi_listK {tg : Expr} {te : TE} (hK : X.K = K1) (h : PE X e te) : PI X tg e (iList K1 te) := by
  subst hK
  exact pi_list h
theorem pi_tupK {tg : Expr} {te : TE} (hK : X.K = K1) (h : PE X e te) : PI X tg e (iTup K1 te) := by
  subst hK
  exact pi_tup h
end
end My

set_option Elab.async false
set_option linter.all false
set_option maxRecDepth 100000
set_option maxHeartbeats 2000000
/-! What a set asks of nested tuples: that none of a class of the program's own lies in them, and how their hash is made. -/
namespace My
open PySem PySem.Spec PyProof.Rows L2 PySem.SeqAt
section
variable {P : Program} {w : World} {A : Around} {E : Value → Shared → Prop} {s : Shared}
/-- no object of an own class within -/
def NoCls (P : Program) (w : World) (n : Nat) (s : Shared) (v : Value) : Prop := ∀ (A : Around) (E : Value → Shared → Prop) (Q : Bool → Shared → Prop), Q false s → wpAny (model P w) A (ofAClassStatement n v) Q E s
theorem NoCls.tuple {n : Nat} {a : Addr} {ob : Obj} {vs : Array Value} {m : Nat} (g1 : s.heap.get? a = some ob) (g2 : ob.cls = .type "tuple") (g3 : ob.data = .seq vs m) (al : ∀ v ∈ vs.toList, NoCls P w n s v) : NoCls P w (n + 1) s (.ref a) := by
  intro A E Q q
  unfold ofAClassStatement
  refine wpAny_bind (wpAny_typeOf (T := "tuple") ⟨ob, g1, g2⟩ ?_)
  dsimp only
  rw [if_pos (by decide : (("tuple" : String) == "tuple") = true)]
  refine wpAny_bind (wpAny_pure ?_)
  rw [if_neg (by decide : ¬ (!true) = true)]
  refine wpAny_bind (wpAny_seqItems g1 g3 ?_)
  dsimp only
  refine wpAny_bind (?_ : wpAny _ _ (forIn vs _ _) _ _ s)
  rw [← Array.forIn_toList]
  refine wpAny_forIn_list _ (fun left got now => got.1 = none ∧ now = s ∧ ∀ v ∈ left, NoCls P w n s v) _ (fun v left got now => ?_) (fun got now => ?_) _ _ ⟨rfl, rfl, al⟩
  · rintro ⟨_, rfl, all⟩
    refine wpAny_bind (all v (.head _) _ _ _ ?_)
    rw [if_neg Bool.false_ne_true]
    exact wpAny_pure ⟨rfl, rfl, fun u hu => all u (.tail _ hu)⟩
  · obtain ⟨g, h⟩ := got
    rintro ⟨rfl, rfl, _⟩
    exact wpAny_pure q
mutual
theorem noCls : ∀ (k : NestedKey) (v : Value) (n : Nat) (s : Shared), NestedIs s.heap k v → k.depth ≤ n → NoCls P w n s v
  | .none, _, n, s, x, _ => by cases x; intro A E Q q; cases n <;> exact wpAny_pure q
  | .num _, _, n, s, x, _ => by cases x <;> (intro A E Q q; cases n <;> exact wpAny_pure q)
  | .text _, _, n, s, x, _ => by cases x; intro A E Q q; cases n <;> exact wpAny_pure q
  | .tup ks, _, n, s, x, d => by
    cases x with
    | tup g1 g2 g3 al =>
      rw [NestedKey.depth] at d
      cases n with
      | zero => omega
      | succ n => exact .tuple g1 g2 g3 (noClsAll ks _ n s al (by omega))
theorem noClsAll : ∀ (ks : List NestedKey) (vs : List Value) (n : Nat) (s : Shared), NestedAll s.heap ks vs → NestedKey.depthAll ks ≤ n → ∀ v ∈ vs, NoCls P w n s v
  | [], _, n, s, x, _, v, hv => by cases x; cases hv
  | k :: ks, _, n, s, x, d, v, hv => by
    cases x with
    | cons x1 x2 =>
      rw [NestedKey.depthAll] at d
      rcases List.mem_cons.mp hv with e | hv
      · rw [e]; exact noCls k _ n s x1 (by omega)
      · exact noClsAll ks _ n s x2 (by omega) v hv
end
/-- whether the hash is by value is told, whatever the answer -/
def HashTold (P : Program) (w : World) (n : Nat) (s : Shared) (v : Value) : Prop := ∀ (A : Around) (E : Value → Shared → Prop) (Q : Bool → Shared → Prop), (∀ b, Q b s) → wpAny (model P w) A (hashByValue n v) Q E s
theorem HashTold.tuple {n : Nat} {a : Addr} {ob : Obj} {vs : Array Value} {m : Nat} (g1 : s.heap.get? a = some ob) (g2 : ob.cls = .type "tuple") (g3 : ob.data = .seq vs m) (al : ∀ v ∈ vs.toList, HashTold P w n s v) : HashTold P w (n + 1) s (.ref a) := by
  intro A E Q q
  unfold hashByValue
  refine wpAny_bind (wpAny_specialOf (T := "tuple") ⟨ob, g1, g2⟩ F.slot_tuple_hash.lookup ?_)
  refine (?_ : wpAny _ _ (seqItems? (.ref a) >>= _) _ _ s)
  refine wpAny_bind (wpAny_seqItems g1 g3 ?_)
  refine wpAny_bind (?_ : wpAny _ _ (forIn vs _ _) _ _ s)
  rw [← Array.forIn_toList]
  refine wpAny_forIn_list _ (fun left got now => got.1 = none ∧ now = s ∧ ∀ v ∈ left, HashTold P w n s v) _ (fun v left got now => ?_) (fun got now => ?_) _ _ ⟨rfl, rfl, al⟩
  · rintro ⟨_, rfl, all⟩
    refine wpAny_bind (all v (.head _) _ _ _ fun b => ?_)
    cases b with
    | false =>
      rw [if_pos (by decide : (!false) = true)]
      exact wpAny_pure (wpAny_pure (q false))
    | true =>
      rw [if_neg (by decide : ¬ (!true) = true)]
      exact wpAny_pure ⟨rfl, rfl, fun u hu => all u (.tail _ hu)⟩
  · obtain ⟨g, h⟩ := got
    rintro ⟨rfl, rfl, _⟩
    exact wpAny_pure (q true)
mutual
theorem hashTold : ∀ (k : NestedKey) (v : Value) (n : Nat) (s : Shared), NestedIs s.heap k v → k.depth ≤ n → HashTold P w n s v
  | .none, _, n, s, x, _ => by cases x; intro A E Q q; cases n <;> exact wpAny_pure (q _)
  | .num _, _, n, s, x, _ => by cases x <;> (intro A E Q q; cases n <;> exact wpAny_pure (q _))
  | .text _, _, n, s, x, _ => by cases x; intro A E Q q; cases n <;> exact wpAny_pure (q _)
  | .tup ks, _, n, s, x, d => by
    cases x with
    | tup g1 g2 g3 al =>
      rw [NestedKey.depth] at d
      cases n with
      | zero => omega
      | succ n => exact .tuple g1 g2 g3 (hashToldAll ks _ n s al (by omega))
theorem hashToldAll : ∀ (ks : List NestedKey) (vs : List Value) (n : Nat) (s : Shared), NestedAll s.heap ks vs → NestedKey.depthAll ks ≤ n → ∀ v ∈ vs, HashTold P w n s v
  | [], _, n, s, x, _, v, hv => by cases x; cases hv
  | k :: ks, _, n, s, x, d, v, hv => by
    cases x with
    | cons x1 x2 =>
      rw [NestedKey.depthAll] at d
      rcases List.mem_cons.mp hv with e | hv
      · rw [e]; exact hashTold k _ n s x1 (by omega)
      · exact hashToldAll ks _ n s x2 (by omega) v hv
end
end
end My

set_option Elab.async false
set_option linter.all false
set_option maxRecDepth 100000
set_option maxHeartbeats 4000000
/-! Sets of nested tuples: the search and the adding. -/
namespace My
open PySem PySem.Spec PyProof.Rows L2 PySem.SeqAt
def KeyAt (h : Heap) (k : NestedKey) (a : Addr) : Prop := NestedIs h k (.ref a) ∧ k.depth ≤ 8
theorem KeyAt.stay {h h' : Heap} {k : NestedKey} {a : Addr} (x : KeyAt h k a) (g : ∀ b o vs n, h.get? b = some o → o.data = .seq vs n → h'.get? b = some o) : KeyAt h' k a := ⟨NestedIs.at g _ _ x.1, x.2⟩
abbrev Ent := Addr × NestedKey
/-- what is kept of an entry -/
def kept (w : World) (p : Ent) : Int × Value := (p.2.hash w, .ref p.1)
def hsh (w : World) (p : Ent) : Int := p.2.hash w
/-- the state of a search behind c steps -/
def stp (t : SetTable) (h : Int) (c : Nat) : SetTable.Probe := nth t.mask (runAt t.mask (SetTable.bits h % (t.mask + 1)) (SetTable.bits h)) c
theorem stp_j (t : SetTable) (h : Int) (c : Nat) : (stp t h c).j = way t.mask h c := rfl
theorem stp_add (t : SetTable) (h : Int) (c d : Nat) : nth t.mask (stp t h c) d = stp t h (c + d) := (nth_add t.mask c _ d).symm
theorem nth_clean (m : Nat) : ∀ (c : Nat) (p : SetTable.Probe), p.dummy = none → (nth m p c).dummy = none
  | 0, _, e => e
  | c + 1, p, e => nth_clean m c (adv m p) (by unfold adv; split <;> exact e)
theorem stp_clean (t : SetTable) (h : Int) (c : Nat) : (stp t h c).dummy = none := nth_clean t.mask c _ rfl
structure SetN (w : World) (h : Heap) (a : Addr) (M : List Ent) (es : Array (Int × Value)) (ep : Nat) (t : SetTable) : Prop where
  ob : ∃ o, h.get? a = some o ∧ o.ExactSet ∧ o.data = .set es ep t
  rows : es.toList = M.map (kept w)
  tab : TabOk t (M.map (hsh w))
  nd : (M.map (·.2)).Nodup
  key : ∀ p ∈ M, KeyAt h p.2 p.1
  led : w.params.followText "set-order" = true ∨ t.led = true
  room : M.length * 5 < t.mask * 3
section
variable {P : Program} {w : World} {A : Around} {E : Value → Shared → Prop} {s : Shared} {a : Addr} {M : List Ent} {es : Array (Int × Value)} {ep : Nat} {t : SetTable}
theorem SetN.size {h : Heap} (Z : SetN w h a M es ep t) : es.size = M.length := by
  rw [← Array.length_toList, Z.rows, List.length_map]
theorem fits_of (e1 : t.place.size = es.size) (e2 : t.dummies = #[]) (l : es.size ≤ t.mask) : t.fits es.size = true := by
  have z : (#[] : Array Nat).size = 0 := rfl
  simp only [SetTable.fits, SetTable.fill, e2, Bool.and_eq_true, beq_iff_eq, decide_eq_true_eq]
  omega
theorem SetN.fits {h : Heap} (Z : SetN w h a M es ep t) : t.fits es.size = true := by
  have l1 := Z.tab.sz
  rw [List.length_map] at l1
  have l2 := Z.size
  have l3 := Z.room
  exact fits_of (by omega) Z.tab.dm (by omega)
theorem SetN.at {h : Heap} (Z : SetN w h a M es ep t) {i : Nat} {p : Ent} (e : M[i]? = some p) : es[i]? = some (kept w p) := by
  rw [← Array.getElem?_toList, Z.rows, List.getElem?_map, e]
  rfl
/-- a search among such tuples shows nothing -/
theorem seenN {k : NestedKey} {b : Addr} (kb : KeyAt s.heap k b) {ys : List Value} (al : ∀ y ∈ ys, ∃ k' c, y = Value.ref c ∧ KeyAt s.heap k' c) {Q : Bool → Shared → Prop} (q : Q false s) : wpAny (model P w) A (searchCouldBeSeen (.ref b) ys) Q E s := by
  unfold searchCouldBeSeen
  refine wpAny_bind (wpAny_forIn_list _ (fun left got now => got.1 = none ∧ now = s ∧ ∀ y ∈ left, ∃ k' c, y = Value.ref c ∧ KeyAt s.heap k' c) _ (fun y left got now => ?_) (fun got now => ?_) _ _ ⟨rfl, rfl, al⟩)
  · rintro ⟨_, rfl, all⟩
    obtain ⟨k', c, rfl, kc⟩ := all y (.head _)
    have nx : ∀ y ∈ left, ∃ k' c, y = Value.ref c ∧ KeyAt now.heap k' c := fun u hu => all u (.tail _ hu)
    dsimp only
    by_cases e : (b == c || (carriedByValue (.ref b) && carriedByValue (.ref c))) = true
    · exact wp_if_pos e (wpAny_pure ⟨rfl, rfl, nx⟩)
    · refine wp_if_neg e (wpAny_bind (quiet_key k _ 8 now kb.1 kb.2 _ _ _ ?_))
      rw [if_neg (by decide : ¬ (!true) = true)]
      refine wpAny_bind (quiet_key k' _ 8 now kc.1 kc.2 _ _ _ ?_)
      rw [if_neg (by decide : ¬ (!true) = true)]
      refine wpAny_bind (noCls k _ 8 now kb.1 kb.2 _ _ _ ?_)
      rw [if_neg Bool.false_ne_true]
      refine wpAny_bind (noCls k' _ 8 now kc.1 kc.2 _ _ _ ?_)
      rw [if_neg Bool.false_ne_true]
      exact wpAny_pure ⟨rfl, rfl, nx⟩
  · obtain ⟨g, h⟩ := got
    rintro ⟨rfl, rfl, _⟩
    exact wpAny_pure q
theorem sameMemN (t : SetTable) : t.sameMemory t.moves t.mask = some true := by
  simp only [SetTable.sameMemory, beq_self_eq_true, if_true]
/-- the search for a tuple, from the c-th step on; K: the first empty slot of its way -/
theorem findN (Z : SetN w s.heap a M es ep t) {x : Addr} {k : NestedKey} (kx : KeyAt s.heap k x) (un : A.units + 8 < cLine) {K : Nat} (Kf : K < 10 * SetTable.turns t.mask) (Ke : way t.mask (k.hash w) K ∉ t.place.toList)
    (Kb : ∀ c, c < K → way t.mask (k.hash w) c ∈ t.place.toList) {Q : SetFound → Shared → Prop} (yes : k ∈ M.map (·.2) → Q (.there none) s) (no : k ∉ M.map (·.2) → Q (.free (way t.mask (k.hash w) K) false) s) :
    ∀ (f c : Nat) (st : Option SetTable.Probe), st.getD (t.probeStart (k.hash w)) = stp t (k.hash w) c → c ≤ K → K < c + f →
      (∀ (i : Nat) (p : Ent), M[i]? = some p → p.2 = k → ∃ d, c ≤ d ∧ d < K ∧ t.place.toList[i]? = some (way t.mask (k.hash w) d)) → wpAny (model P w) A (setSearchFrom a (.ref x) (k.hash w) true f st) Q E s := by
  intro f
  induction f with
  | zero => intro c st _ l1 l2; omega
  | succ f ih =>
    intro c st est l1 l2 ahead
    obtain ⟨o, g1, g2, g3⟩ := Z.ob
    rw [setSearchFrom_succ]
    refine wpAny_bind (wpAny_setState_of g1 g3 Z.fits ?_)
    dsimp only
    refine wp_if_neg (by rw [SetTable.gaveWay, mask_odd Z.tab.mok]; decide) ?_
    have hAt : ∀ (i : Nat) (p : Ent), M[i]? = some p → (fun i => (es[i]?.map (·.1)).getD 0) i = hsh w p := fun i p e => by
      dsimp only
      rw [Z.at e]
      rfl
    rcases go_spec t Z.tab.ris Z.tab.dm (fun i => (es[i]?.map (·.1)).getD 0) (k.hash w) (10 * SetTable.turns t.mask) (K - c) (stp t (k.hash w) c) (stp_clean _ _ _) (by omega)
      (fun d hd => by rw [stp_add]; exact Kb (c + d) (by omega)) (by rw [stp_add, show c + (K - c) = K by omega]; exact Ke) with ⟨d, i, dl, di, dh, dn, dp⟩ | ⟨dn, dp⟩
    · have pr : t.probe (fun i => (es[i]?.map (·.1)).getD 0) (k.hash w) (st.getD (t.probeStart (k.hash w))) = some (.candidate (way t.mask (k.hash w) (c + d)) i (stp t (k.hash w) (c + (d + 1)))) := by
        rw [est, ← stp_j, ← stp_add, ← stp_add]
        exact dp
      rw [pr]
      dsimp only
      rw [stp_add, stp_j] at di
      have il : i < M.length := by
        have a1 := (List.getElem?_eq_some_iff.mp di).1
        have a2 := Z.tab.sz
        rw [List.length_map] at a2
        rw [Array.length_toList] at a1
        omega
      obtain ⟨p, ep⟩ : ∃ p, M[i]? = some p := ⟨_, List.getElem?_eq_getElem il⟩
      have pm := List.mem_of_getElem? ep
      have kp := Z.key p pm
      have go : wpAny (model P w) A (searchRest a (.ref x) (k.hash w) true f es t (way t.mask (k.hash w) (c + d)) i (stp t (k.hash w) (c + (d + 1)))) Q E s := by
        unfold searchRest
        rw [Z.at ep]
        refine wpAny_bind (wpAny_holding ((nestedKind P w).eqBool un kp kx (wpAny_bind (wpAny_setState_of g1 g3 Z.fits ?_))))
        dsimp only
        by_cases e : p.2 = k
        · exact wp_if_pos (by rw [decide_eq_true e]; rfl) (wpAny_pure (yes (List.mem_map.mpr ⟨p, pm, e⟩)))
        · refine wp_if_neg (by rw [decide_eq_false e]; decide) ?_
          have sl : t.slot (way t.mask (k.hash w) (c + d)) = .live i := slot_live Z.tab.ris di
          rw [sameMemN]
          dsimp only
          rw [if_pos rfl, sl]
          dsimp only
          rw [Z.at ep]
          dsimp only [kept]
          refine wpAny_bind (wpAny_isSame_ref_self (wpAny_bind (wpAny_pure ?_)))
          rw [if_pos rfl]
          dsimp only
          refine wp_if_neg (by rw [decide_eq_false e]; decide) (ih (c + (d + 1)) _ rfl (by omega) (by omega) fun i0 p0 h0 e0 => ?_)
          obtain ⟨d0, b1, b2, b3⟩ := ahead i0 p0 h0 e0
          refine ⟨d0, ?_, b2, b3⟩
          rcases Nat.lt_trichotomy d0 (c + d) with z | z | z
          · refine absurd ((hAt i0 p0 h0).trans (congrArg (NestedKey.hash w) e0)) (dn (d0 - c) i0 (by omega) ?_)
            rw [stp_add, stp_j, show c + (d0 - c) = d0 by omega]
            exact b3
          · rw [z] at b3
            have := slot_live Z.tab.ris b3
            rw [sl] at this
            injection this with this
            rw [← this, ep] at h0
            cases h0
            exact absurd e0 e
          · omega
      by_cases ld : t.led = true
      · exact wp_if_neg (by rw [ld]; decide) go
      · refine wp_if_pos (by rw [Bool.eq_false_iff.mpr ld]; rfl) (wpAny_bind (seenN kx (fun y hy => ?_) ?_))
        · obtain ⟨e, he, rfl⟩ := List.mem_map.mp hy
          have he : e ∈ es := by
            have := Array.mem_toList_iff.mp he
            exact (Array.mem_filter.mp this).1
          have he := Array.mem_toList_iff.mpr he
          rw [Z.rows] at he
          obtain ⟨p2, hp2, rfl⟩ := List.mem_map.mp he
          exact ⟨p2.2, p2.1, rfl, Z.key p2 hp2⟩
        · rw [if_neg Bool.false_ne_true]
          exact go
    · have pr : t.probe (fun i => (es[i]?.map (·.1)).getD 0) (k.hash w) (st.getD (t.probeStart (k.hash w))) = some (.empty (way t.mask (k.hash w) K) none) := by
        rw [est, show way t.mask (k.hash w) K = (nth t.mask (stp t (k.hash w) c) (K - c)).j by rw [stp_add, show c + (K - c) = K by omega, stp_j]]
        exact dp
      rw [pr]
      refine wpAny_pure (no fun km => ?_)
      obtain ⟨p0, pm, e0⟩ := List.mem_map.mp km
      obtain ⟨i0, h0⟩ := List.mem_iff_getElem?.mp pm
      obtain ⟨d0, b1, b2, b3⟩ := ahead i0 p0 h0 e0
      refine dn (d0 - c) i0 (by omega) ?_ ((hAt i0 p0 h0).trans (congrArg (NestedKey.hash w) e0))
      rw [stp_add, stp_j, show c + (d0 - c) = d0 by omega]
      exact b3
end
end My

set_option Elab.async false
set_option linter.all false
set_option maxRecDepth 100000
set_option maxHeartbeats 4000000
namespace My
open PySem PySem.Spec PyProof.Rows L2 PySem.SeqAt
section
variable {P : Program} {w : World} {A : Around} {E : Value → Shared → Prop} {s : Shared} {a : Addr} {M : List Ent} {es : Array (Int × Value)} {ep : Nat} {t : SetTable}
theorem lookN (Z : SetN w s.heap a M es ep t) {x : Addr} {k : NestedKey} (kx : KeyAt s.heap k x) (un : A.units + 8 < cLine) {Q : SetFound → Shared → Prop} (yes : k ∈ M.map (·.2) → Q (.there none) s)
    (no : ∀ K, k ∉ M.map (·.2) → way t.mask (k.hash w) K ∉ t.place.toList → (∀ c, c < K → way t.mask (k.hash w) c ∈ t.place.toList) → Q (.free (way t.mask (k.hash w) K) false) s) : wpAny (model P w) A (setSearch a (.ref x) (k.hash w) true) Q E s := by
  have l3 := Z.room
  obtain ⟨K, Kf, Ke, Kb⟩ := Z.tab.first (by rw [List.length_map]; omega) (k.hash w)
  have small : K < 100000 := by
    have : 10 * SetTable.turns t.mask ≤ 1420 := by
      rcases Z.tab.mok with e | e | e <;> rw [e] <;> decide
    omega
  refine findN Z kx un Kf Ke Kb yes (fun n => no K n Ke Kb) 100000 0 none rfl (Nat.zero_le _) (by omega) fun i p e1 e2 => ?_
  have a2 := Z.tab.sz
  rw [List.length_map] at a2
  have il : i < t.place.toList.length := by
    have := (List.getElem?_eq_some_iff.mp e1).1
    rw [Array.length_toList]
    omega
  have ej := List.getElem?_eq_getElem il
  obtain ⟨c, lc, e⟩ := Z.tab.before Ke (i := i) (by rw [List.getElem?_map, e1]; show some (hsh w p) = _; rw [hsh, e2]) ej
  exact ⟨c, Nat.zero_le _, lc, by rw [ej, e]⟩
theorem picks (Me : ∀ (i : Nat) (p : Ent), M[i]? = some p → es[i]? = some (kept w p)) : ∀ l : List Nat, (∀ i ∈ l, i < M.length) →
    l.filterMap (fun i => es[i]?) = (l.filterMap fun i => M[i]?).map (kept w) ∧ (l.filterMap fun i => M[i]?).map (hsh w) = l.map fun i => (es.map (·.1)).getD i 0
  | [], _ => ⟨rfl, rfl⟩
  | i :: l, h => by
    obtain ⟨h1, h2⟩ := picks Me l fun j hj => h j (.tail _ hj)
    obtain ⟨p, ep⟩ : ∃ p, M[i]? = some p := ⟨_, List.getElem?_eq_getElem (h i (.head _))⟩
    have ee := Me i p ep
    rw [List.filterMap_cons_some ee, List.filterMap_cons_some ep, List.map_cons, List.map_cons, List.map_cons, h1, h2]
    refine ⟨rfl, ?_⟩
    congr 1
    rw [Array.getD_eq_getD_getElem?, Array.getElem?_map, ee]
    rfl
theorem range_picks {α : Type} (M : List α) : ∀ n, n ≤ M.length → (List.range n).filterMap (fun i => M[i]?) = M.take n
  | 0, _ => rfl
  | n + 1, h => by
    have e := List.getElem?_eq_getElem (show n < M.length from h)
    rw [List.range_succ, List.filterMap_append, range_picks M n (by omega), List.filterMap_cons_some e, List.filterMap_nil, List.take_add_one, e]
    rfl
/-- all but the set stays -/
theorem KeyAt.but {h h' : Heap} {k : NestedKey} {b : Addr} {o : Obj} (x : KeyAt h k b) (g1 : h.get? a = some o) (g3 : o.data = .set es ep t) (sb : Heap.SameBut a h h') : KeyAt h' k b := x.stay fun c u vs n e d => (sb.2 c fun z => by
  rw [z, g1] at e
  cases e
  rw [g3] at d
  cases d).trans e
/-- the table laid anew -/
theorem relayN {o : Obj} (g1 : s.heap.get? a = some o) (g2 : o.ExactSet) (g3 : o.data = .set es ep t) (rows : es.toList = M.map (kept w)) (ft : t.fits es.size = true) (nd : (M.map (·.2)).Nodup) (key : ∀ p ∈ M, KeyAt s.heap p.2 p.1)
    (led : w.params.followText "set-order" = true ∨ t.led = true) {n N : Nat} (e1 : SetTable.sizeAbove n - 1 = N) (e2 : MaskOk N) (e3 : SetTable.sizeAbove n ≤ 128) (room : M.length * 5 < N * 3) {Q : Unit → Shared → Prop}
    (q : ∀ h' M' es' ep' t', Heap.SameBut a s.heap h' → SetN w h' a M' es' ep' t' → M'.Perm M → Q () { s with heap := h' }) : wpAny (model P w) A (setRelay a n) Q E s := by
  have sz : es.size = M.length := by rw [← Array.length_toList, rows, List.length_map]
  have Me : ∀ (i : Nat) (p : Ent), M[i]? = some p → es[i]? = some (kept w p) := fun i p e => by
    rw [← Array.getElem?_toList, rows, List.getElem?_map, e]
    rfl
  obtain ⟨t', ord, er, pm, tb, em, el, _, _⟩ := relaid_ok t (hs := es.map (·.1)) (wanted := n) e1 e2 (by rw [Array.size_map]; omega)
  rw [Array.size_map, sz] at pm
  obtain ⟨p1, p2⟩ := picks Me ord.toList fun i hi => List.mem_range.mp (pm.mem_iff.mp hi)
  have pM : (ord.toList.filterMap fun i => M[i]?).Perm M := by
    have := pm.filterMap fun i => M[i]?
    rw [range_picks M _ (Nat.le_refl _), List.take_length] at this
    exact this
  rw [← p2] at tb
  have re : (ord.filterMap (es[·]?)).toList = (ord.toList.filterMap fun i => M[i]?).map (kept w) := by
    rw [Array.toList_filterMap]
    exact p1
  generalize ord.toList.filterMap (fun i => M[i]?) = M' at tb pM re
  have s2 : (ord.filterMap (es[·]?)).size = es.size := by rw [← Array.length_toList, re, List.length_map, pM.length_eq, sz]
  rw [setRelay_eq]
  refine wpAny_bind (wpAny_setState_of g1 g3 ft ?_)
  dsimp only
  refine wp_if_neg (by rw [sizeLine_eq]; omega) ?_
  rw [er]
  refine wpAny_bind (wp_if_neg (by rw [s2]; simp) (wpAny_pure ?_))
  refine wpAny_storeSet_of g1 g3 ?_ (by rw [s2, sz, sizeLine_eq]; rcases e2 with z | z | z <;> omega)
  have sb : Heap.SameBut a s.heap (s.heap.update a (Obj.putSet (ord.filterMap (es[·]?)) t')) := Heap.SameBut.update ..
  refine q _ M' _ (ep + 1) t' sb ⟨⟨_, store_at g1 g3, ⟨g2.1, g2.2.1, g2.2.2⟩, rfl⟩, re, tb, (pM.map (·.2)).nodup_iff.mpr nd, fun p hp => (key p (pM.mem_iff.mp hp)).but g1 g3 sb, by rw [el]; exact led, ?_⟩ pM
  rw [pM.length_eq, em]
  exact room
theorem tab_plain {hs : List Int} (T : TabOk t hs) (b : Bool) : TabOk (if b = true then t else { t with plain := false }) hs := by
  cases b
  · exact ⟨T.ris, T.dm, T.sz, T.mok, T.bd, T.reach⟩
  · exact T
theorem pl_mask (b : Bool) : (if b = true then t else { t with plain := false }).mask = t.mask := by cases b <;> rfl
theorem pl_led (b : Bool) : (if b = true then t else { t with plain := false }).led = t.led := by cases b <;> rfl
theorem pl_fill (b : Bool) : (if b = true then t else { t with plain := false }).fill = t.fill := by cases b <;> rfl
theorem put_in (M : List Ent) (p : Nat) (e : Ent) : (M.take p ++ e :: M.drop p).Perm (e :: M) := by
  have h : (M.take p ++ e :: M.drop p).Perm (e :: (M.take p ++ M.drop p)) := List.perm_middle
  rw [List.take_append_drop] at h
  exact h
/-- a tuple is added -/
theorem addN (Z : SetN w s.heap a M es ep t) {x : Addr} {k : NestedKey} (kx : KeyAt s.heap k x) (un : A.units + 8 < cLine) (few : M.length < 76) {Q : Bool → Shared → Prop}
    (q : ∀ b h' M' es' ep' t', Heap.SameBut a s.heap h' → SetN w h' a M' es' ep' t' → (k ∈ M.map (·.2) → M' = M) → (k ∉ M.map (·.2) → M'.Perm ((x, k) :: M)) → Q b { s with heap := h' }) :
    wpAny (model P w) A (setAddHashed a (.ref x) (k.hash w)) Q E s := by
  obtain ⟨o, g1, g2, g3⟩ := Z.ob
  have sz := Z.size
  have l3 := Z.room
  unfold setAddHashed
  refine wpAny_holding ?_
  rw [show (100000 : Nat) = 99999 + 1 from rfl, setAddHashedIn_succ]
  refine wpAny_bind (wpAny_setState_of g1 g3 Z.fits ?_)
  dsimp only
  refine wp_if_neg (by simp [byScan, Value.scannable]) (wpAny_bind (lookN Z kx un (fun km => ?_) fun K kn Ke Kb => ?_))
  · exact wpAny_pure (q false s.heap M es ep t (Heap.SameBut.refl a s.heap) Z (fun _ => rfl) fun z => absurd km z)
  · refine wpAny_bind (wpAny_setState_of g1 g3 Z.fits ?_)
    dsimp only
    obtain ⟨q1, q2, q3, q4, q5, q6, q7, q8, q9⟩ := Z.tab.put Ke Kb
    generalize t.put (way t.mask (k.hash w) K) = pt at q1 q3 q4 q5 q6 q7 q8 q9 ⊢
    obtain ⟨t1, pl⟩ := pt
    dsimp only at q1 q3 q4 q5 q6 q7 q8 q9 ⊢
    subst q1
    have fin : ∀ b : Bool, wpAny (model P w) A (do
        storeSet a (SetTable.insertAt es (SetTable.below t.place (way t.mask (k.hash w) K)) (k.hash w, Value.ref x)) (if b = true then t1 else { t1 with plain := false })
        if (!false && (if b = true then t1 else { t1 with plain := false }).tooFull) = true then do
          setRelay a (SetTable.grown (es.size + 1))
          pure true
        else pure true) Q E s := fun b => by
      have r1 := tab_plain q3 b
      have r2 := (pl_mask (t := t1) b).trans q4
      have r3 := (pl_led (t := t1) b).trans q5
      have r4 := (pl_fill (t := t1) b).trans q9
      generalize (if b = true then t1 else { t1 with plain := false }) = t2 at r1 r2 r3 r4 ⊢
      generalize SetTable.below t.place (way t.mask (k.hash w) K) = pp at q2 r1 ⊢
      have pm := put_in M pp (x, k)
      have ins : (SetTable.insertAt es pp (k.hash w, Value.ref x)).toList = (M.take pp ++ (x, k) :: M.drop pp).map (kept w) := by
        rw [SetTable.toList_insertAt, Z.rows, List.map_append, List.map_cons, List.map_take, List.map_drop]
        rfl
      have r1 : TabOk t2 ((M.take pp ++ (x, k) :: M.drop pp).map (hsh w)) := by
        rw [List.map_append, List.map_cons, List.map_take, List.map_drop]
        exact r1
      generalize M.take pp ++ (x, k) :: M.drop pp = M1 at pm ins r1
      have ln : M1.length = M.length + 1 := pm.length_eq
      have s1 : (SetTable.insertAt es pp (k.hash w, Value.ref x)).size = M.length + 1 := by rw [← Array.length_toList, ins, List.length_map, ln]
      generalize SetTable.insertAt es pp (k.hash w, Value.ref x) = es1 at ins s1 ⊢
      have nd : (M1.map (·.2)).Nodup := by
        refine (pm.map (·.2)).nodup_iff.mpr ?_
        rw [List.map_cons]
        exact List.nodup_cons.mpr ⟨kn, Z.nd⟩
      refine wpAny_bind (wpAny_storeSet_of g1 g3 ?_ (by rw [s1, sizeLine_eq]; omega))
      have sb : Heap.SameBut a s.heap (s.heap.update a (Obj.putSet es1 t2)) := Heap.SameBut.update ..
      have gg := store_at (es' := es1) (t' := t2) g1 g3
      generalize s.heap.update a (Obj.putSet es1 t2) = h1 at sb gg ⊢
      have key : ∀ p ∈ M1, KeyAt h1 p.2 p.1 := fun p hp => by
        rcases List.mem_cons.mp (pm.mem_iff.mp hp) with e | hp
        · rw [e]; exact kx.but g1 g3 sb
        · exact (Z.key p hp).but g1 g3 sb
      have led : w.params.followText "set-order" = true ∨ t2.led = true := by rw [r3]; exact Z.led
      rw [List.length_map] at r4
      have tz := r1.sz
      rw [List.length_map, ln] at tz
      by_cases fu : t2.tooFull = true
      · have fu2 : (M.length + 1) * 5 ≥ t.mask * 3 := by
          unfold SetTable.tooFull at fu
          rw [decide_eq_true_eq, r4, r2] at fu
          exact fu
        refine wp_if_pos (by rw [fu]; rfl) (wpAny_bind ?_)
        rw [sz]
        have ft : t2.fits es1.size = true := fits_of (by omega) r1.dm (by rw [s1, r2]; rcases Z.tab.mok with e | e | e <;> rw [e] at l3 fu2 ⊢ <;> omega)
        have go : ∀ N, SetTable.sizeAbove (SetTable.grown (M.length + 1)) - 1 = N → MaskOk N → SetTable.sizeAbove (SetTable.grown (M.length + 1)) ≤ 128 → (M.length + 1) * 5 < N * 3 →
            wpAny (model P w) A (setRelay a (SetTable.grown (M.length + 1))) (fun _ now => wpAny (model P w) A (pure true) Q E now) E { s with heap := h1 } := fun N n1 n2 n3 n4 =>
          relayN (s := { s with heap := h1 }) gg ⟨g2.1, g2.2.1, g2.2.2⟩ rfl ins ft nd key led n1 n2 n3 (by rw [ln]; exact n4) fun h2 M2 es2 ep2 t3 sb2 Z2 pm2 => wpAny_pure (q true h2 M2 es2 ep2 t3 (sb.trans sb2) Z2 (fun z => absurd z kn) fun _ => pm2.trans pm)
        rcases Z.tab.mok with e | e | e
        · have e2 : M.length = 4 := by rw [e] at l3 fu2; omega
          exact go 31 (by rw [e2, size_20]) (.inr (.inl rfl)) (by rw [e2, size_20]; decide) (by omega)
        · have e2 : M.length = 18 := by rw [e] at l3 fu2; omega
          exact go 127 (by rw [e2, size_76]) (.inr (.inr rfl)) (by rw [e2, size_76]; decide) (by omega)
        · rw [e] at fu2; omega
      · refine wp_if_neg (by rw [Bool.eq_false_iff.mpr fu]; decide) (wpAny_pure (q true h1 M1 es1 (ep + 1) t2 sb ⟨⟨_, gg, ⟨g2.1, g2.2.1, g2.2.2⟩, rfl⟩, ins, r1, nd, key, led, ?_⟩ (fun z => absurd z kn) fun _ => pm))
        unfold SetTable.tooFull at fu
        rw [decide_eq_true_eq, r4] at fu
        rw [ln]
        omega
    by_cases e : t1.plain = true
    · exact wp_if_pos e (wpAny_bind (hashTold k _ 8 s kx.1 kx.2 _ _ _ fun b => fin b))
    · exact wp_if_neg e (wpAny_bind (wpAny_pure (fin true)))
end
end My

set_option Elab.async false
set_option linter.all false
set_option maxRecDepth 100000
set_option maxHeartbeats 4000000
/-! set(xs) of a list, by any word T i h of what the set is behind i items. -/
namespace My
open PySem PySem.Spec PyProof.Rows L2 PySem.SeqAt
section
variable {P : Program} {w : World} {A : Around} {E : Value → Shared → Prop} {s : Shared}
/-- what adding the items asks -/
structure Adds (P : Program) (w : World) (A : Around) (S : Addr) (wr : List Addr) (n : Nat) (Pv : Nat → Value → Prop) (T : Nat → Heap → Prop) : Prop where
  stay : ∀ i h h', T i h → (∀ b o, b ∉ wr → h.get? b = some o → h'.get? b = some o) → T i h'
  add : ∀ (i : Nat) (v : Value) (s : Shared) (Q : Bool → Shared → Prop) (E : Value → Shared → Prop), i < n → Pv i v → T i s.heap → (∀ b h' tk, T (i + 1) h' → s.toks ≤ tk → Heap.SameBut S s.heap h' → Q b { s with heap := h', toks := tk }) → wpAny (model P w) A (setAdd S v) Q E s
theorem updateG {I : Addr} {fp wr : List Addr} {G : Array GenState → Array GenState → Prop} {n : Nat} {Pv : Nat → Value → Prop} {St : Nat → Shared → Prop} {R : Result → Shared → Prop} {S : Addr} {T : Nat → Heap → Prop}
    (W : WalksS P w A.in1 I fp wr G n Pv St) (nf : S ∉ fp) (D : Adds P w A.in1 S wr n Pv T) : ∀ (k i : Nat) (s : Shared), n - i = k → i ≤ n → St i s → T i s.heap → (∀ s', Moved (S :: wr) G s s' → T n s'.heap → R (.ok (.ret .none)) s') →
      codeAny (model P w) A (.builtin "set.update.loop" ⟨[.ref S, .ref I], []⟩) R s := by
  have up : ∀ b ∈ wr, b ∈ S :: wr := fun b hb => .tail _ hb
  intro k
  induction k with
  | zero =>
    intro i s e l st ti q
    obtain rfl : i = n := by omega
    refine codeAny_builtin PyProof.Rows.F.entry_set_update_loop ?_
    rw [Around.under_plainId PyProof.Rows.F.plain_set_update_loop _]
    refine (?_ : wpAny _ A.in1 (pyNext (.ref I) >>= _) _ _ s)
    exact wpAny_bind (W.done s _ _ st fun s' m => wpAny_pure (q s' (m.mono up) (D.stay _ _ _ ti fun b o nb e => m.heap b o nb e)))
  | succ k ih =>
    intro i s e l st ti q
    have lt : i < n := by omega
    refine codeAny_builtin PyProof.Rows.F.entry_set_update_loop ?_
    rw [Around.under_plainId PyProof.Rows.F.plain_set_update_loop _]
    refine (?_ : wpAny _ A.in1 (pyNext (.ref I) >>= _) _ _ s)
    refine wpAny_bind (W.item i s _ _ lt st fun v s1 pv st1 m => ?_)
    refine (?_ : wpAny _ A.in1 (holding [v] (setAdd S v) >>= _) _ _ s1)
    refine wpAny_bind (wpAny_holding (D.add i v s1 _ _ lt pv (D.stay _ _ _ ti fun b o nb e => m.heap b o nb e) fun b h2 tk t2 ltk sb => ?_))
    refine wpAny_pure ⟨plainId_quiet PyProof.Rows.F.plain_set_update_loop _, ih (i + 1) _ (by omega) lt (W.frame _ s1 _ _ st1 ltk fun c hc o e => ?_) t2 fun s3 m3 t3 => ?_⟩
    · rw [sb.2 c (fun z => nf (by rw [← z]; exact hc))]; exact e
    · refine q s3 (Moved.trans W.gtrans ((m.mono up).then_heap ltk fun c o hc e => ?_) m3) t3
      rw [sb.2 c (fun z => hc (by rw [z]; exact .head _))]; exact e
/-- a set made new -/
def freshSet (w : World) : Obj := { cls := .type "set", dict := none, data := .set #[] 0 (.fresh 0 0 (!w.params.followText "set-order")) }
theorem callG {l : Addr} {items : Array Value} {Q : Value → Shared → Prop} {T : Nat → Heap → Prop} (hh : A.handled = none) (hl : s.heap.IsList l items)
    (D : Adds P w A.in1.in1.in1 s.heap.objs.size [s.heap.objs.size + 1] items.size (fun i v => items[i]? = some v) T)
    (t0 : ∀ h : Heap, h.get? s.heap.objs.size = some (freshSet w) → (∀ b o, s.heap.get? b = some o → h.get? b = some o) → T 0 h)
    (q : ∀ (h' : Heap) (tk : Nat), T items.size h' → (∀ b o, s.heap.get? b = some o → h'.get? b = some o) → Q (.ref s.heap.objs.size) { s with heap := h', toks := tk }) :
    wpAny (model P w) A (call (.type "set") [.ref l]) Q E s := by
  obtain ⟨c, tl, f1⟩ := PySem.F.called_set.mro
  have f2 := PySem.F.called_set.made
  have f3 := PySem.F.called_set.sub
  refine wpAny_call (codeAny_of_tree (?_ : wpAny _ _ (callAny (.type "set") _) _ _ _))
  refine wpAny_pure ⟨Code.quiet_builtin _ (by decide +kernel), codeAny_builtin PySem.F.entry_type_call ?_⟩
  rw [Around.under_plain (weight_type_call_type "set" [.ref l] []) rfl]
  have f4 := PySem.F.called_set.notType
  have f5 := PySem.F.called_set.canCreate
  have f6 := F.typeCall_set_1 (.ref l)
  repeat (any_goals (first | assumption | wp_step))
  refine codeAny_mono (code_set_led1 (.ref l) (E := E) (Q₁ := fun v now => v = .ref s.heap.objs.size ∧ now = { s with heap := s.heap.push (freshSet w) }) ⟨rfl, rfl⟩) fun r now hr => ?_
  match r, hr with
  | .error e, hr => exact hr
  | .ok (.ret v), hr =>
    obtain ⟨rfl, rfl⟩ := hr
    have hS : (s.heap.push (freshSet w)).get? s.heap.objs.size = some (freshSet w) := Heap.get?_push_size _ rfl
    have hT : Shared.TypeIs { s with heap := s.heap.push (freshSet w) } (.ref s.heap.objs.size) "set" := ⟨_, hS, rfl⟩
    have f7 := F.called_set.init.lookup
    have f8 := F.called_set.init.bind (.ref s.heap.objs.size)
    repeat (any_goals (first | assumption | wp_step))
    refine codeAny_mono (codeAny_call_builtin (R := wants (fun r s₂ => r = .none ∧ ∃ h' tk, s₂ = { s with heap := h', toks := tk } ∧ T items.size h' ∧ ∀ b o, s.heap.get? b = some o → h'.get? b = some o) E) F.called_set.init.plain F.entry_set_init (check_set_init_1 hT ?_)) fun r₂ s₂ hr₂ => ?_
    · obtain ⟨⟨ocls, odict, odata, oslots⟩, o1, o2, nl, o3⟩ := hl
      simp only at o2 o3
      subst o2 o3
      have o4 : (s.heap.push (freshSet w)).get? l = some { cls := .type "list", dict := odict, data := .seq items nl, slots := oslots } := Heap.get?_push_of_some _ o1
      have f9 := F.sub_list_set
      have f10 := F.sub_list_frozenset
      have f11 : (Value.type "list" == Value.type "dict") = false := by decide
      have hl1 : (s.heap.push (freshSet w)).IsList l items := ⟨_, o4, rfl, nl, rfl⟩
      have lS : l < s.heap.objs.size := Heap.lt_size o1
      have z1 : (s.heap.push (freshSet w)).objs.size = s.heap.objs.size + 1 := Heap.size_push ..
      unfold Builtin.«set.__init__» noKeywords Builtin.Frozenset.updateFrom
      generalize hPI : pyIter = PI
      wp_walk
      subst hPI
      refine wpAny_pyIter_list hl1 (wpAny_bind (wpAny_runValue ?_))
      have ne1 : l ≠ (s.heap.push (freshSet w)).objs.size := by rw [z1]; exact Nat.ne_of_lt (Nat.lt_succ_of_lt lS)
      have D2 := D
      rw [← z1] at D2
      refine updateG ((Walks.list (by simp [hh]) _ l ne1 items).toS) (S := s.heap.objs.size) (by rw [z1]; simp only [List.mem_cons, List.not_mem_nil, or_false, not_or]; exact ⟨Nat.ne_of_lt (Nat.lt_succ_self _), (Nat.ne_of_lt lS).symm⟩) D2 (items.size - 0) 0 _ rfl (Nat.zero_le _) ⟨⟨_, Heap.get?_push_size _ rfl, rfl, rfl⟩, hl1.push _⟩ (t0 _ (Heap.get?_push_of_some _ hS) fun b o e => Heap.get?_push_of_some _ (Heap.get?_push_of_some _ e)) fun s' m t1 => ?_
      obtain ⟨h', g', d', tk', os'⟩ := s'
      have eg : g' = s.gens := m.gens
      have ed : d' = s.drawn := m.drawn
      have eo : os' = s.os := m.os
      subst eg ed eo
      refine wpAny_pure (wpAny_pure ⟨rfl, h', tk', rfl, t1, fun b o e => ?_⟩)
      have lt := Heap.lt_size e
      refine m.heap b o ?_ (Heap.get?_push_of_some _ (Heap.get?_push_of_some _ e))
      rw [z1]
      simp only [List.mem_cons, List.not_mem_nil, or_false, not_or]
      exact ⟨Nat.ne_of_lt lt, Nat.ne_of_lt (Nat.lt_succ_of_lt lt)⟩
    · match r₂, hr₂ with
      | .error e, hr₂ => exact hr₂
      | .ok (.ret r), hr₂ =>
        obtain ⟨rfl, h', tk, rfl, t1, kp⟩ := hr₂
        repeat (any_goals (first | assumption | wp_step))
        exact q _ _ t1 kp
end
end My

set_option Elab.async false
set_option linter.all false
set_option maxRecDepth 100000
set_option maxHeartbeats 4000000
/-! sorted(xs) of tuples whose first places are texts. -/
namespace My
open PySem PySem.Spec PyProof.Rows L2 PySem.SeqAt PySem.W
section
variable {prog : Program} {w : World} {A : Around} {E : Value → Shared → Prop} {s : Shared}
theorem one_ltT {f : Bool} {x y : NestedKey} {a b : Value} {c : Bool} {n : Nat} {Q : Bool → Shared → Prop} (tx : f = true → ∃ z, x = .text z) (p : Ns s.heap x a) (q : Ns s.heap y b) (e : ltK x y = some c) (hd : x.depth ≤ n) (hu : A.units + n < cLine) (hq : Q c s) :
    wpAny (model prog w) A (oneLt' f a b) Q E s := by
  cases f with
  | false => exact one_ltN (fun z => by cases z) p q e hd hu hq
  | true =>
    obtain ⟨z, rfl⟩ := tx rfl
    cases p
    cases q with
    | text z' u =>
      rw [ltK] at e
      cases e
      exact oneLt_str hq
    | _ => simp [ltK] at e
theorem katLexT {fin : Bool} {n : Nat} {Q : Bool → Shared → Prop} {x y : NestedKey} {xs ys : List NestedKey} {a b : Value} {us vs : List Value} {c : Bool} (p : Ns s.heap x a) (ps : NsAll s.heap xs us) (q : Ns s.heap y b) (qs : NsAll s.heap ys vs) (tx : ∃ z, x = .text z)
    (e : ltAll (x :: xs) (y :: ys) = some c) (hd : ∀ z ∈ x :: xs, z.depth ≤ n) (hu : A.units + n < cLine) (hf : fin = decide ((a :: us).length < (b :: vs).length)) (hq : Q c s) : KatLex prog w A true fin Q ((a :: us).zip (b :: vs)) 0 s := by
  rw [List.zip_cons_cons]
  have dx := hd x (.head _)
  refine kat_cons (eqAt_key x y A s _ _ p.is q.is (by omega) prog w _ _ ?_)
  rw [← NestedKey.decide_eq]
  rw [ltAll] at e
  by_cases h : x = y
  · rw [if_pos h] at e
    rw [decide_eq_true h]
    exact kat_yes (katLexN xs ys 1 _ _ c ps qs e (fun z hz => hd z (.tail _ hz)) hu (fun _ hi => absurd hi (by decide)) (by rw [hf]; simp) hq)
  · rw [if_neg h] at e
    rw [decide_eq_false h]
    exact kat_no (one_ltT (n := n) (fun _ => tx) p q e dx hu hq)
theorem each_text {h : Heap} : ∀ {vs : List Value} {ks : List NestedKey}, EachIs (fun v k => Ns h k v) vs ks → (∀ k ∈ ks, ∃ z r, k = .tup (.text z :: r)) → ∃ fs, KatTups h vs fs ∧ fs.length = vs.length ∧ ∀ f ∈ fs, ∃ z t, f = Value.str z t
  | _, _, .nil, _ => ⟨[], KatTups.nil, rfl, fun f hf => by cases hf⟩
  | _, _, .cons (b := k) p t, hk => by
    obtain ⟨fs, h1, h2, h3⟩ := each_text t fun k hk2 => hk k (.tail _ hk2)
    obtain ⟨z, r, rfl⟩ := hk k (.head _)
    cases p with
    | @tup a o vs n _ ho hc hd hr =>
      cases q : vs.toList with
      | nil => rw [q] at hr; cases hr
      | cons f fr =>
        rw [q] at hr
        cases hr with
        | cons p1 p2 =>
          obtain ⟨u, rfl⟩ : ∃ u, f = Value.str z u := by cases p1; exact ⟨_, rfl⟩
          refine ⟨_ :: fs, KatTups.cons ho hc hd (by rw [← Array.getElem?_toList, q]; rfl) h1, by rw [List.length_cons, List.length_cons, h2], fun g hg => ?_⟩
          rcases List.mem_cons.mp hg with rfl | hg
          · exact ⟨_, _, rfl⟩
          · exact h3 g hg
theorem sortsT {vs : List Value} {ks : List NestedKey} {n : Nat} (e : EachIs (fun v k => Ns s.heap k v) vs ks) (hh : ∀ k ∈ ks, ∃ z r, k = .tup (.text z :: r)) (hc : ∀ k ∈ ks, ∀ k' ∈ ks, ∃ c, ltK k k' = some c) (hd : ∀ k ∈ ks, k.depth ≤ n) (hu : A.units + n < cLine) :
    SortsAt prog w A s (nkKind s.heap ks) vs := by
  refine ⟨fun v hv => ?_, tuples' ((Value.type "str") != Value.type "tuple"), ?_, fun h2 E Q hq => ?_⟩
  · obtain ⟨k, hk, p⟩ := e.left v hv
    exact ⟨_, nk_some hk p⟩
  · intro E x y a b Q ha hb hq
    obtain ⟨k, hk, p, rfl⟩ := nk_inv ha
    obtain ⟨k', hk', p', rfl⟩ := nk_inv hb
    obtain ⟨c, ec⟩ := hc k hk k' hk'
    have dk := hd k hk
    obtain ⟨z, r, rfl⟩ := hh k hk
    obtain ⟨z', r', rfl⟩ := hh k' hk'
    rw [depth_tup] at dk
    rw [ltK] at ec
    have hq : Q (lexT (toks (.tup (.text z :: r))) (toks (.tup (.text z' :: r')))) s := hq
    rw [lex_tup ec] at hq
    cases p with
    | @tup _ _ vs1 _ _ h1 h2 h3 h4 =>
      cases p' with
      | @tup _ _ vs2 _ _ k1 k2 k3 k4 =>
        refine kat_lt h1 h3 k1 k3 ?_
        cases e1 : vs1.toList with
        | nil => rw [e1] at h4; cases h4
        | cons a1 us =>
          cases e2 : vs2.toList with
          | nil => rw [e2] at k4; cases k4
          | cons b1 ws =>
            rw [e1] at h4
            rw [e2] at k4
            cases h4 with
            | cons p1 p2 =>
              cases k4 with
              | cons q1 q2 =>
                refine katLexT (n := n) p1 p2 q1 q2 ⟨z, rfl⟩ ec (fun x hx => ?_) hu ?_ hq
                · have := depth_mem hx
                  omega
                · rw [← e1, ← e2]
                  simp
  · obtain ⟨fs, t1, t2, t3⟩ := each_text e hh
    refine kat_kind (T := Value.type "str") t1 (by omega) (fun f hf => ?_) (beq_self_eq_true _) hq
    obtain ⟨z, t, rfl⟩ := t3 f hf
    exact looks_reads (Reads.str z t)
end
end My

set_option Elab.async false
set_option linter.all false
set_option maxRecDepth 100000
set_option maxHeartbeats 4000000
/-! sorted(xs) of nested tuples. -/
namespace My
open PySem PySem.Spec PyProof.Rows L2 PySem.SeqAt PySem.W
mutual
theorem Ns.stay {h h' : Heap} (g : ∀ b o, h.get? b = some o → o.cls = .type "tuple" → h'.get? b = some o) : ∀ {k : NestedKey} {v : Value}, Ns h k v → Ns h' k v
  | .none, _, .none => .none
  | .num _, _, .int i t => .int i t
  | .text _, _, .text x t => .text x t
  | .tup _, _, .tup e c d r => .tup (g _ _ e c) c d (NsAll.stay g r)
theorem NsAll.stay {h h' : Heap} (g : ∀ b o, h.get? b = some o → o.cls = .type "tuple" → h'.get? b = some o) : ∀ {ks : List NestedKey} {vs : List Value}, NsAll h ks vs → NsAll h' ks vs
  | [], _, .nil => .nil
  | _ :: _, _, .cons a r => .cons (Ns.stay g a) (NsAll.stay g r)
end
/-- what sorting asks of the keys -/
structure Sbl (ks : List NestedKey) : Prop where
  heads : (∀ k ∈ ks, ∃ z r, k = .tup (.text z :: r)) ∨ ∀ k ∈ ks, ∃ i r, k = .tup (.num i :: r)
  cmp : ∀ k ∈ ks, ∀ k' ∈ ks, ∃ c, ltK k k' = some c
  deep : ∀ k ∈ ks, k.depth ≤ 50
theorem each_of {X : Cx} {pins : List (Addr × Obj)} {σ : L2.St} {H : Hp} {s : Shared} (I : Inv X pins σ H s) : ∀ {xs : List V} {ks : List NestedKey} {vs : List Value}, NkAll H xs ks → Vals xs vs → EachIs (fun v k => Ns s.heap k v) vs ks
  | _, _, _, .nil, .nil => .nil
  | _, _, _, .cons a h, .cons r1 r2 => .cons (a.ns I r1) (each_of I h r2)
/-- the items with their keys, sorted -/
def srt (xs : List V) (ks : List NestedKey) : List (V × NestedKey) := (xs.zip ks).mergeSort (leF id)
section
variable {X : Cx} {pins : List (Addr × Obj)} {σ : L2.St} {H : Hp} {s : Shared} {E : Value → Shared → Prop}
theorem sort_tail {xs : List V} {vs : List Value} {ks : List NestedKey} {Q : Value → Shared → Prop} (I : Inv X pins σ H s) (un : X.A.units + 60 < cLine) (rv : Vals xs vs) (nk : NkAll H xs ks) (sb : Sbl ks) (hz : vs.length ≤ sizeLine) (p : Addr) (ep : p = s.heap.objs.size)
    (q : ∀ s', Inv X pins σ (upd H p (.lst ((srt xs ks).map Prod.fst))) s' → Q (.ref p) s') :
    wpAny (model X.prog X.w) X.A.in1 (call (.builtin "list.sort") [.ref p]) (fun _ s' => Q (.ref p) s') E { s with heap := s.heap.push (seqObj "list" vs.toArray 0) } := by
  subst ep
  have ho : (s.heap.push (seqObj "list" vs.toArray 0)).get? s.heap.objs.size = some (seqObj "list" vs.toArray 0) := Heap.get?_push_size _ rfl
  have up : ∀ b o, s.heap.get? b = some o → (s.heap.push (seqObj "list" vs.toArray 0)).get? b = some o := fun b o e => Heap.get?_push_of_some _ e
  have e0 := each_of I nk rv
  have e1 : EachIs (fun v k => Ns (sortingHeap (s.heap.push (seqObj "list" vs.toArray 0)) s.heap.objs.size vs) k v) vs ks := e0.mono fun v k n => n.stay fun b o e _ => sortingHeap_old (Nat.ne_of_lt (Heap.lt_size e)) (up b o e)
  have S : SortsAt X.prog X.w X.A.in1.in1 { s with heap := sortingHeap (s.heap.push (seqObj "list" vs.toArray 0)) s.heap.objs.size vs } (nkKind (sortingHeap (s.heap.push (seqObj "list" vs.toArray 0)) s.heap.objs.size vs) ks) vs := by
    rcases sb.heads with h | h
    · exact sortsT (n := 50) (s := { s with heap := sortingHeap (s.heap.push (seqObj "list" vs.toArray 0)) s.heap.objs.size vs }) e1 h sb.cmp sb.deep (by show X.A.units + 1 + 1 + 50 < cLine; omega)
    · exact sortsN (n := 50) (s := { s with heap := sortingHeap (s.heap.push (seqObj "list" vs.toArray 0)) s.heap.objs.size vs }) e1 h sb.cmp sb.deep (by show X.A.units + 1 + 1 + 50 < cLine; omega)
  refine wpAny_call_entry slot_list_sort ⟨_, ho, rfl⟩ entry_list_sort (list_sort_vals (s := { s with heap := s.heap.push (seqObj "list" vs.toArray 0) }) ho S hz ⟨_, rfl, ?_⟩) (args_list_sort _)
  have lk : xs.length = ks.length := nk.length
  have out := sortVals_each (κ := nkKind (sortingHeap (s.heap.push (seqObj "list" vs.toArray 0)) s.heap.objs.size vs) ks) (rev := false) (R := fun (v : Value) (b : V × NestedKey) => RelV b.1 v) (ks := vs) (vs := vs) (bs := xs.zip ks) (fun b => toks b.2) (zip_each rv lk) (each_snd ((each_mem e1).mono fun v k q => nk_some q.2 q.1) lk)
  have rel : Vals ((srt xs ks).map Prod.fst) (sortVals (nkKind (sortingHeap (s.heap.push (seqObj "list" vs.toArray 0)) s.heap.objs.size vs) ks) false vs vs) := each_vals out
  generalize sortVals (nkKind (sortingHeap (s.heap.push (seqObj "list" vs.toArray 0)) s.heap.objs.size vs) ks) false vs vs = os at rel ⊢
  have lo : ((srt xs ks).map Prod.fst).length ≤ sizeLine := by
    have := rv.length
    rw [List.length_map, srt, List.length_mergeSort, List.length_zip]
    omega
  obtain ⟨c, gc⟩ := sortedHeap_at (vs := vs) (out := os.toArray) ho
  refine q _ (I.laid (t' := s.toks) (fun b o e => ?_) (Nat.le_refl _) ⟨lo, os, c, rel, gc⟩)
  have lt := Heap.lt_size e
  rw [sortedHeap_old (Nat.ne_of_lt lt) (by rw [size_push']; exact Nat.lt_succ_of_lt lt)]
  exact up b o e
/-- sorted(xs), a list -/
def rSortL (K : PySem.W.Frag) : List V → Hp → VK → Prop := fun vs H Q => ∃ (l : Addr) (xs : List V) (ks : List NestedKey), vs = [.ref l] ∧ SqL K H l xs ∧ NkAll H xs ks ∧ Sbl ks ∧ xs.length ≤ 1000 ∧ ∀ p, H p = none → Q (.ref p) (upd H p (.lst ((srt xs ks).map Prod.fst)))
theorem cr_sortL (un : X.A.units + 64 < cLine) : CallR X (.builtin "sorted") (rSortL X.K) := by
  intro pins s σ H vs us Q I r h
  obtain ⟨l, xs, ks, rfl, hl, nk, sb, lx, q⟩ := h
  rw [Vals.ref1 r]
  obtain ⟨its, rv, pl, hz⟩ := I.list hl
  have lv : its.length ≤ sizeLine := by rw [← rv.length, sizeLine_eq]; omega
  refine Calls.call_function_entry kind_sorted plain_sorted entry_sorted (args_sorted1 _) ?_
  unfold Builtin.«sorted»
  refine wpAny_bind (m := checkCount "sorted" 1 1 _) (wpAny_pure (wpAny_bind (collect_list pl.isList ?_ lv)))
  have k1 : ∀ b o, s.heap.get? b = some o → ((s.heap.push (seqObj "list" #[] 0)).update s.heap.objs.size (Obj.mapSeq (· ++ its.toArray))).get? b = some o := fun b o e => by
    have lt := Heap.lt_size e
    rw [Heap.get?_update_ne _ _ _ _ (Nat.ne_of_lt lt)]
    exact Heap.get?_push_of_some _ e
  have I1 : Inv X pins σ H { s with heap := (s.heap.push (seqObj "list" #[] 0)).update s.heap.objs.size (Obj.mapSeq (· ++ its.toArray)), toks := s.toks } := I.kept k1
  have fresh := I1.hok.fresh (Nat.le_refl _)
  refine wpAny_bind (wpAny_newList ?_ lv)
  refine wpAny_bind (wpAny_holding (sort_tail (Q := fun v s' => wpAny (model X.prog X.w) X.A.in1 (ret v) _ _ s') I1 (by omega) rv nk sb lv _ rfl fun s' J => wpAny_pure ⟨_, rfl, .ref _, _, J, rfl, q _ fresh⟩))
end
end My

set_option Elab.async false
set_option linter.all false
set_option maxRecDepth 100000
set_option maxHeartbeats 4000000
/-! set(xs), sorted(set) of nested tuples. -/
namespace My
open PySem PySem.Spec PyProof.Rows L2 PySem.SeqAt PySem.W
/-- the set at a, but for the tuples themselves -/
def SetW (w : World) (h : Heap) (a : Addr) (M : List Ent) : Prop := ∃ (es : Array (Int × Value)) (ep : Nat) (t : SetTable), (∃ o, h.get? a = some o ∧ o.ExactSet ∧ o.data = .set es ep t) ∧ es.toList = M.map (kept w) ∧ TabOk t (M.map (hsh w)) ∧ (M.map (·.2)).Nodup ∧
  (w.params.followText "set-order" = true ∨ t.led = true) ∧ M.length * 5 < t.mask * 3
theorem SetN.w {w : World} {h : Heap} {a : Addr} {M : List Ent} {es : Array (Int × Value)} {ep : Nat} {t : SetTable} (Z : SetN w h a M es ep t) : SetW w h a M := ⟨es, ep, t, Z.ob, Z.rows, Z.tab, Z.nd, Z.led, Z.room⟩
theorem SetW.full {w : World} {h : Heap} {a : Addr} {M : List Ent} (Z : SetW w h a M) (k : ∀ p ∈ M, KeyAt h p.2 p.1) : ∃ es ep t, SetN w h a M es ep t := let ⟨es, ep, t, a, b, c, d, e, f⟩ := Z; ⟨es, ep, t, a, b, c, d, k, e, f⟩
theorem SetW.nd {w : World} {h : Heap} {a : Addr} {M : List Ent} (Z : SetW w h a M) : (M.map (·.2)).Nodup := let ⟨_, _, _, _, _, _, d, _⟩ := Z; d
def SetO (w : World) (a : Addr) (M : List Ent) : HO := .ext fun h => SetW w h a M
theorem setO_new {P : Program} {w : World} {H : Hp} {h : Heap} {a : Addr} {M : List Ent} (Z : SetW w h a M) : ObjOk P w H h a (SetO w a M) := by
  have ⟨es, ep, t, ⟨o, g, r⟩, q⟩ := Z
  refine ⟨Z, ⟨o, g⟩, fun h1 h2 p k => ?_⟩
  have ⟨es', ep', t', ⟨o', g', r'⟩, q'⟩ := (p : SetW w h1 a M)
  exact ⟨es', ep', t', ⟨o', k o' g', r'⟩, q'⟩
/-- what the set has got of the first i items -/
structure Gets (ks : List Ent) (i : Nat) (M : List Ent) : Prop where
  sub : ∀ p ∈ M, p ∈ ks.take i
  all : ∀ p ∈ ks.take i, p.2 ∈ M.map (·.2)
  len : M.length ≤ i
theorem Gets.none (ks : List Ent) : Gets ks 0 [] := ⟨(fun p h => by cases h), (fun p h => by rw [List.take_zero] at h; cases h), Nat.le_refl _⟩
theorem Gets.next {ks M M' : List Ent} {i : Nat} {x : Ent} (g : Gets ks i M) (e : ks[i]? = some x) (c1 : x.2 ∈ M.map (·.2) → M' = M) (c2 : x.2 ∉ M.map (·.2) → M'.Perm (x :: M)) : Gets ks (i + 1) M' := by
  have tk : ks.take (i + 1) = ks.take i ++ [x] := by rw [List.take_add_one, e]; rfl
  by_cases c : x.2 ∈ M.map (·.2)
  · rw [c1 c]
    refine ⟨fun p hp => ?_, fun p hp => ?_, Nat.le_succ_of_le g.len⟩
    · rw [tk]; exact List.mem_append_left _ (g.sub p hp)
    · rw [tk] at hp
      rcases List.mem_append.mp hp with h | h
      · exact g.all p h
      · rw [List.mem_singleton.mp h]; exact c
  · have pm := c2 c
    refine ⟨fun p hp => ?_, fun p hp => ?_, by rw [pm.length_eq]; exact Nat.succ_le_succ g.len⟩
    · rw [tk]
      rcases List.mem_cons.mp (pm.mem_iff.mp hp) with h | h
      · rw [h]; exact List.mem_append_right _ (.head _)
      · exact List.mem_append_left _ (g.sub p h)
    · rw [(pm.map (·.2)).mem_iff, List.map_cons]
      rw [tk] at hp
      rcases List.mem_append.mp hp with h | h
      · exact .tail _ (g.all p h)
      · rw [List.mem_singleton.mp h]; exact .head _
theorem addsN {P : Program} {w : World} {A : Around} {h0 : Heap} {S : Addr} {wr : List Addr} {ks : List Ent} {n : Nat} {Pv : Nat → Value → Prop} (hn : n = ks.length) (few : ks.length ≤ 76) (pv : ∀ i v, Pv i v → ∃ p, ks[i]? = some p ∧ v = .ref p.1) (kk : ∀ p ∈ ks, KeyAt h0 p.2 p.1) (nS : h0.get? S = none)
    (nw : ∀ b ∈ wr, h0.get? b = none) (Sw : S ∉ wr) (un : A.units + 8 < cLine) : Adds P w A S wr n Pv (fun i h => (∃ M es ep t, SetN w h S M es ep t ∧ Gets ks i M) ∧ ∀ b o, h0.get? b = some o → h.get? b = some o) where
  stay := fun i h h' ⟨⟨M, es, ep, t, Z, g⟩, kp⟩ st => by
    have kp' : ∀ b o, h0.get? b = some o → h'.get? b = some o := fun b o e => st b o (fun z => by rw [nw b z] at e; cases e) (kp b o e)
    obtain ⟨o, g1, g2⟩ := Z.ob
    exact ⟨⟨M, es, ep, t, ⟨⟨o, st _ _ Sw g1, g2⟩, Z.rows, Z.tab, Z.nd, fun p hp => (kk p (List.mem_of_mem_take (g.sub p hp))).stay fun b o _ _ e _ => kp' b o e, Z.led, Z.room⟩, g⟩, kp'⟩
  add := fun i v s Q E lt pvi ⟨⟨M, es, ep, t, Z, g⟩, kp⟩ q => by
    obtain ⟨p, ep, rfl⟩ := pv i v pvi
    have kx : KeyAt s.heap p.2 p.1 := (kk p (List.mem_of_getElem? ep)).stay fun b o _ _ e _ => kp b o e
    unfold setAdd
    refine wpAny_holding (wpAny_bind ((nestedKind P w).pyHash un kx ?_))
    refine addN (s := { s with toks := s.toks + p.2.draws }) Z kx un (by have := g.len; omega) fun b h' M' es' ep' t' sb Z' c1 c2 => q b h' _ ⟨⟨M', es', ep', t', Z', g.next ep c1 c2⟩, fun c o e => ?_⟩ (Nat.le_add_right _ _) sb
    exact (sb.2 c (fun z => by rw [z, nS] at e; cases e)).trans (kp c o e)
theorem fresh_set {w : World} {h : Heap} {a : Addr} (g : h.get? a = some (freshSet w)) : SetN w h a [] #[] 0 (.fresh 0 0 (!w.params.followText "set-order")) where
  ob := ⟨_, g, ⟨rfl, rfl, rfl⟩, rfl⟩
  rows := rfl
  tab := ⟨List.Pairwise.nil, rfl, rfl, .inl rfl, (fun x hx => by cases hx), fun i h j hi => by simp at hi⟩
  nd := List.nodup_nil
  key := fun p hp => by cases hp
  led := by
    cases e : w.params.followText "set-order"
    · exact .inr rfl
    · exact .inl rfl
  room := by show 0 * 5 < 7 * 3; decide
theorem vals_ref : ∀ {ks : List Ent} {us : List Value}, Vals (ks.map fun p => V.ref p.1) us → us = ks.map fun p => Value.ref p.1
  | [], _, .nil => rfl
  | p :: ks, _, .cons r t => by cases r; rw [vals_ref t]; rfl
theorem ref_vals : ∀ (ks : List Ent), Vals (ks.map fun p => V.ref p.1) (ks.map fun p => Value.ref p.1)
  | [] => .nil
  | p :: ks => .cons rfl (ref_vals ks)
section
variable {X : Cx}
theorem Nk.keyAt {pins : List (Addr × Obj)} {σ : L2.St} {H : Hp} {s : Shared} (I : Inv X pins σ H s) {k : NestedKey} {a : Addr} (n : Nk H (.ref a) k) (d : k.depth ≤ 8) : KeyAt s.heap k a := ⟨(n.ns I rfl).is, d⟩
/-- set(xs), xs a list of nested tuples -/
def rSetN (K : PySem.W.Frag) (w : World) : List V → Hp → VK → Prop := fun xs H Q => ∃ (l : Addr) (ks : List Ent), xs = [V.ref l] ∧ SqL K H l (ks.map fun p => V.ref p.1) ∧ (∀ p ∈ ks, Nk H (.ref p.1) p.2 ∧ p.2.depth ≤ 8) ∧ ks.length ≤ 76 ∧
  ∀ a M, H a = none → (∀ p ∈ M, p ∈ ks) → (∀ p ∈ ks, p.2 ∈ M.map (·.2)) → (M.map (·.2)).Nodup → Q (.ref a) (upd H a (SetO w a M))
theorem cr_setN (hc : X.calm = true) (hu : X.A.units + 64 < cLine) : CallR X (.type "set") (rSetN X.K X.w) := by
  intro pins s σ H xs us Q I r h
  obtain ⟨l, ks, rfl, hl, hk, few, q⟩ := h
  rw [Vals.ref1 r]
  obtain ⟨its, rv, pl, hz⟩ := I.list hl
  have ei := vals_ref rv
  have non : ∀ b, s.heap.objs.size ≤ b → s.heap.get? b = none := fun b lb => by
    cases e : s.heap.get? b with
    | none => rfl
    | some o => exact absurd (Nat.lt_of_lt_of_le (Heap.lt_size e) lb) (Nat.lt_irrefl _)
  refine callG (P := X.prog) (w := X.w) (items := its.toArray) (I.ok.hd hc) pl.isList (addsN (h0 := s.heap) (ks := ks) (by rw [List.size_toArray, ei, List.length_map]) few (fun i v e => ?_) (fun p hp => (hk p hp).1.keyAt I (hk p hp).2) (non _ (Nat.le_refl _)) (fun b hb => ?_) ?_ (by show X.A.units + 1 + 1 + 1 + 8 < cLine; omega))
    (fun h g kp => ⟨⟨[], _, _, _, fresh_set g, .none ks⟩, kp⟩) fun h' tk t1 kp => ?_
  · rw [List.getElem?_toArray, ei, List.getElem?_map] at e
    cases e2 : ks[i]? with
    | none => rw [e2] at e; cases e
    | some p => rw [e2] at e; exact ⟨p, rfl, (Option.some.inj e).symm⟩
  · rw [List.mem_singleton.mp hb]; exact non _ (Nat.le_succ _)
  · intro z
    exact Nat.ne_of_lt (Nat.lt_succ_self _) (List.mem_singleton.mp z)
  · obtain ⟨⟨M, es, ep, t, Z, g⟩, _⟩ := t1
    rw [List.size_toArray, ei, List.length_map] at g
    refine ⟨.ref s.heap.objs.size, upd H s.heap.objs.size (SetO X.w s.heap.objs.size M), I.laid (t' := tk) kp (Nat.le_refl _) (setO_new Z.w), rfl, q _ M (I.hok.fresh (Nat.le_refl _)) (fun p hp => List.mem_of_mem_take (g.sub p hp)) (fun p hp => g.all p (by rw [List.take_length]; exact hp)) Z.nd⟩
/-- sorted(set) -/
def rSortS (w : World) : List V → Hp → VK → Prop := fun vs H Q => ∃ (a : Addr) (M : List Ent), vs = [V.ref a] ∧ H a = some (SetO w a M) ∧ (∀ p ∈ M, Nk H (.ref p.1) p.2 ∧ p.2.depth ≤ 8) ∧ Sbl (M.map (·.2)) ∧
  ∀ (M' : List Ent) (p : Addr), M'.Perm M → H p = none → Q (.ref p) (upd H p (.lst ((srt (M'.map fun q => V.ref q.1) (M'.map (·.2))).map Prod.fst)))
theorem perm_lift {α β : Type} {f : α → β} {l m : List β} (p : l.Perm m) : ∀ M : List α, m = M.map f → ∃ M' : List α, M'.Perm M ∧ l = M'.map f := by
  induction p with
  | nil =>
    intro M e
    cases M with
    | nil => exact ⟨[], .nil, rfl⟩
    | cons a M => cases e
  | cons x p ih =>
    intro M e
    cases M with
    | nil => cases e
    | cons a M =>
      rw [List.map_cons] at e
      injection e with e1 e2
      obtain ⟨M', pm, rfl⟩ := ih M e2
      exact ⟨a :: M', pm.cons a, by rw [List.map_cons, e1]⟩
  | swap x y l =>
    intro M e
    match M, e with
    | a :: b :: M, e =>
      rw [List.map_cons, List.map_cons] at e
      injection e with e1 e2
      injection e2 with e2 e3
      exact ⟨b :: a :: M, .swap _ _ _, by rw [List.map_cons, List.map_cons, e1, e2, e3]⟩
  | trans p q ih1 ih2 =>
    intro M e
    obtain ⟨M1, p1, e1⟩ := ih2 M e
    obtain ⟨M2, p2, e2⟩ := ih1 M1 e1
    exact ⟨M2, p2.trans p1, e2⟩
theorem nk_ents {H : Hp} : ∀ {M : List Ent}, (∀ p ∈ M, Nk H (.ref p.1) p.2) → NkAll H (M.map fun p => V.ref p.1) (M.map (·.2))
  | [], _ => .nil
  | p :: M, h => .cons (h p (.head _)) (nk_ents fun q hq => h q (.tail _ hq))
theorem cr_sortS (hc : X.calm = true) (hu : X.A.units + 64 < cLine) : CallR X (.builtin "sorted") (rSortS X.w) := by
  intro pins s σ H vs us Q I r h
  obtain ⟨a, M, rfl, ha, hk, sb, q⟩ := h
  rw [Vals.ref1 r]
  obtain ⟨es, ep, t, Z⟩ := SetW.full (I.hok a _ ha).1 fun p hp => (hk p hp).1.keyAt I (hk p hp).2
  obtain ⟨o, g1, g2, g3⟩ := Z.ob
  have sz := Z.size
  have l3 := Z.room
  have lM : M.length ≤ 76 := by rcases Z.tab.mok with e | e | e <;> rw [e] at l3 <;> omega
  refine Calls.call_function_entry kind_sorted plain_sorted entry_sorted (args_sorted1 _) ?_
  unfold Builtin.«sorted»
  refine wpAny_bind (m := checkCount "sorted" 1 1 _) (wpAny_pure (wpAny_bind (collect_set (A := X.A.in1) (I.ok.hd hc) ⟨o, g1, g2.1, g3⟩ Z.fits (by unfold scanBound; omega) Z.tab.ris Z.led fun s1 vs k1 hz e1 e2 pm => ?_)))
  rw [Z.rows, List.map_map] at pm
  obtain ⟨M', pM, rfl⟩ := perm_lift pm M rfl
  have I1 : Inv X pins σ H s1 := I.call' (ch := []) e2 (Un.kept k1) (I.hok.kept k1) (by rw [e1]; exact I.bare) (fun _ z => nomatch z)
  have fresh := I1.hok.fresh (Nat.le_refl _)
  have lv : (M'.map fun q => Value.ref q.1).length ≤ sizeLine := by rw [List.length_map, pM.length_eq, sizeLine_eq]; omega
  have sb' : Sbl (M'.map (·.2)) := ⟨sb.heads.imp (fun h k hk => h k ((pM.map (·.2)).mem_iff.mp hk)) (fun h k hk => h k ((pM.map (·.2)).mem_iff.mp hk)), fun k hk k' hk' => sb.cmp k ((pM.map (·.2)).mem_iff.mp hk) k' ((pM.map (·.2)).mem_iff.mp hk'), fun k hk => sb.deep k ((pM.map (·.2)).mem_iff.mp hk)⟩
  refine wpAny_bind (wpAny_newList ?_ lv)
  refine wpAny_bind (wpAny_holding (sort_tail (Q := fun v s' => wpAny (model X.prog X.w) X.A.in1 (ret v) _ _ s') I1 (by omega) (ref_vals M') (nk_ents fun p hp => (hk p (pM.mem_iff.mp hp)).1) sb' lv _ rfl fun s' J => wpAny_pure ⟨_, rfl, .ref _, _, J, rfl, q M' _ pM fresh⟩))
end
end My

set_option Elab.async false
set_option linter.all false
set_option maxRecDepth 100000
set_option maxHeartbeats 2000000
/-! {x for .. in ..}, x a tuple of numbers, texts and such tuples. -/
namespace My
open PySem PySem.Spec PyProof.Rows L2 PySem.SeqAt PySem.W
section
variable {X : Cx}
/-- D.add(x) -/
theorem add_in {pins : List (Addr × Obj)} {σ : L2.St} {H : Hp} {s : Shared} {E : Value → Shared → Prop} {D a : Addr} {M : List Ent} {k : NestedKey} {Q : Value → Shared → Prop} (hu : X.A.units + 64 < cLine) (I : L2.Inv X pins σ H s) (hD : H D = some (SetO X.w D M))
    (hM : ∀ p ∈ M, Nk H (.ref p.1) p.2 ∧ p.2.depth ≤ 8) (hk : Nk H (.ref a) k) (dk : k.depth ≤ 8) (few : M.length < 76)
    (q : ∀ M' s', (k ∈ M.map (·.2) → M' = M) → (k ∉ M.map (·.2) → M'.Perm ((a, k) :: M)) → L2.Inv X pins σ (upd H D (SetO X.w D M')) s' → Q .none s') : wpAny (model X.prog X.w) X.A (call (.builtin "set.add") [.ref D, .ref a]) Q E s := by
  have Z0 : SetW X.w s.heap D M := (I.hok D _ hD).1
  obtain ⟨es, ep, t, Z⟩ := Z0.full fun p hp => Nk.keyAt I (hM p hp).1 (hM p hp).2
  obtain ⟨o, g1, g2, g3⟩ := Z.ob
  have kx : KeyAt s.heap k a := hk.keyAt I dk
  refine wpAny_call_entry PySem.F.slot_set_add ⟨o, g1, g2.1⟩ PySem.F.entry_set_add ?_ (PySem.F.args_set_add_2 _ _)
  unfold Builtin.«set.add» Builtin.Frozenset.oneOther Builtin.Frozenset.addrOf setAdd
  simp only [List.isEmpty_nil, bind_assoc]
  refine wpAny_bind (wpAny_pure ?_)
  try dsimp only
  refine wpAny_bind (wpAny_pure (wpAny_bind (wpAny_holding (wpAny_bind ((nestedKind X.prog X.w).pyHash (by show X.A.units + 1 + 8 < cLine; omega) kx ?_)))))
  refine addN (s := { s with toks := s.toks + k.draws }) Z kx (by show X.A.units + 1 + 8 < cLine; omega) few fun b h' M' es' ep' t' sb Z' c1 c2 => ?_
  obtain ⟨o', g', _⟩ := Z'.ob
  exact wpAny_pure ⟨_, rfl, q M' _ c1 c2 (I.write (e := D) (t' := s.toks + k.draws) (by rw [hD]; trivial) (.inl rfl) (fun b u hb hu => (sb.2 b hb).trans hu) ⟨o', g'⟩ (setO_new Z'.w))⟩
def ScStep (w : World) (J : It) (g : TG) (tt : TT) (te : TE) (vs : List Nat) (σ : L2.St) (D : Addr) (Qd : Hp → Prop) (W : Nat → Nat → Hp → Prop) (i m : Nat) (H : Hp) : Prop :=
  (J.stop i H ∧ Qd H) ∨ (J.go i H ∧ ∃ Nx : Hp → Prop, (∀ H', Nx H' → ∃ m', m' < m ∧ W (i + 1) m' H') ∧ ∀ x H', J.yld i H x H' →
    g x (wipe σ vs) H' fun σ2 H2 => wipe σ2 vs = wipe σ vs ∧ tt σ2 H2 fun b H3 => if b = true then te σ2 H3 fun y H4 =>
      ∃ a k M, y = .ref a ∧ H4 D = some (SetO w D M) ∧ (∀ p ∈ M, Nk H4 (.ref p.1) p.2 ∧ p.2.depth ≤ 8) ∧ Nk H4 (.ref a) k ∧ k.depth ≤ 8 ∧ M.length < 76 ∧ (∀ M', (k ∈ M.map (·.2) → M' = M) → (k ∉ M.map (·.2) → M'.Perm ((a, k) :: M)) → Nx (upd H4 D (SetO w D M'))) else Nx H3)
def tScN (w : World) (wi : TI) (g : TG) (tt : TT) (te : TE) (vs : List Nat) : TE := fun σ H Q => wi σ H fun J H1 => ∀ D, H1 D = none →
  ∃ W : Nat → Nat → Hp → Prop, (∃ m, W 0 m (upd H1 D (SetO w D []))) ∧ ∀ i m H', W i m H' → ScStep w J g tt te vs σ D (fun H2 => Q (.ref D) H2) W i m H'
theorem scN_core {pins : List (Addr × Obj)} {s : Shared} {σ : L2.St} {H : Hp} {Q : VK} {ex tg iter : Expr} {ifs : List Expr} {scope : Scope} {own : List (Str × Nat)} {pos pos' : Pos} {wi : TI} {g : TG} {tt : TT} {te : TE} {use : Option (Value → Sem Unit)} {Qf : Value → Shared → Prop}
    (hu : X.A.units + 64 < cLine) (calm : X.calm = true) (nd : X.N.Nodup) (I : L2.Inv X pins σ H s) (hi : PI X tg iter wi) (ok : BlkOk X.N X.env.scope scope own)
    (hg : ∀ s H C cl fp, PG (Blk X scope s H C cl fp) tg g) (ht : ∀ s H C cl fp, PTs (Blk X scope s H C cl fp) ifs tt) (he : ∀ s H C cl fp, PE (Blk X scope s H C cl fp) ex te)
    (fold : ∀ x, foldedSetIterable iter X.env x = pure x) (h : tScN X.w wi g tt te (own.map (·.2)) σ H Q)
    (back : ∀ D C s' m H', L2.Inv X pins σ H' s' → Q (.ref D) H' → s'.heap.Ns C m → FpOk X pins H' C → compPost (model X.prog X.w) X.A X.xe use Qf (.ref D) C (.ok .next) s') :
    wpAny (model X.prog X.w) X.A (comprehension (.SetComp ex [⟨tg, iter, ifs, 0⟩] scope pos) scope X.env pos' (newSet (.type "set")) false (eval iter X.env) use) Qf X.xe s := by
  have free : ∀ y ∈ scope.names, y.2 = .free → ∃ c, X.env.cells.lookup y.1 = some c := by
    intro y hy e
    exact (ok.free y hy e).elim (fun k => I.ok.has _ (.inl k)) fun k => I.ok.has _ (.inr k)
  refine wpAny_comprehension_free (use := use) rfl fold (closure_ok free) ok.kind (fun y hy e => by rw [ok.uniq y hy, e]) (thn (hi.run pins s σ H _ I h) fun xv s1 hx => thn hx ?_)
  rintro itv s2 ⟨it, fp, tn, J, H2, rfl, I2, T, st2, f2, q⟩
  refine PpSet.newSet_ok (newEnv_comp ?_)
  obtain ⟨D, hD⟩ : ∃ D, D = s2.heap.objs.size := ⟨_, rfl⟩
  rw [← hD]
  have fresh : H2 D = none := I2.hok.fresh (Nat.le_of_eq hD.symm)
  obtain ⟨W, ⟨m0, w0⟩, turn⟩ := q D fresh
  obtain ⟨s3, hs3⟩ : ∃ s3 : Shared, s3 = { s2 with heap := s2.heap.push (freshSet X.w) } := ⟨_, rfl⟩
  have I3 : L2.Inv X pins σ (upd H2 D (SetO X.w D [])) s3 := by
    rw [hs3]
    refine I2.laid (t' := s2.toks) (fun b o e => Heap.get?_push_of_some _ e) (Nat.le_of_eq hD.symm) ?_
    rw [hD]
    exact setO_new (fresh_set (Heap.get?_push_size _ rfl)).w
  have h3 : s3.heap = s2.heap.push (freshSet X.w) := by rw [hs3]
  have old : ∀ b ∈ fp, b < s2.heap.objs.size := fun b hb => let ⟨o, e, _⟩ := T.obj _ _ st2 b hb; Heap.lt_size e
  have f3 : ∀ b ∈ fp, FpOk X pins (upd H2 D (SetO X.w D [])) b ∧ b < s3.heap.objs.size := by
    intro b hb
    have lt := old b hb
    refine ⟨⟨?_, (f2 b hb).2⟩, by rw [h3, Heap.size_push]; exact Nat.lt_succ_of_lt lt⟩
    rw [upd_ne (by rw [hD]; exact Nat.ne_of_lt lt)]
    exact (f2 b hb).1
  have st3 : tn 0 s3.heap := T.keep _ _ _ st2 fun b _ o e => by rw [h3]; exact Heap.get?_push_of_some _ e
  have I4 := block_start I3 ok nd f3
  obtain ⟨cl, hcl⟩ : ∃ cl, cl = cellsFrom (s3.heap.objs.size + 1) scope.names (cloFrom X.env.cells scope.names []) := ⟨_, rfl⟩
  obtain ⟨C, hC⟩ : ∃ C, C = s3.heap.objs.size := ⟨_, rfl⟩
  obtain ⟨H3, hH3⟩ : ∃ H3, H3 = upd H2 D (SetO X.w D []) := ⟨_, rfl⟩
  rw [← hcl, ← hC, ← hH3] at I4
  rw [← hH3] at I3 f3 w0
  obtain ⟨s4, hs4⟩ : ∃ s4 : Shared, s4 = { s3 with heap := pushCells (s3.heap.push { cls := .type "dict", data := .dict #[] }) scope.names } := ⟨_, rfl⟩
  rw [← hs4] at I4
  rw [show ({ s2 with heap := s2.heap.push { cls := .type "set", dict := none, data := .set #[] 0 (.fresh 0 0 (!X.w.params.followText "set-order")) } } : Shared) = s3 from hs3.symm]
  show codeAny _ _ (.compStart (.SetComp ex [⟨tg, iter, ifs, 0⟩] scope pos) 0 (.ref it) (.ref D) (compEnvC scope (cellsFrom (s3.heap.objs.size + 1) scope.names (cloFrom X.env.cells scope.names [])) s3.heap.objs.size X.env)) (compPost (model X.prog X.w) X.A X.xe use Qf (.ref D) s3.heap.objs.size) { s3 with heap := pushCells (s3.heap.push { cls := .type "dict", data := .dict #[] }) scope.names }
  rw [← hcl, ← hC, ← hs4]
  have pg := hg s3 H3 C cl fp
  have pt := ht s3 H3 C cl fp
  have pe := he s3 H3 C cl fp
  have cL : (compEnvC scope cl C X.env).locals = C := rfl
  have nfp : ∀ b ∈ fp, H3 b = none := fun b hb => (f3 b hb).1.1
  have st4 : tn 0 s4.heap := T.keep _ _ _ st3 fun b _ o e => by rw [hs4]; exact pushCells_keeps _ _ _ _ (Heap.get?_push_of_some _ e)
  have stat : ∀ {σ' : L2.St} {H' : Hp} {s' : Shared}, L2.Inv (Blk X scope s3 H3 C cl fp) [] σ' H' s' → (∀ b ∈ fp, H' b = none) → ∀ b ∈ fp, FpOk (Blk X scope s3 H3 C cl fp) [] H' b := by
    intro σ' H' s' I' hn b hb
    exact ⟨hn b hb, (I'.ok.exf b hb).1, I'.ok.exfs b hb, .inl hb, fun x c e => (I'.ok.exf b hb).2 x c e, fun p hp => absurd (show p ∈ ([] : List (Addr × Obj)) ++ [] from hp) (by simp)⟩
  have loop : codeAny (model X.prog X.w) X.A (.compLoop (.SetComp ex [⟨tg, iter, ifs, 0⟩] scope pos) 0 (.ref it) (.ref D) (compEnvC scope cl C X.env)) (compPost (model X.prog X.w) X.A X.xe use Qf (.ref D) C) s4 := by
    refine PpSet.compLoopS_any (fun n s' => ∃ i H', L2.Inv (Blk X scope s3 H3 C cl fp) [] (wipe σ (own.map (·.2))) H' s' ∧ tn i s'.heap ∧ (∀ b ∈ fp, H' b = none) ∧ W i n H') ?_ m0 ⟨0, H3, I4, st4, nfp, w0⟩
    rintro n s5 ⟨i, H5, I5, st5, n5, w5⟩
    rcases turn i n H5 w5 with ⟨stop, qq⟩ | ⟨go, Nx, hNx, step⟩
    · refine thnF (T.done (Blk X scope s3 H3 C cl fp) rfl rfl rfl calm i [] s5 _ H5 (fun _ _ => False) I5 (stat I5 n5) st5 stop) ?_
      rintro r s6 ⟨rfl, I6⟩
      have I7 : L2.Inv X pins σ H5 s6 := I3.call' (ch := fp) I6.os I6.base I6.hok I6.bare fun b hb => ⟨(f3 b hb).1.2.2.2.1, (f3 b hb).1.2.1, (f3 b hb).1.2.2.2.2.1, (f3 b hb).1.2.2.2.2.2⟩
      have nC : H5 C = none := I6.free
      obtain ⟨m, hn, _⟩ := I6.loc
      exact back D C s6 m H5 I7 qq hn (I3.fpOk (Nat.le_of_eq hC.symm) nC)
    · refine thnF (T.item (Blk X scope s3 H3 C cl fp) rfl rfl rfl calm i [] s5 _ H5 (fun _ _ => False) I5 (stat I5 n5) st5 go) ?_
      rintro r s6 ⟨u, rfl, h6⟩
      refine thnF h6 ?_
      rintro _ s7 ⟨x, H7, I7, r7, y7, st7, n7⟩
      refine thnF (pg.run _ s7 _ H7 x u _ (I7.pinned (stat I7 n7) (T.obj _ _ st7)) r7 (step x H7 y7)) ?_
      rintro _ s8 ⟨σ8, H8, I8, hw8, q8⟩
      refine thnF (pt.run _ s8 σ8 H8 _ I8 q8) ?_
      rintro b s9 ⟨H9, I9, q9⟩
      have fin : ∀ {s' : Shared} {H' : Hp}, L2.Inv (Blk X scope s3 H3 C cl fp) ([] ++ pinsAt fp s7.heap) σ8 H' s' → Nx H' → ∃ m, m < n ∧ ∃ i H', L2.Inv (Blk X scope s3 H3 C cl fp) [] (wipe σ (own.map (·.2))) H' s' ∧ tn i s'.heap ∧ (∀ b ∈ fp, H' b = none) ∧ W i m H' := by
        intro s' H' I' nx
        obtain ⟨m', lt, w'⟩ := hNx H' nx
        have pin : ∀ b ∈ fp, ∀ o, s7.heap.get? b = some o → s'.heap.get? b = some o ∧ H' b = none := by
          intro b hb o e
          have z := I'.pin (b, o) (List.mem_append_right _ (List.mem_append_right _ (mem_pinsAt hb e)))
          exact ⟨z.1, z.2.1⟩
        refine ⟨m', lt, i + 1, H', (I'.unpinned (pins := [])).weak (by rw [← hw8, wipe_length]) (fun j v e => ?_), T.keep _ _ _ st7 fun b hb o e => (pin b hb o e).1, fun b hb => ?_, w'⟩
        · rw [← hw8] at e
          exact (wipe_some e).1
        · obtain ⟨o, e, _⟩ := T.obj _ _ st7 b hb
          exact (pin b hb o e).2
      cases b with
      | false =>
        simp only [Bool.false_eq_true, if_false] at q9 ⊢
        exact fin I9 q9
      | true =>
        simp only [if_true] at q9 ⊢
        refine thnF (pe.run _ s9 σ8 H9 _ I9 q9) ?_
        rintro z s10 ⟨y, H10, I10, r10, a, k, M, rfl, hD10, hM, nk, dk, few, nx⟩
        cases r10
        exact add_in (X := Blk X scope s3 H3 C cl fp) hu I10 hD10 hM nk dk few fun M' s11 c1 c2 I11 => fin I11 (nx M' c1 c2)
  exact PpSet.codeAny_compStart_set loop (T.self X.A 0 _ _ _ st4 loop)
end
section
variable {X : Cx} {ex tg iter : Expr} {ifs : List Expr} {scope : Scope} {own : List (Str × Nat)} {pos : Pos} {wi : TI} {g : TG} {tt : TT} {te : TE}
/-- as a value -/
theorem pe_scN (hu : X.A.units + 64 < cLine) (calm : X.calm = true) (nd : X.N.Nodup) (hi : PI X tg iter wi) (ok : BlkOk X.N X.env.scope scope own)
    (hg : ∀ s H C cl fp, PG (Blk X scope s H C cl fp) tg g) (ht : ∀ s H C cl fp, PTs (Blk X scope s H C cl fp) ifs tt) (he : ∀ s H C cl fp, PE (Blk X scope s H C cl fp) ex te)
    (fold : ∀ x, foldedSetIterable iter X.env x = pure x := by intro _; rfl) : PE X (.SetComp ex [⟨tg, iter, ifs, 0⟩] scope pos) (tScN X.w wi g tt te (own.map (·.2))) := by
  constructor
  intro pins s σ H Q I h
  rw [PpSet.eval_SetComp]
  refine scN_core hu calm nd I hi ok hg ht he fold h ?_
  rintro D C s' m H' I' q hn ⟨f0, f1, f2, f3, f4, f5⟩
  exact ⟨m, hn, fun h2 sb => ⟨.ref D, H', I'.turned (t' := s'.toks) (fun b o hb e => (sb.2 b hb).trans e) f0 f1 f3 f4 f5, rfl, q⟩⟩
end
/-- a walk's turns -/
theorem scN_it {w : World} {J : It} {n : Nat} {G : Hp → Prop} {Y : Nat → Hp → V → Hp → Prop} (wk : Walk J n G Y) {g : TG} {tt : TT} {te : TE} {vs : List Nat} {σ : L2.St} {H1 : Hp} {D : Addr} {Qd : Hp → Prop} (Pv : Nat → Hp → Prop) (h0 : Pv 0 (upd H1 D (SetO w D []))) (hG : ∀ i H, i ≤ n → Pv i H → G H)
    (hs : ∀ i x H H', i < n → Pv i H → Y i H x H' → g x (wipe σ vs) H' fun σ2 H2 => wipe σ2 vs = wipe σ vs ∧ tt σ2 H2 fun b H3 => if b = true then te σ2 H3 fun y H4 =>
      ∃ a k M, y = .ref a ∧ H4 D = some (SetO w D M) ∧ (∀ p ∈ M, Nk H4 (.ref p.1) p.2 ∧ p.2.depth ≤ 8) ∧ Nk H4 (.ref a) k ∧ k.depth ≤ 8 ∧ M.length < 76 ∧ (∀ M', (k ∈ M.map (·.2) → M' = M) → (k ∉ M.map (·.2) → M'.Perm ((a, k) :: M)) → Pv (i + 1) (upd H4 D (SetO w D M'))) else Pv (i + 1) H3)
    (hd : ∀ H, Pv n H → Qd H) : ∃ W : Nat → Nat → Hp → Prop, (∃ m, W 0 m (upd H1 D (SetO w D []))) ∧ ∀ i m H', W i m H' → ScStep w J g tt te vs σ D Qd W i m H' := by
  refine ⟨fun i m H => m = n - i ∧ i ≤ n ∧ Pv i H, ⟨n, by simp, Nat.zero_le _, h0⟩, ?_⟩
  rintro i m H ⟨rfl, hi, p⟩
  have q := hG i H hi p
  by_cases lt : i < n
  · exact .inr ⟨wk.goes i H lt q, Pv (i + 1), fun H' p' => ⟨n - (i + 1), by omega, rfl, lt, p'⟩, fun x H' y => hs i x H H' lt p (wk.yields i H x H' lt q y)⟩
  · obtain rfl : i = n := by omega
    exact .inl ⟨wk.stops H q, hd H p⟩
end My

set_option Elab.async false
set_option linter.all false
set_option maxRecDepth 100000
set_option maxHeartbeats 2000000
/-! sorted(xs, key=f), xs a list of tuples. -/
namespace My
open PySem PySem.Spec PyProof.Rows L2 PySem.SeqAt
theorem un64 {k : Nat} {A : Around} (r : Room k A) : A.units + 64 < cLine := by have := r.un; omega
section
variable {X : Cx} {f : Addr} {fd : FuncData} {ps : List Str} {j : Nat} {F : NestedKey → NestedKey} {C : NestedKey → Prop}
def rSortKL (K : PySem.W.Frag) (f : Addr) (F : NestedKey → NestedKey) (C : NestedKey → Prop) : List V → List V → Hp → VK → Prop := fun vs zs H Q => ∃ (l : Addr) (xs : List V) (ks : List NestedKey), vs = [.ref l] ∧ zs = [.ref f] ∧ SqL K H l xs ∧ NkAll H xs ks ∧ (∀ k ∈ ks, C k) ∧
  (∀ k ∈ ks, ∃ i r, F k = .tup (.num i :: r)) ∧ (∀ k ∈ ks, ∀ k' ∈ ks, ∃ c, ltK (F k) (F k') = some c) ∧ (∀ k ∈ ks, (F k).depth ≤ 50) ∧ xs.length ≤ 1000 ∧ ∀ H' p, Same H H' → H' p = none → H p = none → Q (.ref p) (upd H' p (.lst (((xs.zip ks).mergeSort (leF F)).map Prod.fst)))
theorem cr_sortKL (G : FnOk X.prog X.w X.K X.mg X.base CX0 j f fd ps (spKey F C)) (hr : Room (j + 1) X.A) (hb : Binds X.K fd ps []) : CallRK X (.builtin "sorted") [Str.ofString "key"] (rSortKL X.K f F C) := by
  intro pins s σ H vs zs us ws Q I r1 r2 h
  obtain ⟨l, xs, ks, rfl, rfl, hl, nk, hC, hh, hc, hd, lx, q⟩ := h
  obtain ⟨u, rfl, ru⟩ := vals1 r1
  obtain ⟨u2, rfl, ru2⟩ := vals1 r2
  cases ru
  cases ru2
  obtain ⟨its, rv, pl, hz⟩ := I.list hl
  have lv : its.length ≤ sizeLine := by rw [← rv.length, sizeLine_eq]; omega
  show wpAny _ _ (call (.builtin "sorted") [.ref l] [(Str.ofString "key", .ref f)]) _ _ _
  refine call_function_entry_kw kind_sorted plain_sorted entry_sorted (ksk_s1 _ _) ?_
  unfold Builtin.«sorted»
  refine wpAny_bind (m := checkCount "sorted" 1 1 _) (wpAny_pure ?_)
  refine wpAny_bind (collect_list pl.isList ?_ lv)
  have k1 : ∀ b o, s.heap.get? b = some o → ((s.heap.push (seqObj "list" #[] 0)).update s.heap.objs.size (Obj.mapSeq (· ++ its.toArray))).get? b = some o := fun b o e => by
    have lt := Heap.lt_size e
    rw [Heap.get?_update_ne _ _ _ _ (Nat.ne_of_lt lt)]
    exact Heap.get?_push_of_some _ e
  have I1 : Inv X pins σ H { s with heap := (s.heap.push (seqObj "list" #[] 0)).update s.heap.objs.size (Obj.mapSeq (· ++ its.toArray)), toks := s.toks } := I.kept k1
  generalize (s.heap.push (seqObj "list" #[] 0)).update s.heap.objs.size (Obj.mapSeq (· ++ its.toArray)) = h' at I1 ⊢
  refine wpAny_bind (wpAny_newList ?_ lv)
  show wpAny _ _ _ _ _ { s with heap := h'.push (seqObj "list" its.toArray 0), toks := s.toks }
  have I2 : L2.Inv X pins σ H { s with heap := h'.push (seqObj "list" its.toArray 0), toks := s.toks } := I1.kept (t' := s.toks) fun b u e => Heap.get?_push_of_some _ e
  have hoL : (h'.push (seqObj "list" its.toArray 0)).get? h'.objs.size = some (seqObj "list" its.toArray 0) := Heap.get?_push_size _ rfl
  have fresh : H h'.objs.size = none := I1.hok.fresh (Nat.le_refl _)
  have fp : FpOk X pins H h'.objs.size := I1.fpOk (Nat.le_refl _) fresh
  refine wpAny_bind (wpAny_holding (wpAny_call_entry_kw slot_list_sort ⟨_, hoL, rfl⟩ entry_list_sort ?_ (ksk_l1 _ _)))
  rw [ksk_t1]
  refine sort_key (X := X) (pins := pins) (σ := σ) (H := H) (s := { s with heap := h'.push (seqObj "list" its.toArray 0), toks := s.toks }) G hr hb I2 fp hoL rv nk hC hh hc hd lv fun H' s' sm nh I3 => ?_
  exact ⟨_, rfl, wpAny_pure ⟨_, rfl, .ref h'.objs.size, _, I3, rfl, q H' _ sm nh fresh⟩⟩
end
end My

set_option Elab.async false
set_option linter.all false
set_option maxRecDepth 100000
set_option maxHeartbeats 2000000
/-! Pairs of texts in order. -/
namespace My
open PySem PySem.Spec PyProof.Rows L2 PySem.SeqAt PySem.W
def sayK (p : Str × Str) : NestedKey := .tup [.text p.1, .text p.2]
theorem sayK_inj {p q : Str × Str} (e : sayK p = sayK q) : p = q := by
  unfold sayK at e
  injection e with e
  simp only [List.cons.injEq, NestedKey.text.injEq, and_true] at e
  exact Prod.ext e.1 e.2
theorem say_depth (p : Str × Str) : (sayK p).depth ≤ 8 := by
  unfold sayK
  simp only [NestedKey.depthAll, NestedKey.depth]
  decide
theorem say_lt (p q : Str × Str) : ∃ c, ltK (sayK p) (sayK q) = some c := by
  unfold sayK
  rw [ltK]
  exact lt_step (lt_text _ _) (lt_step (lt_text _ _) lt_nil)
def befK (a b : NestedKey) : Bool := lexT (toks a) (toks b)
theorem bef_lt (p q : Str × Str) : ltK (sayK p) (sayK q) = some (befK (sayK p) (sayK q)) := by
  obtain ⟨c, e⟩ := say_lt p q
  rw [e]
  unfold sayK at e
  rw [ltK] at e
  exact congrArg some (lex_tup e).symm
theorem bef_flip {p q : Str × Str} (ne : p ≠ q) : befK (sayK q) (sayK p) = !befK (sayK p) (sayK q) := by
  have h1 := bef_lt p q
  have h2 := bef_lt q p
  rw [flipK _ _ _ (fun z => ne (sayK_inj z)) h1] at h2
  exact (Option.some.inj h2).symm
/-- strictly rising -/
def Rs (l : List NestedKey) : Prop := l.Pairwise fun a b => befK a b = true
theorem rs_unique : ∀ {l m : List NestedKey}, Rs l → Rs m → (∀ k, k ∈ l ↔ k ∈ m) → l = m
  | [], [], _, _, _ => rfl
  | [], b :: _, _, _, h => absurd ((h b).mpr (.head _)) (by simp)
  | a :: _, [], _, _, h => absurd ((h a).mp (.head _)) (by simp)
  | a :: l, b :: m, hl, hm, h => by
    obtain ⟨l1, l2⟩ := List.pairwise_cons.mp hl
    obtain ⟨m1, m2⟩ := List.pairwise_cons.mp hm
    have irr : ∀ k, befK k k = false := fun k => lex_irrefl _
    have ea : a = b := by
      rcases List.mem_cons.mp ((h a).mp (.head _)) with e | e
      · exact e
      · rcases List.mem_cons.mp ((h b).mpr (.head _)) with e2 | e2
        · exact e2.symm
        · have : befK a a = true := lex_trans _ _ _ (l1 b e2) (m1 a e)
          rw [irr] at this
          cases this
    subst ea
    have n1 : a ∉ l := fun z => by have := l1 a z; rw [irr] at this; cases this
    have n2 : a ∉ m := fun z => by have := m1 a z; rw [irr] at this; cases this
    rw [rs_unique l2 m2 fun k => ⟨fun hk => ((List.mem_cons.mp ((h k).mp (.tail _ hk))).resolve_left fun e => n1 (e ▸ hk)), fun hk => ((List.mem_cons.mp ((h k).mpr (.tail _ hk))).resolve_left fun e => n2 (e ▸ hk))⟩]
theorem say_sbl {ks : List NestedKey} (h : ∀ k ∈ ks, ∃ p, k = sayK p) : Sbl ks where
  heads := .inl fun k hk => by obtain ⟨p, rfl⟩ := h k hk; exact ⟨_, _, rfl⟩
  cmp := fun k hk k' hk' => by
    obtain ⟨p, rfl⟩ := h k hk
    obtain ⟨q, rfl⟩ := h k' hk'
    exact say_lt p q
  deep := fun k hk => by
    obtain ⟨p, rfl⟩ := h k hk
    exact Nat.le_trans (say_depth p) (by decide)
theorem zip_ents (M : List Ent) : (M.map fun q => V.ref q.1).zip (M.map (·.2)) = M.map fun p => (V.ref p.1, p.2) := by
  induction M with
  | nil => rfl
  | cons a l ih => rw [List.map_cons, List.map_cons, List.zip_cons_cons, ih]; rfl
theorem srt_ok {H : Hp} {M : List Ent} (hk : ∀ p ∈ M, Nk H (.ref p.1) p.2) (hs : ∀ p ∈ M, ∃ q, p.2 = sayK q) (nd : (M.map (·.2)).Nodup) :
    ∃ ls, NkAll H ((srt (M.map fun q => V.ref q.1) (M.map (·.2))).map Prod.fst) ls ∧ Rs ls ∧ (∀ k, k ∈ ls ↔ k ∈ M.map (·.2)) ∧ ls.length = M.length := by
  unfold srt
  rw [zip_ents]
  have pm := List.mergeSort_perm (M.map fun p => (V.ref p.1, p.2)) (leF id)
  have pw := sort_pairwise (sortLe_total (listOrd itemOrd) false fun b : V × NestedKey => toks (id b.2)) (M.map fun p => (V.ref p.1, p.2))
  change List.Pairwise (fun a b => leF id a b = true) ((M.map fun p => (V.ref p.1, p.2)).mergeSort (leF id)) at pw
  generalize (M.map fun p => (V.ref p.1, p.2)).mergeSort (leF id) = l at pm pw ⊢
  have mem : ∀ b ∈ l, ∃ p ∈ M, b = (V.ref p.1, p.2) := fun b hb => by
    obtain ⟨p, hp, e⟩ := List.mem_map.mp (pm.mem_iff.mp hb)
    exact ⟨p, hp, e.symm⟩
  have pk : (l.map Prod.snd).Perm (M.map (·.2)) := by
    have := pm.map Prod.snd
    rwa [List.map_map] at this
  refine ⟨l.map Prod.snd, nk_pairs fun b hb => ?_, ?_, fun k => pk.mem_iff, by rw [pk.length_eq, List.length_map]⟩
  · obtain ⟨p, hp, rfl⟩ := mem b hb
    exact hk p hp
  · have nl2 : l.Pairwise fun a b => a.2 ≠ b.2 := List.pairwise_map.mp (pk.nodup_iff.mpr nd)
    refine List.pairwise_map.mpr ((pw.and nl2).imp_of_mem fun {a b} ha hb h => ?_)
    obtain ⟨p, hp1, rfl⟩ := mem a ha
    obtain ⟨q, hq1, rfl⟩ := mem b hb
    obtain ⟨x, ex⟩ := hs p hp1
    obtain ⟨y, ey⟩ := hs q hq1
    have h1 : (!befK q.2 p.2) = true := h.1
    have h2 : p.2 ≠ q.2 := h.2
    show befK p.2 q.2 = true
    rw [ex, ey] at h1 h2 ⊢
    rw [bef_flip (fun z => h2 (by rw [z]))] at h1
    simpa using h1
/-- how a list of such pairs is shown -/
theorem datas_say (ls : List NestedKey) (ps : List (Str × Str)) (h : ls = ps.map sayK) : NestedKey.datas ls = ps.map fun p => PyData.tuple [.str p.1, .str p.2] := by
  subst h
  induction ps with
  | nil => simp [NestedKey.datas]
  | cons a l ih => rw [List.map_cons, List.map_cons, NestedKey.datas, ih]; simp [sayK, NestedKey.data, NestedKey.datas]
end My

set_option Elab.async false
set_option linter.all false
set_option maxRecDepth 100000
set_option maxHeartbeats 2000000
namespace L53
open PySem PySem.Spec PyProof.Rows L2 My
def topS (i : Nat) : Stmt := PySem.Challenge.pw_cardsback_k53_sayings_by_kind.main.body.getD i (.Pass ⟨0, 0, 0, 0⟩)
abbrev s_is_rising : Stmt := topS 1
abbrev N_is_rising : List Str := ["things", "k"]
theorem S_is_rising : FnScope N_is_rising ["things"] (defScope s_is_rising) := ⟨rfl, rfl, rfl, by decide +kernel, rfl, by decide +kernel, by decide +kernel⟩
abbrev s_is_saying : Stmt := topS 3
abbrev N_is_saying : List Str := ["names", "thing"]
theorem S_is_saying : FnScope N_is_saying ["names", "thing"] (defScope s_is_saying) := ⟨rfl, rfl, rfl, by decide +kernel, rfl, by decide +kernel, by decide +kernel⟩
abbrev s_is_sayings : Stmt := topS 4
abbrev N_is_sayings : List Str := ["names", "thing", "part"]
theorem S_is_sayings : FnScope N_is_sayings ["names", "thing"] (defScope s_is_sayings) := ⟨rfl, rfl, rfl, by decide +kernel, rfl, by decide +kernel, by decide +kernel⟩
abbrev s_w_feed : Stmt := topS 6
abbrev N_w_feed : List Str := ["_law_script"]
theorem S_w_feed : FnScope N_w_feed ["_law_script"] (defScope s_w_feed) := ⟨rfl, rfl, rfl, by decide +kernel, rfl, by decide +kernel, by decide +kernel⟩
abbrev s_w_draw : Stmt := topS 7
abbrev N_w_draw : List Str := ["_law_feed_here", "_law_many", "_law_found", "_law_cell", "_law_mixed"]
theorem S_w_draw : FnScope N_w_draw ["_law_feed_here", "_law_many"] (defScope s_w_draw) := ⟨rfl, rfl, rfl, by decide +kernel, rfl, by decide +kernel, by decide +kernel⟩
abbrev s_w_names : Stmt := topS 8
abbrev N_w_names : List Str := ["_law_feed_here", "_law_many", "_law_letters", "_law_k", "_law_figs", "_law_pool", "_law_head", "_law_mark"]
theorem S_w_names : FnScope N_w_names ["_law_feed_here", "_law_many"] (defScope s_w_names) := ⟨rfl, rfl, rfl, by decide +kernel, rfl, by decide +kernel, by decide +kernel⟩
abbrev s_w_along : Stmt := topS 9
abbrev N_w_along : List Str := ["_law_order", "_law_found", "_law_k", "_law_other"]
theorem S_w_along : FnScope N_w_along ["_law_order"] (defScope s_w_along) := ⟨rfl, rfl, rfl, by decide +kernel, rfl, by decide +kernel, by decide +kernel⟩
abbrev s_w_turned : Stmt := topS 10
abbrev N_w_turned : List Str := ["_law_feed_here", "_law_names_here", "_law_held", "_law_name"]
theorem S_w_turned : FnScope N_w_turned ["_law_feed_here", "_law_names_here"] (defScope s_w_turned) := ⟨rfl, rfl, rfl, by decide +kernel, rfl, by decide +kernel, by decide +kernel⟩
abbrev s_w_sayings : Stmt := topS 11
abbrev N_w_sayings : List Str := ["_law_feed_here", "_law_names_here", "_law_most", "_law_way", "_law_along_here", "_law_some", "_law_many", "_law_found", "_law_turn", "_law_pair", "_law_k"]
theorem S_w_sayings : FnScope N_w_sayings ["_law_feed_here", "_law_names_here", "_law_most"] (defScope s_w_sayings) := ⟨rfl, rfl, rfl, by decide +kernel, rfl, by decide +kernel, by decide +kernel⟩
abbrev s_w_spoilt : Stmt := topS 12
abbrev N_w_spoilt : List Str := ["_law_feed_here", "_law_thing", "_law_menu", "_law_way", "_law_at", "_law_other", "_law_some"]
theorem S_w_spoilt : FnScope N_w_spoilt ["_law_feed_here", "_law_thing", "_law_menu"] (defScope s_w_spoilt) := ⟨rfl, rfl, rfl, by decide +kernel, rfl, by decide +kernel, by decide +kernel⟩
abbrev s_w_is_saying : Stmt := topS 13
abbrev N_w_is_saying : List Str := ["_law_names_here", "_law_thing"]
theorem S_w_is_saying : FnScope N_w_is_saying ["_law_names_here", "_law_thing"] (defScope s_w_is_saying) := ⟨rfl, rfl, rfl, by decide +kernel, rfl, by decide +kernel, by decide +kernel⟩
abbrev s_w_is_sayings : Stmt := topS 14
abbrev N_w_is_sayings : List Str := ["_law_names_here", "_law_thing", "_law_one"]
theorem S_w_is_sayings : FnScope N_w_is_sayings ["_law_names_here", "_law_thing"] (defScope s_w_is_sayings) := ⟨rfl, rfl, rfl, by decide +kernel, rfl, by decide +kernel, by decide +kernel⟩
abbrev s_law : Stmt := topS 15
abbrev N_law : List Str := ["_law_script", "_law_feed_here", "_law_names_here", "_law_some", "_law_other", "_law_menu", "_law_things", "_law_along_here", "_law_k", "_law_bent", "_law_thing", "_law_kept", "_law_due", "_law_name", "_law_turn"]
theorem S_law : FnScope N_law ["_law_script"] (defScope s_law) := ⟨rfl, rfl, rfl, by decide +kernel, rfl, by decide +kernel, by decide +kernel⟩
structure Tx (K : PySem.W.Frag) (mg : Str → Option Value) where
  f_is_rising : Addr
  d_is_rising : FuncData
  k_is_rising : Addr
  P_is_rising : Addr
  F_is_rising : GE.FunC K "is_rising" "is_rising" s_is_rising f_is_rising d_is_rising k_is_rising
  g_is_rising : mg "is_rising" = some (.ref f_is_rising)
  b_is_rising : Binds K d_is_rising ["things"] []
  f_is_saying : Addr
  d_is_saying : FuncData
  F_is_saying : Fun K "is_saying" "is_saying" s_is_saying f_is_saying d_is_saying
  g_is_saying : mg "is_saying" = some (.ref f_is_saying)
  b_is_saying : Binds K d_is_saying ["names", "thing"] []
  f_is_sayings : Addr
  d_is_sayings : FuncData
  k_is_sayings : Addr
  P_is_sayings : Addr
  F_is_sayings : GE.FunC K "is_sayings" "is_sayings" s_is_sayings f_is_sayings d_is_sayings k_is_sayings
  g_is_sayings : mg "is_sayings" = some (.ref f_is_sayings)
  b_is_sayings : Binds K d_is_sayings ["names", "thing"] []
  f_w_feed : Addr
  d_w_feed : FuncData
  F_w_feed : Fun K "_law_feed" "_law_feed" s_w_feed f_w_feed d_w_feed
  g_w_feed : mg "_law_feed" = some (.ref f_w_feed)
  b_w_feed : Binds K d_w_feed ["_law_script"] []
  f_w_draw : Addr
  d_w_draw : FuncData
  F_w_draw : Fun K "_law_draw" "_law_draw" s_w_draw f_w_draw d_w_draw
  g_w_draw : mg "_law_draw" = some (.ref f_w_draw)
  b_w_draw : Binds K d_w_draw ["_law_feed_here", "_law_many"] []
  f_w_names : Addr
  d_w_names : FuncData
  F_w_names : Fun K "_law_names" "_law_names" s_w_names f_w_names d_w_names
  g_w_names : mg "_law_names" = some (.ref f_w_names)
  b_w_names : Binds K d_w_names ["_law_feed_here", "_law_many"] []
  f_w_along : Addr
  d_w_along : FuncData
  F_w_along : Fun K "_law_along" "_law_along" s_w_along f_w_along d_w_along
  g_w_along : mg "_law_along" = some (.ref f_w_along)
  b_w_along : Binds K d_w_along ["_law_order"] []
  f_w_turned : Addr
  d_w_turned : FuncData
  F_w_turned : Fun K "_law_turned" "_law_turned" s_w_turned f_w_turned d_w_turned
  g_w_turned : mg "_law_turned" = some (.ref f_w_turned)
  b_w_turned : Binds K d_w_turned ["_law_feed_here", "_law_names_here"] []
  f_w_sayings : Addr
  d_w_sayings : FuncData
  F_w_sayings : Fun K "_law_sayings" "_law_sayings" s_w_sayings f_w_sayings d_w_sayings
  g_w_sayings : mg "_law_sayings" = some (.ref f_w_sayings)
  b_w_sayings : Binds K d_w_sayings ["_law_feed_here", "_law_names_here", "_law_most"] []
  f_w_spoilt : Addr
  d_w_spoilt : FuncData
  F_w_spoilt : Fun K "_law_spoilt" "_law_spoilt" s_w_spoilt f_w_spoilt d_w_spoilt
  g_w_spoilt : mg "_law_spoilt" = some (.ref f_w_spoilt)
  b_w_spoilt : Binds K d_w_spoilt ["_law_feed_here", "_law_thing", "_law_menu"] []
  f_w_is_saying : Addr
  d_w_is_saying : FuncData
  F_w_is_saying : Fun K "_law_is_saying" "_law_is_saying" s_w_is_saying f_w_is_saying d_w_is_saying
  g_w_is_saying : mg "_law_is_saying" = some (.ref f_w_is_saying)
  b_w_is_saying : Binds K d_w_is_saying ["_law_names_here", "_law_thing"] []
  f_w_is_sayings : Addr
  d_w_is_sayings : FuncData
  F_w_is_sayings : Fun K "_law_is_sayings" "_law_is_sayings" s_w_is_sayings f_w_is_sayings d_w_is_sayings
  g_w_is_sayings : mg "_law_is_sayings" = some (.ref f_w_is_sayings)
  b_w_is_sayings : Binds K d_w_is_sayings ["_law_names_here", "_law_thing"] []
  f_law : Addr
  d_law : FuncData
  F_law : Fun K "law" "law" s_law f_law d_law
  g_law : mg "law" = some (.ref f_law)
  b_law : Binds K d_law ["_law_script"] []
  m_all : mg "all" = none
  m_int : mg "int" = none
  m_isinstance : mg "isinstance" = none
  m_len : mg "len" = none
  m_list : mg "list" = none
  m_max : mg "max" = none
  m_min : mg "min" = none
  m_range : mg "range" = none
  m_repr : mg "repr" = none
  m_set : mg "set" = none
  m_sorted : mg "sorted" = none
  m_tuple : mg "tuple" = none
structure Tb {K : PySem.W.Frag} {mg : Str → Option Value} (T : Tx K mg) (base : Heap) : Prop where
  b_is_rising : GxR.TabB base mg T.k_is_rising T.P_is_rising
  b_is_sayings : GxR.TabB base mg T.k_is_sayings T.P_is_sayings
/-- the tables of the codes that have some -/
def tbs {K : PySem.W.Frag} {mg : Str → Option Value} (T : Tx K mg) : List Addr := [T.P_is_rising, T.P_is_sayings]
section
variable {P : Program} {w : World} {K : PySem.W.Frag} {mg : Str → Option Value} {base : Heap}
/-- the feed: a list of the cells' list and three numbers -/
def fd4 (c : Addr) (sp re ca : Int) : List V := [.ref c, .int sp, .int re, .int ca]
def FeedC (H : Hp) (t c : Addr) (n : Nat) : Prop := ∃ (ns : List Int) (sp re ca : Int),
  H t = some (.lst (fd4 c sp re ca)) ∧ H c = some (.lst (ns.map V.int)) ∧ ns.length ≤ 63 ∧ 0 ≤ sp ∧ 0 ≤ re ∧ 0 ≤ ca ∧ ca ≤ n ∧ c ≠ t
theorem FeedC.updO {H : Hp} {t c b : Addr} {n : Nat} {o : HO} (h : FeedC H t c n) (h1 : b ≠ t) (h2 : b ≠ c) : FeedC (upd H b o) t c n := by
  obtain ⟨ns, sp, re, ca, e1, e2, r⟩ := h
  exact ⟨ns, sp, re, ca, by rw [upd_ne h1.symm]; exact e1, by rw [upd_ne h2.symm]; exact e2, r⟩
theorem FeedC.ne {H : Hp} {t c p : Addr} {n : Nat} (h : FeedC H t c n) (hp : H p = none) : p ≠ t ∧ p ≠ c := by
  obtain ⟨ns, sp, re, ca, e1, e2, _⟩ := h
  refine ⟨fun z => ?_, fun z => ?_⟩
  · rw [z, e1] at hp
    cases hp
  · rw [z, e2] at hp
    cases hp
theorem FeedC.same {H H' : Hp} {t c : Addr} {n : Nat} (h : FeedC H t c n) (s : Same H H') : FeedC H' t c n := by
  obtain ⟨ns, sp, re, ca, h1, h2, h3⟩ := h
  exact ⟨ns, sp, re, ca, s _ _ h1, s _ _ h2, h3⟩
theorem FeedC.new {H : Hp} {t c p : Addr} {o : HO} {n : Nat} (h : FeedC H t c n) (hp : H p = none) : FeedC (upd H p o) t c n := h.same (same_upd hp)
theorem FeedC.gk {Ts : List Addr} {H H' : Hp} {t c : Addr} {n : Nat} (h : FeedC H t c n) (k : Gk Ts H H') : FeedC H' t c n := by
  obtain ⟨ns, sp, re, ca, h1, h2, h3⟩ := h
  exact ⟨ns, sp, re, ca, k.1 _ _ h1 (fun ps z => by cases z), k.1 _ _ h2 (fun ps z => by cases z), h3⟩
theorem FeedC.mono {H : Hp} {t c : Addr} {n m : Nat} (h : FeedC H t c n) (le : n ≤ m) : FeedC H t c m := by
  obtain ⟨ns, sp, re, ca, h1, h2, h3, h4, h5, h6, h7, h8⟩ := h
  exact ⟨ns, sp, re, ca, h1, h2, h3, h4, h5, h6, by omega, h8⟩
theorem kp_fresh {H H1 : Hp} {t p : Addr} {o : HO} (hp : H p = none) (k : Kp t H H1) : Kp t H (upd H1 p o) := fun b x n h => by
  rw [upd_ne (ne_of_none h hp)]
  exact k b x n h
theorem kp_none {H H1 : Hp} {t p : Addr} (k : Kp t H H1) (hp : H1 p = none) (n : p ≠ t) : H p = none := by
  cases e : H p with
  | none => rfl
  | some o =>
    have := k p o n e
    rw [hp] at this
    cases this
def spFeed (K : PySem.W.Frag) : Sp := fun vs H Q _ => ∃ (a : Addr) (ns : List Int), vs = [.ref a] ∧ SqL K H a (ns.map V.int) ∧
  ∀ t c H', Same H H' → H t = none → FeedC H' t c 0 → Q (.ref t) H'
theorem ok_feed (T : Tx K mg) : FnOk P w K mg base CX0 1 T.f_w_feed T.d_w_feed ["_law_script"] (spFeed K) := by
  refine T.F_w_feed.ok S_w_feed (fun vs H Q E h => ?_) (fun cdv A outer s H vs Q E hr h => ?_)
  · obtain ⟨a, ns, rfl, _⟩ := h
    rfl
  · obtain ⟨a, ns, rfl, hS, q⟩ := h
    refine ⟨_, (pss_one (ps_ret (pe_lst (pa_cons (pe_slice sl_list (pv 0) po_none (po_some pe_int)) (pa_cons pe_int (pa_cons pe_int (pa_cons pe_int pa_nil))))))), ?_⟩
    refine ⟨_, rfl, _, rfl, a, _, rfl, hS, fun c nc => ?_⟩
    have s1 := same_upd (o := .lst (cutV (ns.map V.int) none (some 63))) nc
    refine ⟨sz (by show 4 ≤ 1000; decide), fun t nt => ?_⟩
    have s2 := same_upd (o := .lst (fd4 c 0 0 0)) nt
    have hct : c ≠ t := ne_of_none (upd_same (H := H) (a := c) (o := .lst (cutV (ns.map V.int) none (some 63)))) nt
    refine q t c _ (s1.trans s2) (upd_free nt).2 ⟨ns.take 63, 0, 0, 0, upd_same, ?_, ?_, by decide, by decide, by decide, by decide, hct⟩
    · rw [upd_ne hct, upd_same]
      congr 2
      unfold cutV
      rw [HT.sIx_none, show HT.sIx (ns.map V.int).length (ns.map V.int).length (some 63) = min 63 (ns.map V.int).length from HT.sIx_nat _ _ 63]
      simp only [List.drop_zero, Nat.sub_zero, List.length_map, ← List.map_take]
      congr 1
      rw [← List.take_take]
      simp
    · rw [List.length_take]
      omega
theorem pow5c (y c : Int) (h0 : 0 ≤ c) (h1 : c ≤ 1000001) : CPow (y % 2147483647 + 104729 * c) 5 := by
  have := Int.emod_nonneg y (show (2147483647 : Int) ≠ 0 by decide)
  have := Int.emod_lt_of_pos y (show (0 : Int) < 2147483647 by decide)
  exact ⟨by decide, by decide, by omega⟩
def spDraw : Sp := fun vs H Q _ => ∃ (t : Addr) (m : Int) (n : Nat) (c : Addr), vs = [.ref t, .int m] ∧ 0 < m ∧ m < 1000000 ∧ FeedC H t c n ∧ n < 1000000 ∧
  ∀ v H', 0 ≤ v → v < m → FeedC H' t c (n + 1) → Kp t H H' → Q (.int v) H'
theorem ok_draw (T : Tx K mg) : FnOk P w K mg base CX0 1 T.f_w_draw T.d_w_draw ["_law_feed_here", "_law_many"] (spDraw) := by
  refine T.F_w_draw.ok S_w_draw (fun vs H Q E h => ?_) (fun cdv A outer s H vs Q E hr h => ?_)
  · obtain ⟨t, m, n, c, rfl, _⟩ := h
    rfl
  · obtain ⟨t, m, n, c, rfl, m0, m1, ⟨ns, sp, re, ca, hT, hC, hn, sp0, re0, ca0, ca1, hct⟩, n1, q⟩ := h
    refine ⟨_, (pss_cons (ps_asg (pe_op op_add (pe_ix ix_list (pv 0) pe_int (fun _ _ => rfl)) pe_int) (pg_sub (pv 0) pe_int set_list))
      (pss_cons (ps_if (pt_cmpR op_gt (pe_ix ix_list (pv 0) pe_int (fun _ _ => rfl)) pe_int (nomark _)) (pss_cons (ps_set (i := 2) S_w_draw.nd rfl (.inl rfl) (pe_op op_mod (pe_ix ix_list (pv 0) pe_int (fun _ _ => rfl)) (pv 1)))
      (pss_cons (ps_asg (pe_op op_fdiv (pe_ix ix_list (pv 0) pe_int (fun _ _ => rfl)) (pv 1)) (pg_sub (pv 0) pe_int set_list))
      (pss_one (ps_ret (pv 2))))) pss_nil)
      (pss_cons (ps_set (i := 3) S_w_draw.nd rfl (.inl rfl) pe_int)
      (pss_cons (ps_if (pt_cmpR (op_neE (hu_of hr)) (pe_ix ix_list (pv 0) pe_int (fun _ _ => rfl)) (pe_lst pa_nil) (nomark _)) (pss_one (ps_set (i := 3) S_w_draw.nd rfl (.inl rfl) (pe_ix ix_list (pe_ix ix_list (pv 0) pe_int (fun _ _ => rfl)) (pe_op op_mod (pe_ix ix_list (pv 0) pe_int (fun _ _ => rfl)) (pe_callB call_len_seq (by rfl) T.m_len PySem.boot_len (pa_cons (pe_ix ix_list (pv 0) pe_int (fun _ _ => rfl)) pa_nil))) (fun _ _ => rfl)))) pss_nil)
      (pss_cons (ps_asg (pe_op op_add (pe_ix ix_list (pv 0) pe_int (fun _ _ => rfl)) pe_int) (pg_sub (pv 0) pe_int set_list))
      (pss_cons (ps_if (PW.pt (pw_and (pt_cmpR op_ge (pv 3) (pe_op op_pow pe_int pe_int) (nomark _)) (pw_and1 (pt_cmpR op_le (pe_ix ix_list (pv 0) pe_int (fun _ _ => rfl)) (pe_callB call_len_seq (by rfl) T.m_len PySem.boot_len (pa_cons (pe_ix ix_list (pv 0) pe_int (fun _ _ => rfl)) pa_nil)) (nomark _))))) (pss_cons (ps_asg (pe_op op_fdiv (pv 3) (pv 1)) (pg_sub (pv 0) pe_int set_list))
      (pss_one (ps_ret (pe_op op_mod (pv 3) (pv 1))))) pss_nil)
      (pss_cons (ps_set (i := 4) S_w_draw.nd rfl (.inl rfl) (pe_op op_mod (pe_op op_pow (pe_op op_add (pe_op op_add (pe_op op_mod (pv 3) pe_int) (pe_op op_mul pe_int (pe_ix ix_list (pv 0) pe_int (fun _ _ => rfl)))) pe_int) pe_int) pe_int))
      (pss_one (ps_ret (pe_op op_mod (pe_op op_fdiv (pe_op op_mod (pe_op op_pow (pe_op op_add (pv 4) (pe_op op_mul pe_int (pe_ix ix_list (pv 0) pe_int (fun _ _ => rfl)))) pe_int) pe_int) pe_int) (pv 1))))))))))), ?_⟩
    have a3 : ∀ sp re ca : Int, atI (fd4 c sp re ca) 3 = some (.int ca) := fun _ _ _ => rfl
    have a2 : ∀ sp re ca : Int, atI (fd4 c sp re ca) 2 = some (.int re) := fun _ _ _ => rfl
    have a1 : ∀ sp re ca : Int, atI (fd4 c sp re ca) 1 = some (.int sp) := fun _ _ _ => rfl
    have a0 : ∀ sp re ca : Int, atI (fd4 c sp re ca) 0 = some (.ref c) := fun _ _ _ => rfl
    refine ⟨_, rfl, t, _, 3, _, rfl, rfl, .inl (.inl hT), a3 _ _ _, ca, 1, rfl, rfl, ?_⟩
    refine ⟨.ref t, rfl, t, _, 3, 3, rfl, rfl, hT, rfl, ?_⟩
    have hT1 := upd_same (H := H) (a := t) (o := .lst (fd4 c sp re (ca + 1)))
    have hC1 : upd H t (.lst (fd4 c sp re (ca + 1))) c = some (.lst (ns.map V.int)) := by
      rw [upd_ne hct]
      exact hC
    have hK1 : Kp t H (upd H t (.lst (fd4 c sp re (ca + 1)))) := (Kp.refl t H).own
    show tSeq _ _ _ _ (upd H t (.lst (fd4 c sp re (ca + 1))))
    generalize upd H t (.lst (fd4 c sp re (ca + 1))) = H1 at hT1 hC1 hK1 ⊢
    refine ⟨.ref t, rfl, t, _, 2, _, rfl, rfl, .inl (.inl hT1), a2 _ _ _, re, 0, rfl, rfl, _, rfl, ite2 (fun e => ?_) (fun e => ?_)⟩
    · have e : re > 0 := of_decide_eq_true e
      refine ⟨.ref t, rfl, t, _, 2, _, rfl, rfl, .inl (.inl hT1), a2 _ _ _, _, rfl, re, m, rfl, rfl, m0, ?_⟩
      refine ⟨.ref t, rfl, t, _, 2, _, rfl, rfl, .inl (.inl hT1), a2 _ _ _, _, rfl, re, m, rfl, rfl, ⟨m0, by omega⟩, .ref t, rfl, t, _, 2, 2, rfl, rfl, hT1, rfl, ?_⟩
      refine ⟨_, rfl, ?_⟩
      refine q _ _ (Int.emod_nonneg _ (by omega)) (Int.emod_lt_of_pos _ m0) ⟨ns, sp, re / m, ca + 1, upd_same, ?_, hn, sp0, Int.ediv_nonneg re0 (by omega), by omega, by omega, hct⟩ hK1.own
      rw [upd_ne hct]
      exact hC1
    · have nt' := hct
      refine ⟨_, rfl, t, _, 0, _, rfl, rfl, .inl (.inl hT1), a0 _ _ _, ?_⟩
      refine ⟨sz (by show 0 ≤ 1000; decide), fun z nz => ?_⟩
      have sz1 := same_upd (o := .lst []) nz
      have hT1 := sz1 _ _ hT1
      have hC1 := sz1 _ _ hC1
      have hz1 := upd_same (H := H1) (a := z) (o := .lst [])
      have hK1 : Kp t H (upd H1 z (.lst [])) := hK1.new nz
      generalize upd H1 z (.lst []) = H1 at hT1 hC1 hK1 hz1 ⊢
      refine ⟨c, z, _, rfl, rfl, .inl (.inl hC1), .inl (.inl hz1), _, rfl, ite2 (fun e2 => ?a) (fun e2 => ?b)⟩
      case' a =>
        have e2 : ns ≠ [] := fun z => by rw [z] at e2; exact absurd e2 (by decide)
        have e2 : 0 < ns.length := List.length_pos_iff.mpr e2
        have b0 : 0 ≤ sp % (ns.length : Int) := Int.emod_nonneg _ (by omega)
        have b1 : sp % (ns.length : Int) < ns.length := Int.emod_lt_of_pos _ (by omega)
        have bn : (sp % (ns.length : Int)).toNat < ns.length := by omega
        refine ⟨_, rfl, t, _, 0, _, rfl, rfl, .inl (.inl hT1), a0 _ _ _, _, rfl, t, _, 1, _, rfl, rfl, .inl (.inl hT1), a1 _ _ _, _, rfl, t, _, 0, _, rfl, rfl, .inl (.inl hT1), a0 _ _ _, c, _, rfl, .inl (.inl (.inl hC1)), _, _, rfl, rfl, (by rw [List.length_map]; omega), c, _, _, .int (ns[(sp % (ns.length : Int)).toNat]), rfl, rfl, .inl (.inl hC1), (by
          rw [List.length_map]
          refine at_of (j := (sp % (ns.length : Int)).toNat) (by omega) ?_
          rw [List.getElem?_map, List.getElem?_eq_getElem bn]
          rfl), ?_⟩
        generalize ns[(sp % (ns.length : Int)).toNat] = cell
      all_goals
        refine ⟨_, rfl, t, _, 1, _, rfl, rfl, .inl (.inl hT1), a1 _ _ _, sp, 1, rfl, rfl, .ref t, rfl, t, _, 1, 1, rfl, rfl, hT1, rfl, ?_⟩
        have hT2 := upd_same (H := H1) (a := t) (o := .lst (fd4 c (sp + 1) re (ca + 1)))
        have hC2 : upd H1 t (.lst (fd4 c (sp + 1) re (ca + 1))) c = some (.lst (ns.map V.int)) := by
          rw [upd_ne hct]
          exact hC1
        have hK2 : Kp t H (upd H1 t (.lst (fd4 c (sp + 1) re (ca + 1)))) := hK1.own
        show tSeq _ _ _ _ (upd H1 t (.lst (fd4 c (sp + 1) re (ca + 1))))
        generalize upd H1 t (.lst (fd4 c (sp + 1) re (ca + 1))) = H2 at hT2 hC2 hK2 ⊢
        refine ⟨_, rfl, _, _, rfl, rfl, ⟨by decide, by decide, by decide⟩, _, _, rfl, rfl, _, rfl, ite2 (fun e4 => ?_) (fun e4 => iteF ?_)⟩
      any_goals refine ⟨_, rfl, t, _, 1, _, rfl, rfl, .inl (.inl hT2), a1 _ _ _, _, rfl, t, _, 0, _, rfl, rfl, .inl (.inl hT2), a0 _ _ _, c, _, rfl, .inl (.inl (.inl hC2)), _, _, rfl, rfl, _, rfl, ite2 (fun e5 => ?_) (fun e5 => ?_)⟩
      any_goals
        refine ⟨_, rfl, _, rfl, _, m, rfl, rfl, ⟨m0, by omega⟩, .ref t, rfl, t, _, 2, 2, rfl, rfl, hT2, rfl, ?_⟩
        refine ⟨_, rfl, _, rfl, _, m, rfl, rfl, m0, ?_⟩
        refine q _ _ (Int.emod_nonneg _ (by omega)) (Int.emod_lt_of_pos _ m0) ⟨ns, sp + 1, _, ca + 1, upd_same, (by rw [upd_ne hct]; exact hC2), hn, by omega, Int.ediv_nonneg ?_ (by omega), by omega, by omega, hct⟩ hK2.own
        have e4 := of_decide_eq_true e4
        exact Int.le_trans (by decide) e4
      all_goals
        refine ⟨_, rfl, _, _, rfl, rfl, (by decide : (0 : Int) < 2147483629), _, rfl, t, _, 3, _, rfl, rfl, .inl (.inl hT2), a3 _ _ _, _, _, rfl, rfl, .inl ⟨by decide, by decide⟩, _, _, rfl, rfl, _, _, rfl, rfl, _, _, rfl, rfl, pow5 _ (by omega) (by omega), _, _, rfl, rfl, (by decide : (0 : Int) < 2147483647), ?_⟩
        refine ⟨_, rfl, _, rfl, t, _, 3, _, rfl, rfl, .inl (.inl hT2), a3 _ _ _, _, _, rfl, rfl, .inl ⟨by decide, by decide⟩, _, _, rfl, rfl, _, _, rfl, rfl, pow5c _ _ (by omega) (by omega), _, _, rfl, rfl, (by decide : (0 : Int) < 2147483587), _, _, rfl, rfl, ⟨by decide, by decide⟩, _, rfl, _, m, rfl, rfl, m0, ?_⟩
        exact q _ _ (Int.emod_nonneg _ (by omega)) (Int.emod_lt_of_pos _ m0) ⟨ns, sp + 1, re, ca + 1, hT2, hC2, hn, by omega, re0, by omega, by omega, hct⟩ hK2
end
end L53

set_option Elab.async false
set_option linter.all false
set_option maxRecDepth 100000
set_option maxHeartbeats 2000000
namespace L53
open PySem PySem.Spec PyProof.Rows L2 My
section
variable {P : Program} {w : World} {K : PySem.W.Frag} {mg : Str → Option Value} {base : Heap}
theorem join_sg : ∀ {ks : List Nat}, TL.tl (Str.join "" (ks.map sg)) = ks
  | [] => rfl
  | [k] => rfl
  | k :: l :: r => by
    show TL.tl (sg k ++ "" ++ Str.join "" ((l :: r).map sg)) = _
    rw [TL.tl_append, TL.tl_append, join_sg (ks := l :: r)]
    rfl
theorem erase_map {α β : Type} (f : α → β) : ∀ (l : List α) (k : Nat), (l.map f).eraseIdx k = (l.eraseIdx k).map f
  | [], _ => rfl
  | _ :: _, 0 => rfl
  | a :: l, k + 1 => by
    show f a :: (l.map f).eraseIdx k = f a :: (l.eraseIdx k).map f
    rw [erase_map f l k]
theorem erase_perm {α : Type} : ∀ {l : List α} {k : Nat} (h : k < l.length), (l[k] :: l.eraseIdx k).Perm l
  | _ :: _, 0, _ => List.Perm.refl _
  | a :: l, k + 1, h => (List.Perm.swap _ _ _).trans ((erase_perm (l := l) (k := k) (Nat.lt_of_succ_lt_succ h)).cons a)
/-- a name as the document has it -/
def Nm (z : Str) : Prop := 1 ≤ z.length ∧ z.length ≤ 8 ∧ ∀ c ∈ z.cps.toList, 97 ≤ c ∧ c ≤ 122
theorem Nm.plain {z : Str} (h : Nm z) : Plain z := ⟨by have := h.2.1; omega, fun c hc => by have := h.2.2 c hc; omega⟩
theorem letterX {x : Int} (h0 : 0 ≤ x) (h1 : x < 26) : atI (Str.ofString "abcdefghijklmnopqrstuvwxyz").cps.toList x = some (97 + x.toNat) := by
  obtain ⟨k, hk, rfl⟩ : ∃ k : Nat, k < 26 ∧ x = (k : Int) := ⟨x.toNat, by omega, by omega⟩
  have := (show ∀ k : Fin 26, ((Str.ofString "abcdefghijklmnopqrstuvwxyz").cps.toList[k.val]? == some (97 + k.val)) = true by decide +kernel) ⟨k, hk⟩
  exact atI_nat (by simpa using this)
theorem len_tl (z : Str) : z.length = (TL.tl z).length := (Array.length_toList (xs := z.cps)).symm
/-- the pool of names, k pairs put in -/
structure Pool (ws : List Str) (k : Nat) : Prop where
  len : ws.length = 2 * k
  nm : ∀ z ∈ ws, Nm z
  sh : ∀ z ∈ ws, z.length ≤ k
  nd : ws.Nodup
theorem Pool.next {ws : List Str} {k : Nat} (h : Pool ws k) (k8 : k < 8) {hd : List Nat} (hl : hd.length = k) (hh : ∀ c ∈ hd, 97 ≤ c ∧ c ≤ 122) {a b : Nat} (ha : 97 ≤ a ∧ a ≤ 122) (hb : 97 ≤ b ∧ b ≤ 122) (ab : a ≠ b) {x y : Str} (ex : TL.tl x = hd ++ [a]) (ey : TL.tl y = hd ++ [b]) : Pool (ws ++ [x, y]) (k + 1) := by
  have lx : x.length = k + 1 := by rw [len_tl, ex, List.length_append, hl]; rfl
  have ly : y.length = k + 1 := by rw [len_tl, ey, List.length_append, hl]; rfl
  have nx : Nm x := ⟨by omega, by omega, fun c hc => by
    have hc : c ∈ TL.tl x := hc
    rw [ex] at hc
    rcases List.mem_append.mp hc with h | h
    · exact hh c h
    · rw [List.mem_singleton.mp h]; exact ha⟩
  have ny : Nm y := ⟨by omega, by omega, fun c hc => by
    have hc : c ∈ TL.tl y := hc
    rw [ey] at hc
    rcases List.mem_append.mp hc with h | h
    · exact hh c h
    · rw [List.mem_singleton.mp h]; exact hb⟩
  refine ⟨by rw [List.length_append, h.len]; show _ + 2 = _; omega, fun z hz => ?_, fun z hz => ?_, ?_⟩
  · rcases List.mem_append.mp hz with e | e
    · exact h.nm z e
    · rcases List.mem_cons.mp e with rfl | e
      · exact nx
      · rw [List.mem_singleton.mp e]; exact ny
  · rcases List.mem_append.mp hz with e | e
    · exact Nat.le_succ_of_le (h.sh z e)
    · rcases List.mem_cons.mp e with rfl | e
      · omega
      · rw [List.mem_singleton.mp e]; omega
  · refine List.nodup_append.mpr ⟨h.nd, ?_, fun z hz z' hz' e => ?_⟩
    · refine List.nodup_cons.mpr ⟨fun e => ?_, List.nodup_cons.mpr ⟨(fun e => by cases e), List.nodup_nil⟩⟩
      have e := List.mem_singleton.mp e
      rw [e, ey] at ex
      exact ab (by have := List.append_cancel_left ex; injection this with h; exact h.symm)
    · have := h.sh z hz
      subst e
      rcases List.mem_cons.mp hz' with rfl | e
      · omega
      · rw [List.mem_singleton.mp e] at this; omega
def spFNm : Sp := fun vs H Q _ => ∃ (t c : Addr) (m n : Nat), vs = [.ref t, .int m] ∧ m ≤ 9 ∧ FeedC H t c n ∧ n < 900000 ∧
  ∀ (p : Addr) (zs : List Str) (H' : Hp), H' p = some (.tup (zs.map V.str)) → zs.length = m → (∀ z ∈ zs, Nm z) → zs.Nodup → sortedS zs = true → FeedC H' t c (n + 8 + m) → Kp t H H' → H p = none → Q (.ref p) H'
theorem ok_fnm (T : Tx K mg) : FnOk P w K mg base CX0 2 T.f_w_names T.d_w_names ["_law_feed_here", "_law_many"] (spFNm) := by
  have G_w_draw : FnOk P w K mg base CX0 1 T.f_w_draw T.d_w_draw ["_law_feed_here", "_law_many"] (spDraw) := ok_draw T
  refine T.F_w_names.ok S_w_names (fun vs H Q E h => ?_) (fun cdv A outer s H vs Q E hr h => ?_)
  · obtain ⟨t, c, m, n, rfl, _⟩ := h
    rfl
  · obtain ⟨t, c, m, n, rfl, m9, hT, hn, q⟩ := h
    refine ⟨_, (pss_cons (ps_set (i := 2) S_w_names.nd rfl (.inr rfl) pe_str)
      (pss_cons (ps_setLc (i := 4) (own := [("_law_k", 3)]) (g := gName 3) (tt := tYes) (by rfl) S_w_names.nd rfl rfl (sw_true rfl rfl rfl (by decide +kernel)) (pi_range1 (by rfl) T.m_range (pa_cons pe_int pa_nil)) (blkOk_by (own := [("_law_k", 3)]) (N := N_w_names) (sc := defScope s_w_names) (by decide +kernel)) (fun _ _ _ _ _ => (pg_name (i := 3) S_w_names.nd rfl (.inl rfl))) (fun _ _ _ _ _ => pts_nil) (fun _ _ _ _ _ => (pe_call G_w_draw hr (by rfl) T.g_w_draw T.F_w_draw.kp T.b_w_draw .nil pass0 (pa_cons (pv 0) (pa_cons pe_int pa_nil)))))
      (pss_cons (ps_set (i := 5) S_w_names.nd rfl (.inr rfl) (pe_lst pa_nil))
      (pss_cons (ps_for PassesOwn.never rfl (pi_range1 (by rfl) T.m_range (pa_cons pe_int pa_nil)) (pg_name (i := 3) S_w_names.nd rfl (.inl rfl))
      (pss_cons (ps_set (i := 6) S_w_names.nd rfl (.inl rfl) (pe_join pe_str (pe_lc (own := [("_law_mark", 7)]) (g := gName 7) (tt := tYes) (by rfl) S_w_names.nd (pi_list (pe_slice sl_list (pv 4) po_none (po_some (pv 3)))) (blkOk_by (own := [("_law_mark", 7)]) (N := N_w_names) (sc := defScope s_w_names) (by decide +kernel)) (fun _ _ _ _ _ => (pg_name (i := 7) S_w_names.nd rfl (.inl rfl))) (fun _ _ _ _ _ => pts_nil) (fun _ _ _ _ _ => (pe_ix ix_str (pv 2) (pv 7) (fun _ _ => rfl))))))
      (pss_one (ps_set (i := 5) S_w_names.nd rfl (.inr rfl) (pe_op op_cat (pv 5) (pe_lst (pa_cons (pe_op op_add_str (pv 6) (pe_ix ix_str (pv 2) (pe_ix ix_list (pv 4) (pv 3) (fun _ _ => rfl)) (fun _ _ => rfl))) (pa_cons (pe_op op_add_str (pv 6) (pe_ix ix_str (pv 2) (pe_op op_mod (pe_op op_add (pe_ix ix_list (pv 4) (pv 3) (fun _ _ => rfl)) pe_int) pe_int) (fun _ _ => rfl))) pa_nil))))))))
      (pss_one (ps_ret (pe_callTy call_tuple_of (by rfl) T.m_tuple (by decide +kernel) (pa_cons (pe_callB cr_sortedS (by rfl) T.m_sorted (by decide +kernel) (pa_cons (pe_lc (own := [("_law_k", 3)]) (g := gName 3) (tt := tYes) (by rfl) S_w_names.nd (pi_range1 (by rfl) T.m_range (pa_cons (pv 1) pa_nil)) (blkOk_by (own := [("_law_k", 3)]) (N := N_w_names) (sc := defScope s_w_names) (by decide +kernel)) (fun _ _ _ _ _ => (pg_name (i := 3) S_w_names.nd rfl (.inl rfl))) (fun _ _ _ _ _ => pts_nil) (fun _ _ _ _ _ => (pe_bmK (K1 := K) rfl PySem.F.plainAttrs_list PySem.F.slot_list_pop PySem.F.type_list_pop mt_popAt (pv 5) (pa_cons (pe_call G_w_draw hr (by rfl) T.g_w_draw T.F_w_draw.kp T.b_w_draw .nil pass0 (pa_cons (pv 0) (pa_cons (pe_callB (r := rLenK K) call_lenK (by rfl) T.m_len PySem.boot_len (pa_cons (pv 5) pa_nil)) pa_nil))) pa_nil)))) pa_nil)) pa_nil)))))))), ?_⟩
    refine ⟨8, rfl, by decide, by decide, fun F nF => ?_⟩
    refine lc_range (lo := 0) (n := 8) (fun i Hx => ∃ fs : List Int, Hx F = some (.lst (fs.map V.int)) ∧ fs.length = i ∧ (∀ f ∈ fs, 0 ≤ f ∧ f < 26) ∧ FeedC Hx t c (n + i) ∧ Kp t H Hx) ⟨[], upd_same, rfl, (fun f hf => by cases hf), hT.new nF, (Kp.refl t H).new nF⟩ ?_ ?_
    · rintro i Hx hi ⟨fs, hF, hl, hb, hTx, hKx⟩
      obtain ⟨f1, f2⟩ := hT.ne nF
      refine ⟨rfl, tYesT ?_⟩
      refine ⟨_, rfl, t, 26, n + i, c, rfl, by decide, by decide, hTx, by omega, fun v H1 v0 v1 hT1 hK1 => ?_⟩
      have h1 := hK1 _ _ f1 hF
      refine ⟨_, h1, small1000 (by rw [List.length_map]; omega), fs ++ [v], by rw [upd_same, List.map_append]; rfl, by rw [List.length_append, hl]; rfl, fun f hf => ?_, hT1.updO f1 f2, kp_fresh nF (hKx.trans hK1)⟩
      rcases List.mem_append.mp hf with h | h
      · exact hb f h
      · rw [List.mem_singleton.mp h]; exact ⟨v0, v1⟩
    · rintro H1 ⟨fs, hF, hl, hb, hT1, hK1⟩
      obtain ⟨f1, f2⟩ := hT.ne nF
      refine ⟨sz (by show 0 ≤ 1000; decide), fun p0 n0 => ?_⟩
      have s0 := same_upd (o := .lst []) n0
      refine ⟨8, rfl, by decide, by decide, ?_⟩
      refine for_range (lo := 0) (n := 8) (fun i σ Hx => ∃ (y3 y6 y7 : Option V) (p : Addr) (ws : List Str), σ = [some (.ref t), some (.int m), some (.str "abcdefghijklmnopqrstuvwxyz"), y3, some (.ref F), some (.ref p), y6, y7] ∧ Hx p = some (.lst (ws.map V.str)) ∧ Pool ws i ∧ Same H1 Hx ∧ H1 p = none) ⟨_, _, _, p0, [], rfl, upd_same, ⟨rfl, (fun z hz => by cases hz), (fun z hz => by cases hz), List.nodup_nil⟩, s0, n0⟩ ?_ ?_
      · rintro i σ Hx hi ⟨y3, y6, y7, p, ws, rfl, hp, po, sx, np⟩
        have hFx := sx _ _ hF
        refine ⟨⟨_, rfl⟩, _, rfl, _, rfl, _, rfl, F, _, rfl, .inl (.inl hFx), fun C nC => ?_⟩
        have ec : cutV (fs.map V.int) none (some (0 + (i : Int))) = (fs.take i).map V.int := by
          unfold cutV
          rw [HT.sIx_none, show HT.sIx (fs.map V.int).length (fs.map V.int).length (some (0 + (i : Int))) = min i (fs.map V.int).length from by rw [Int.zero_add]; exact HT.sIx_nat _ _ i]
          simp only [List.drop_zero, Nat.sub_zero, List.length_map, ← List.map_take]
          congr 1
          rw [← List.take_take]
          simp
        rw [ec]
        have sC := same_upd (o := .lst ((fs.take i).map V.int)) nC
        have lt : (fs.take i).length = i := by rw [List.length_take]; omega
        have bt : ∀ f ∈ fs.take i, 0 ≤ f ∧ f < 26 := fun f hf => hb f (List.mem_of_mem_take hf)
        refine ⟨C, rfl, ⟨_, .inl (.inl upd_same)⟩, fun D nD => ?_⟩
        have sD := fun o => same_upd (o := o) nD
        have hC2 := fun o => sD o _ _ (upd_same (H := Hx) (a := C) (o := .lst ((fs.take i).map V.int)))
        refine lc_list (xs := (fs.take i).map V.int) (fun j H' => ∃ ks : List Nat, H' = upd (upd Hx C (.lst ((fs.take i).map V.int))) D (.lst ((ks.map sg).map V.str)) ∧ ks.length = j ∧ ∀ k ∈ ks, 97 ≤ k ∧ k ≤ 122) ⟨[], rfl, rfl, fun k hk => (by cases hk)⟩ (fun j H' hj h => by obtain ⟨ks, rfl, _⟩ := h; exact .inl (.inl (hC2 _))) ?_ ?_
        · rintro j x H' hx ⟨ks, rfl, hl2, hk⟩
          obtain ⟨f, hf, rfl⟩ : ∃ f, (fs.take i)[j]? = some f ∧ x = V.int f := by
            rw [List.getElem?_map] at hx
            cases e : (fs.take i)[j]? with
            | none => rw [e] at hx; cases hx
            | some y => rw [e] at hx; exact ⟨y, rfl, (Option.some.inj hx).symm⟩
          have bf := bt f (List.mem_of_getElem? hf)
          have hj := (List.getElem?_eq_some_iff.mp hf).1
          refine ⟨rfl, tYesT ⟨_, rfl, _, rfl, _, _, _, rfl, rfl, sz (by decide +kernel), letterX bf.1 bf.2, _, upd_same, small1000 (by rw [List.length_map, List.length_map]; omega), ks ++ [97 + f.toNat], ?_, by rw [List.length_append, hl2]; rfl, fun k hk2 => ?_⟩⟩
          · rw [upd_upd', List.map_append, List.map_append]
            rfl
          · rcases List.mem_append.mp hk2 with h | h
            · exact hk k h
            · rw [List.mem_singleton.mp h]; omega
        · rintro H' ⟨ks, rfl, hl2, hk⟩
          rw [List.length_map, lt] at hl2
          refine ⟨_, D, ks.map sg, rfl, rfl, .inl (.inl (.inl upd_same)), ?_, ?_⟩
          · have : ∀ l : List Nat, ((l.map sg).map (·.length)).sum = l.length := fun l => by
              induction l with
              | nil => rfl
              | cons a r ih =>
                show 1 + ((r.map sg).map (·.length)).sum = r.length + 1
                omega
            rw [this, List.length_map]
            show _ + _ * 0 ≤ _
            omega
          have ej : TL.tl (Txt.join "" (ks.map sg)) = ks := by
            rw [TL.join_eq]
            exact join_sg
          have hlen : (Txt.join "" (ks.map sg)).length ≤ 8 := by rw [len_tl, ej]; omega
          generalize Txt.join "" (ks.map sg) = hd at ej hlen
          obtain ⟨f, hf⟩ : ∃ f, fs[i]? = some f := ⟨_, List.getElem?_eq_getElem (by omega)⟩
          have bf := hb f (List.mem_of_getElem? hf)
          have sA := (sx.trans sC).trans (sD (.lst ((ks.map sg).map V.str)))
          have sB := sC.trans (sD (.lst ((ks.map sg).map V.str)))
          have hp2 := sB _ _ hp
          generalize upd (upd Hx C (.lst ((fs.take i).map V.int))) D (.lst ((ks.map sg).map V.str)) = H3 at sA hp2 ⊢
          have hF3 := sA _ _ hF
          have af : atI (fs.map V.int) (0 + (i : Int)) = some (.int f) := by
            rw [Int.zero_add]
            exact atI_nat (by rw [List.getElem?_map, hf]; rfl)
          have m0 := Int.emod_nonneg (f + 1) (show (26 : Int) ≠ 0 by decide)
          have m1 := Int.emod_lt_of_pos (f + 1) (show (0 : Int) < 26 by decide)
          refine ⟨_, rfl, _, rfl, _, rfl, _, rfl, _, rfl, F, _, _, _, rfl, rfl, .inl (.inl hF3), af, _, _, _, rfl, rfl, sz (by decide +kernel), letterX bf.1 bf.2, _, _, rfl, rfl, sz (by show hd.length + 1 ≤ _; omega), _, rfl, _, rfl, _, rfl, _, rfl, F, _, _, _, rfl, rfl, .inl (.inl hF3), af, _, _, rfl, rfl, _, _, rfl, rfl, (show (0 : Int) < 26 by decide), _, _, _, rfl, rfl, sz (by decide +kernel), letterX m0 m1, _, _, rfl, rfl, sz (by show hd.length + 1 ≤ _; omega), sz (by show 2 ≤ 1000; decide), fun b nb => ?_⟩
          have s4 := fun o => same_upd (o := o) nb
          refine ⟨p, b, _, _, rfl, rfl, s4 _ _ _ hp2, upd_same, sz (by rw [List.length_map, po.len]; show _ + 2 ≤ _; omega), fun p' np' => ?_⟩
          have s5 := fun o => same_upd (o := o) np'
          refine ⟨_, _, _, p', ws ++ [hd ++ sg (97 + f.toNat), hd ++ sg (97 + ((f + 1) % 26).toNat)], rfl, by rw [upd_same, List.map_append]; rfl, po.next (by omega) (hd := ks) (by omega) hk (a := 97 + f.toNat) (b := 97 + ((f + 1) % 26).toNat) (by omega) (by omega) (by omega) (by rw [TL.tl_append, ej]; rfl) (by rw [TL.tl_append, ej]; rfl), (sA.trans (s4 _)).trans (s5 _), ?_⟩
          cases e : H1 p' with
          | none => rfl
          | some o => rw [s4 _ _ _ (sA _ _ e)] at np'; cases np'
      · rintro σ H2 ⟨y3, y6, y7, p, ws, rfl, hp, po, s2, np⟩
        have hT2 := hT1.same s2
        have hK2 := hK1.trans (Kp.of_same s2)
        obtain ⟨q1, q2⟩ := hT1.ne np
        have fp := kp_none hK1 np q1
        refine ⟨_, rfl, m, rfl, by omega, by omega, fun D nD => ?_⟩
        obtain ⟨d1, d2⟩ := hT2.ne nD
        have fD := kp_none hK2 nD d1
        have dp : p ≠ D := ne_of_none hp nD
        refine lc_range (lo := 0) (n := m) (fun i Hx => ∃ ws ds : List Str, Hx p = some (.lst (ws.map V.str)) ∧ Hx D = some (.lst (ds.map V.str)) ∧ ws.length + i = 16 ∧ ds.length = i ∧ (∀ z ∈ ws, Nm z) ∧ (∀ z ∈ ds, Nm z) ∧ (ws ++ ds).Nodup ∧ FeedC Hx t c (n + 8 + i) ∧ Kp t H Hx) ⟨ws, [], same_upd nD _ _ hp, upd_same, by rw [po.len], rfl, po.nm, (fun z hz => by cases hz), by rw [List.append_nil]; exact po.nd, hT2.new nD, hK2.new nD⟩ ?_ ?_
        · rintro i Hx hi ⟨ws, ds, h1, h2, lw, ld, wn, dn, nd, hTx, hKx⟩
          refine ⟨rfl, tYesT ⟨_, rfl, .inl ⟨rfl, _, .inl (.inl h1)⟩, _, rfl, _, rfl, p, _, rfl, .inl (.inl (.inl h1)), t, _, n + 8 + i, c, rfl, by rw [List.length_map]; omega, by rw [List.length_map]; omega, hTx, by omega, fun v H4 v0 v1 hT4 hK4 => ?_⟩⟩
          rw [List.length_map] at v1
          have g1 := hK4 _ _ q1 h1
          have g2 := hK4 _ _ d1 h2
          have vw : v.toNat < ws.length := by omega
          have gw : (ws.map V.str)[v.toNat]? = some (.str ws[v.toNat]) := by rw [List.getElem?_map, List.getElem?_eq_getElem vw]; rfl
          refine ⟨p, _, v, v.toNat, .str ws[v.toNat], rfl, rfl, g1, by omega, by omega, ?_, gw, ?_⟩
          · rw [List.length_map]
            exact PyProof.Rows.seqIndex_at v0 (by omega)
          have k2 : upd H4 p (.lst ((ws.map V.str).eraseIdx v.toNat)) D = _ := (upd_ne dp.symm).trans g2
          refine ⟨_, k2, small1000 (by rw [List.length_map]; omega), ws.eraseIdx v.toNat, ds ++ [ws[v.toNat]], ?_, by rw [upd_same, List.map_append]; rfl, by rw [List.length_eraseIdx_of_lt vw]; omega, by rw [List.length_append, ld]; rfl, fun z hz => wn z (List.mem_of_mem_eraseIdx hz), fun z hz => ?_, ?_, (hT4.updO q1 q2).updO d1 d2, kp_fresh fD (kp_fresh fp (hKx.trans hK4))⟩
          · rw [upd_ne dp, upd_same, erase_map]
          · rcases List.mem_append.mp hz with h | h
            · exact dn z h
            · rw [List.mem_singleton.mp h]; exact wn _ (List.getElem_mem vw)
          · refine (List.Perm.nodup_iff ?_).mp nd
            refine ((erase_perm vw).symm.append_right ds).trans ?_
            rw [← List.append_assoc]
            exact (List.perm_append_singleton _ _).symm
        · rintro H3 ⟨ws, ds, h1, h2, lw, ld, wn, dn, nd, hT3, hK3⟩
          refine ⟨D, ds, rfl, .inl (.inl h2), by omega, fun ys z pe so nz => ?_⟩
          have s6 := fun o => same_upd (o := o) nz
          refine ⟨z, _, rfl, .inl ⟨.inl (.inl upd_same), fun r nr => ?_⟩⟩
          have s7 := fun o => same_upd (o := o) nr
          have hT5 := (hT3.same (s6 (.lst (ys.map V.str)))).same (s7 (.tup (ys.map V.str)))
          have hK5 := (hK3.new (o := .lst (ys.map V.str)) nz).new (o := .tup (ys.map V.str)) nr
          have rt := ((hT3.same (s6 (.lst (ys.map V.str)))).ne nr).1
          exact q r ys _ upd_same (by rw [pe.length_eq]; exact ld) (fun z hz => dn z (pe.mem_iff.mp hz)) (pe.nodup_iff.mpr (List.nodup_append.mp nd).2.1) so hT5 hK5 (kp_none (hK3.new nz) nr rt)
end
end L53

set_option Elab.async false
set_option linter.all false
set_option maxRecDepth 100000
set_option maxHeartbeats 2000000
namespace L53
open PySem PySem.Spec PyProof.Rows L2 My
section
variable {P : Program} {w : World} {K : PySem.W.Frag} {mg : Str → Option Value} {base : Heap}
/-- all pairs along a list, the first k rows -/
def alongK (zs : List Str) (k : Nat) : List (Str × Str) := (List.range k).flatMap fun i => match zs[i]? with
  | some x => (zs.drop (i + 1)).map fun y => (x, y)
  | none => []
theorem along_next {zs : List Str} {k : Nat} {x : Str} (h : zs[k]? = some x) : alongK zs (k + 1) = alongK zs k ++ (zs.drop (k + 1)).map fun y => (x, y) := by
  unfold alongK
  rw [List.range_succ, List.flatMap_append]
  congr 1
  simp [h]
theorem along_len {zs : List Str} (l9 : zs.length ≤ 9) : ∀ k, k ≤ zs.length → (alongK zs k).length ≤ 9 * k
  | 0, _ => Nat.le_refl _
  | k + 1, h => by
    have ih := along_len l9 k (by omega)
    rw [along_next (List.getElem?_eq_getElem (show k < zs.length by omega)), List.length_append, List.length_map, List.length_drop]
    omega
theorem nk_say {H : Hp} {q : Addr} {a b : Str} (h : H q = some (.tup [.str a, .str b])) : Nk H (.ref q) (sayK (a, b)) := .tup h (.cons (.str a) (.cons (.str b) .nil))
theorem tups_lst {H : Hp} {D : Addr} {ys : List V} {o : HO} (h : H D = some (.lst ys)) : Tups H (upd H D o) := fun b xs e => by
  rw [upd_ne (fun z => by rw [z, h] at e; cases e)]
  exact e
theorem same_fresh {H H1 : Hp} {p : Addr} {o : HO} (hp : H p = none) (k : Same H H1) : Same H (upd H1 p o) := fun b x h => by
  rw [upd_ne (ne_of_none h hp)]
  exact k b x h
def spAlong : Sp := fun vs H Q _ => ∃ (l : Addr) (zs : List Str), vs = [.ref l] ∧ H l = some (.lst (zs.map V.str)) ∧ zs.length ≤ 9 ∧
  ∀ p ys H', Same H H' → H p = none → H' p = some (.lst ys) → NkAll H' ys ((alongK zs zs.length).map sayK) → Q (.ref p) H'
theorem ok_along (T : Tx K mg) : FnOk P w K mg base CX0 1 T.f_w_along T.d_w_along ["_law_order"] (spAlong) := by
  refine T.F_w_along.ok S_w_along (fun vs H Q E h => ?_) (fun cdv A outer s H vs Q E hr h => ?_)
  · obtain ⟨l, zs, rfl, _⟩ := h
    rfl
  · obtain ⟨l, zs, rfl, hl, l9, q⟩ := h
    refine ⟨_, (pss_cons (ps_set (i := 1) S_w_along.nd rfl (.inl rfl) (pe_lst pa_nil))
      (pss_cons (ps_for PassesOwn.never rfl (pi_range1 (by rfl) T.m_range (pa_cons (pe_callB call_len_seq (by rfl) T.m_len PySem.boot_len (pa_cons (pv 0) pa_nil)) pa_nil)) (pg_name (i := 2) S_w_along.nd rfl (.inr rfl))
      (pss_one (ps_set (i := 1) S_w_along.nd rfl (.inl rfl) (pe_op op_cat (pv 1) (pe_lc (own := [("_law_other", 3)]) (g := gName 3) (tt := tYes) (by rfl) S_w_along.nd (pi_list (pe_slice sl_list (pv 0) (po_some (pe_op op_add (pv 2) pe_int)) po_none)) (blkOk_by (own := [("_law_other", 3)]) (N := N_w_along) (sc := defScope s_w_along) (by decide +kernel)) (fun _ _ _ _ _ => (pg_name (i := 3) S_w_along.nd rfl (.inl rfl))) (fun _ _ _ _ _ => pts_nil) (fun _ _ _ _ _ => (pe_tup (pa_cons (pe_ix (r := rIxL K) ix_list (pv 0) (pv 2) (fun _ _ => rfl)) (pa_cons (pv 3) pa_nil)))))))))
      (pss_one (ps_ret (pv 1))))), ?_⟩
    refine ⟨sz (by show 0 ≤ 1000; decide), fun p0 n0 => ?_⟩
    have s0 := same_upd (o := .lst []) n0
    refine ⟨_, rfl, l, _, rfl, .inl (.inl (.inl (s0 _ _ hl))), zs.length, by rw [List.length_map], by omega, by omega, ?_⟩
    refine for_range (lo := 0) (n := zs.length) (fun i σ Hx => ∃ (y2 y3 : Option V) (p : Addr) (ys : List V), σ = [some (.ref l), some (.ref p), y2, y3] ∧ Same H Hx ∧ H p = none ∧ Hx p = some (.lst ys) ∧ NkAll Hx ys ((alongK zs i).map sayK)) ⟨_, _, p0, [], rfl, s0, n0, upd_same, .nil⟩ ?_ ?_
    · rintro i σ Hx hi ⟨y2, y3, p, ys, rfl, sx, np, hp, nk⟩
      have hlx := sx _ _ hl
      have al := along_len l9 i (by omega)
      have lys : ys.length = (alongK zs i).length := by have := nk.length; rw [List.length_map] at this; exact this
      have hz : zs[i]? = some zs[i] := List.getElem?_eq_getElem hi
      have az : atI (zs.map V.str) (0 + (i : Int)) = some (.str zs[i]) := by
        rw [Int.zero_add]
        exact atI_nat (by rw [List.getElem?_map, hz]; rfl)
      refine ⟨_, rfl, _, rfl, _, rfl, _, _, rfl, rfl, _, rfl, l, _, rfl, .inl (.inl hlx), fun C nC => ?_⟩
      have ec : cutV (zs.map V.str) (some (0 + (i : Int) + 1)) none = (zs.drop (i + 1)).map V.str := by
        have e1 : (0 + (i : Int) + 1) = ((i + 1 : Nat) : Int) := by omega
        unfold cutV
        rw [HT.sIx_none, e1, show HT.sIx (zs.map V.str).length 0 (some ((i + 1 : Nat) : Int)) = min (i + 1) (zs.map V.str).length from HT.sIx_nat _ _ (i + 1), List.length_map, Nat.min_eq_left (by omega), List.take_of_length_le (by rw [List.length_drop, List.length_map]; omega), List.map_drop]
      rw [ec]
      have sC := same_upd (o := .lst ((zs.drop (i + 1)).map V.str)) nC
      have hC := upd_same (H := Hx) (a := C) (o := .lst ((zs.drop (i + 1)).map V.str))
      generalize upd Hx C (.lst ((zs.drop (i + 1)).map V.str)) = H1 at sC hC ⊢
      refine ⟨C, rfl, ⟨_, .inl (.inl hC)⟩, fun D nD => ?_⟩
      refine lc_list (xs := (zs.drop (i + 1)).map V.str) (fun j H' => ∃ us, H' D = some (.lst us) ∧ Same H1 H' ∧ NkAll H' us ((((zs.drop (i + 1)).take j).map fun y => (zs[i], y)).map sayK)) ⟨[], upd_same, same_upd nD, .nil⟩ (fun j H' hj h => by obtain ⟨_, _, k, _⟩ := h; exact .inl (.inl (k _ _ hC))) ?_ ?_
      · rintro j x H' hx ⟨us, hD, sD, nu⟩
        obtain ⟨y, hy, rfl⟩ : ∃ y, (zs.drop (i + 1))[j]? = some y ∧ x = V.str y := by
          rw [List.getElem?_map] at hx
          cases e : (zs.drop (i + 1))[j]? with
          | none => rw [e] at hx; cases hx
          | some y => rw [e] at hx; exact ⟨y, rfl, (Option.some.inj hx).symm⟩
        have hj := (List.getElem?_eq_some_iff.mp hy).1
        rw [List.length_drop] at hj
        have lu : us.length ≤ j := by
          have := nu.length
          rw [List.length_map, List.length_map, List.length_take] at this
          omega
        refine ⟨rfl, tYesT ⟨_, rfl, _, rfl, l, _, _, .str zs[i], rfl, rfl, .inl (.inl (sD _ _ (sC _ _ hlx))), az, _, rfl, sz (by show 2 ≤ 1000; decide), fun c3 n3 => ?_⟩⟩
        have s3 := same_upd (o := .tup [.str zs[i], .str y]) n3
        have hD3 := s3 _ _ hD
        have tD := tups_lst (o := .lst (us ++ [.ref c3])) hD3
        refine ⟨us, hD3, small1000 (by omega), us ++ [.ref c3], upd_same, same_fresh nD (sD.trans s3), ?_⟩
        rw [List.take_add_one, hy, List.map_append, List.map_append]
        exact ((nu.at (.same s3)).app (.cons (nk_say upd_same) .nil)).at tD
      · rintro H3 ⟨us, hD, sD, nu⟩
        rw [List.length_map, List.take_of_length_le (Nat.le_refl _)] at nu
        have lu := nu.length
        rw [List.length_map, List.length_map, List.length_drop] at lu
        have hp3 := sD _ _ (sC _ _ hp)
        refine ⟨p, D, _, _, rfl, rfl, hp3, hD, sz (by omega), fun p' np' => ?_⟩
        have sp := same_upd (o := .lst (ys ++ us)) np'
        refine ⟨_, _, p', ys ++ us, rfl, ((sx.trans sC).trans sD).trans sp, ?_, upd_same, ?_⟩
        · cases e : H p' with
          | none => rfl
          | some o => rw [sD _ _ (sC _ _ (sx _ _ e))] at np'; cases np'
        · rw [along_next hz, List.map_append]
          exact ((nk.at (.same (sC.trans sD))).app nu).at (.same sp)
    · rintro σ Hx ⟨y2, y3, p, ys, rfl, sx, np, hp, nk⟩
      exact ⟨_, rfl, q p ys Hx sx np hp nk⟩
def spTurned : Sp := fun vs H Q _ => ∃ (t c p : Addr) (zs : List Str) (n : Nat), vs = [.ref t, .ref p] ∧ H p = some (.tup (zs.map V.str)) ∧ zs.length ≤ 9 ∧ FeedC H t c n ∧ n < 900000 ∧
  ∀ D (ys : List Str) H', H D = none → H' D = some (.lst (ys.map V.str)) → ys.Perm zs → FeedC H' t c (n + zs.length) → Kp t H H' → Q (.ref D) H'
theorem ok_turned (T : Tx K mg) : FnOk P w K mg base CX0 2 T.f_w_turned T.d_w_turned ["_law_feed_here", "_law_names_here"] (spTurned) := by
  have G_w_draw : FnOk P w K mg base CX0 1 T.f_w_draw T.d_w_draw ["_law_feed_here", "_law_many"] (spDraw) := ok_draw T
  refine T.F_w_turned.ok S_w_turned (fun vs H Q E h => ?_) (fun cdv A outer s H vs Q E hr h => ?_)
  · obtain ⟨t, c, p, zs, n, rfl, _⟩ := h
    rfl
  · obtain ⟨t, c, p, zs, n, rfl, hp, l9, hT, hn, q⟩ := h
    refine ⟨_, (pss_cons (ps_set (i := 2) S_w_turned.nd rfl (.inr rfl) (pe_callTy call_list_of (by rfl) T.m_list (by decide +kernel) (pa_cons (pv 1) pa_nil)))
      (pss_one (ps_ret (pe_lc (own := [("_law_name", 3)]) (g := gName 3) (tt := tYes) (by rfl) S_w_turned.nd (pi_tup (pv 1)) (blkOk_by (own := [("_law_name", 3)]) (N := N_w_turned) (sc := defScope s_w_turned) (by decide +kernel)) (fun _ _ _ _ _ => (pg_name (i := 3) S_w_turned.nd rfl (.inl rfl))) (fun _ _ _ _ _ => pts_nil) (fun _ _ _ _ _ => (pe_bmK (K1 := K) rfl PySem.F.plainAttrs_list PySem.F.slot_list_pop PySem.F.type_list_pop mt_popAt (pv 2) (pa_cons (pe_call G_w_draw hr (by rfl) T.g_w_draw T.F_w_draw.kp T.b_w_draw .nil pass0 (pa_cons (pv 0) (pa_cons (pe_callB (r := rLenK K) call_lenK (by rfl) T.m_len PySem.boot_len (pa_cons (pv 2) pa_nil)) pa_nil))) pa_nil))))))), ?_⟩
    have pt : p ≠ t := fun z => by
      obtain ⟨ns, sp, re, ca, e1, _⟩ := hT
      rw [z, e1] at hp
      cases hp
    refine ⟨_, rfl, p, _, rfl, .inr (.inl (.inl hp)), fun h0 n0 => ?_⟩
    obtain ⟨a1, a2⟩ := hT.ne n0
    have hh := upd_same (H := H) (a := h0) (o := .lst (zs.map V.str))
    have hT1 := hT.new (o := .lst (zs.map V.str)) n0
    have hK1 := (Kp.refl t H).new (o := .lst (zs.map V.str)) n0
    generalize upd H h0 (.lst (zs.map V.str)) = H1 at hh hT1 hK1 ⊢
    have hp1 := hK1 _ _ pt hp
    refine ⟨_, rfl, p, rfl, ⟨_, .inl (.inl hp1)⟩, fun D nD => ?_⟩
    obtain ⟨d1, d2⟩ := hT1.ne nD
    have fD := kp_none hK1 nD d1
    have dh : h0 ≠ D := ne_of_none hh nD
    refine lc_tup (xs := zs.map V.str) (fun i Hx => ∃ ws ds : List Str, Hx h0 = some (.lst (ws.map V.str)) ∧ Hx D = some (.lst (ds.map V.str)) ∧ (ws ++ ds).Perm zs ∧ ds.length = i ∧ FeedC Hx t c (n + i) ∧ Kp t H Hx) ⟨zs, [], same_upd nD _ _ hh, upd_same, by rw [List.append_nil], rfl, hT1.new nD, hK1.new nD⟩ (fun i Hx _ h => ?_) ?_ ?_
    · obtain ⟨_, _, _, _, _, _, _, k⟩ := h
      exact .inl (.inl (k _ _ pt hp))
    · rintro i x Hx hx ⟨ws, ds, h1, h2, pm, ld, hTx, hKx⟩
      have hi := (List.getElem?_eq_some_iff.mp hx).1
      rw [List.length_map] at hi
      have lp := pm.length_eq
      rw [List.length_append] at lp
      refine ⟨rfl, tYesT ⟨_, rfl, .inl ⟨rfl, _, .inl (.inl h1)⟩, _, rfl, _, rfl, h0, _, rfl, .inl (.inl (.inl h1)), t, _, n + i, c, rfl, by rw [List.length_map]; omega, by rw [List.length_map]; omega, hTx, by omega, fun v H4 v0 v1 hT4 hK4 => ?_⟩⟩
      rw [List.length_map] at v1
      have g1 := hK4 _ _ a1 h1
      have g2 := hK4 _ _ d1 h2
      have vw : v.toNat < ws.length := by omega
      have gw : (ws.map V.str)[v.toNat]? = some (.str ws[v.toNat]) := by rw [List.getElem?_map, List.getElem?_eq_getElem vw]; rfl
      refine ⟨h0, _, v, v.toNat, .str ws[v.toNat], rfl, rfl, g1, by omega, by omega, ?_, gw, ?_⟩
      · rw [List.length_map]
        exact PyProof.Rows.seqIndex_at v0 (by omega)
      have k2 : upd H4 h0 (.lst ((ws.map V.str).eraseIdx v.toNat)) D = _ := (upd_ne dh.symm).trans g2
      refine ⟨_, k2, small1000 (by rw [List.length_map]; omega), ws.eraseIdx v.toNat, ds ++ [ws[v.toNat]], ?_, by rw [upd_same, List.map_append]; rfl, ?_, by rw [List.length_append, ld]; rfl, (hT4.updO a1 a2).updO d1 d2, kp_fresh fD (kp_fresh n0 (hKx.trans hK4))⟩
      · rw [upd_ne dh, upd_same, erase_map]
      · refine (List.Perm.trans ?_ pm)
        rw [← List.append_assoc]
        refine (List.perm_append_singleton _ _).trans ?_
        exact (erase_perm vw).append_right ds
    · rintro H3 ⟨ws, ds, h1, h2, pm, ld, hT3, hK3⟩
      rw [List.length_map] at ld hT3
      have lp := pm.length_eq
      rw [List.length_append] at lp
      have e0 : ws = [] := List.length_eq_zero_iff.mp (by omega)
      rw [e0, List.nil_append] at pm
      exact q D ds H3 fD h2 pm hT3 hK3
end
end L53

set_option Elab.async false
set_option linter.all false
set_option maxRecDepth 100000
set_option maxHeartbeats 2000000
/-! t[::-1], t a tuple of two. -/
namespace My
open PySem PySem.Spec PyProof.Rows L2 HT
section
variable {prog : Program} {w : World} {A : Around} {E : Value → Shared → Prop} {s : Shared}
theorem applied_back {sl : Addr} {u : Tok} {Q : Int × Int × Nat → Shared → Prop} (hs : s.heap.IsSliceOf sl .none .none (.int (-1) u)) (h : Q (1, -1, 2) s) :
    wpAny (model prog w) A (Builtin.Slice.sliceApplied (.ref sl) (pure (2 : Int))) Q E s := by
  obtain ⟨o, ho, _, hd⟩ := hs
  unfold Builtin.Slice.sliceApplied Builtin.Slice.sliceFields
  refine wpAny_bind (wpAny_bind (wpAny_field ho hd (x := .none) rfl ?_))
  refine wpAny_bind (wpAny_field ho hd (x := .none) rfl ?_)
  refine wpAny_bind (wpAny_field ho hd (x := .int (-1) u) rfl (wpAny_pure ?_))
  refine wpAny_bind (slicePart_ (.int (-1) u) ?_)
  show wpAny _ _ (if ((-1 : Int) == 0) = true then _ else _) _ _ s
  rw [if_neg (show ¬ ((-1 : Int) == 0) = true by decide)]
  exact wpAny_bind (slicePart_ .none (wpAny_bind (slicePart_ .none (wpAny_bind (wpAny_pure (wpAny_pure h))))))
theorem item_back {t sl : Addr} {a b : Value} {u : Tok} {Q : Value → Shared → Prop} (ht : IsTup s.heap t #[a, b]) (hs : s.heap.IsSliceOf sl .none .none (.int (-1) u))
    (h : Q (.ref s.heap.objs.size) { s with heap := s.heap.push { cls := .type "tuple", data := .seq #[b, a] } }) : wpAny (model prog w) A (getItem (.ref t) (.ref sl)) Q E s := by
  obtain ⟨o, ho, hc, hd⟩ := id hs
  have ty : s.TypeIs (.ref sl) "slice" := ⟨o, ho, hc⟩
  have fit : sizeOk (.seq #[b, a]) := by show 2 ≤ sizeLine; exact sz (by decide)
  unfold getItem
  try with_reducible refine wpAny_holding ?_
  first | refine wpAny_bind (wpAny_pure ?_) | skip
  refine wpAny_bind (wpAny_sequenceKey ht.typeIs (by decide) (wpAny_bind (wpAny_callSpecial?_slot (name := Str.ofString "__getitem__") ht.typeIs PyProof.Rows.slot_tuple_getitem (wpAny_call_entry PyProof.Rows.slot_tuple_getitem ht.typeIs entry_tuple_getitem ?_ (args_tuple_getitem _ _)))))
  show wpAny _ _ (Builtin.Tuple.tupleItemsOf (.ref t) >>= _) _ _ s
  refine wpAny_bind (tupleItemsOf_ ht (wpAny_bind (wpAny_typeOf ty ?_)))
  rw [if_pos (by decide)]
  refine wpAny_bind (applied_back hs ?_)
  show wpAny _ _ (if (((1 : Int) == 0) && ((-1 : Int) == 1) && ((2 : Nat) == 2)) = true then _ else _) _ _ s
  rw [if_neg (by decide)]
  have e : ((List.range 2).filterMap fun (k : Nat) => (#[a, b] : Array Value)[((1 : Int) + (k : Int) * (-1)).toNat]?).toArray = #[b, a] := rfl
  rw [e]
  first
    | exact wpAny_bind (m := Builtin.Tuple.tupleExact _) (wpAny_newObj_type (wpAny_pure ⟨_, rfl, wpAny_pure h⟩) fit)
    | exact wpAny_bind (m := Builtin.Tuple.tupleExact _) (wpAny_newObj_type (wpAny_bind (wpAny_pure (wpAny_pure ⟨_, rfl, wpAny_pure h⟩))) fit)
    | exact wpAny_bind (wpAny_bind (m := Builtin.Tuple.tupleExact _) (wpAny_newObj_type (wpAny_pure (wpAny_pure ⟨_, rfl, wpAny_pure h⟩)) fit))
    | exact wpAny_bind (wpAny_bind (m := Builtin.Tuple.tupleExact _) (wpAny_newObj_type (wpAny_pure ⟨_, rfl, wpAny_pure h⟩) fit))
end
section
variable {X : Cx} {K1 : PySem.W.Frag}
def tRevP (K : PySem.W.Frag) (te : TE) : TE := fun σ H Q => te σ H fun x H1 => ∃ a p q, x = .ref a ∧ SqT K H1 a [p, q] ∧ ∀ b, H1 b = none → Q (.ref b) (upd H1 b (.tup [q, p]))
theorem pe_revP {e : Expr} {te : TE} {k : Nat} {p1 p2 p3 pos : Pos} (hK : X.K = K1) (he : PE X e te) : PE X (.Subscript e (.Slice none none (some (.UnaryOp .USub (.Constant (.int 1) k p1) p2)) p3) pos) (tRevP K1 te) := by
  subst hK
  have step : PO X (some (.UnaryOp .USub (.Constant (.int 1) k p1) p2)) (tPart (tUn (rU fun i => .int (-i)) (tC (.int 1)))) := po_some (pe_un un_neg pe_int)
  constructor
  intro pins s σ H Q I h
  refine Subscript_ (thn (he.run pins s σ H _ I h) ?_)
  rintro v s1 ⟨x, H1, I1, r1, a, p, q, rfl, hx, hq⟩
  cases r1
  refine wpAny_Slice (thn (po_none.run pins s1 σ H1 (fun o G => o = none ∧ G = H1) I1 ⟨rfl, rfl⟩) ?_)
  rintro vl s2 ⟨o1, G1, I2, q1, rfl, rfl⟩
  refine thn (po_none.run pins s2 σ G1 (fun o G => o = none ∧ G = G1) I2 ⟨rfl, rfl⟩) ?_
  rintro vu s3 ⟨o2, G2, I3, q2, rfl, rfl⟩
  refine thn (step.run pins s3 σ G2 (fun o G => o = some (-1) ∧ G = G2) I3 ⟨1, rfl, -1, rfl, rfl, rfl⟩) ?_
  rintro vs s4 ⟨o3, G3, I4, q3, rfl, rfl⟩
  cases q1
  cases q2
  cases q3 with
  | int _ u =>
    have I5 : Inv X pins σ G3 { s4 with heap := s4.heap.push { cls := .type "slice", data := .fields #[.none, .none, .int (-1) u] } } := I4.kept (t' := s4.toks) fun b ob q => Heap.get?_push_of_some _ q
    obtain ⟨its, r, ht, _⟩ := I5.tuple hx
    cases r with
    | @cons _ b1 _ _ ra r =>
      cases r with
      | @cons _ b2 _ _ rb r =>
        cases r
        show wpAny (model X.prog X.w) X.A (subscriptTail e (.Slice none none (some (.UnaryOp .USub (.Constant (.int 1) k p1) p2)) p3) (.ref a) (.ref s4.heap.objs.size)) (EP X pins σ Q) X.xe { s4 with heap := s4.heap.push { cls := .type "slice", data := .fields #[.none, .none, .int (-1) u] } }
        refine tail_any (ops := [.ref a, .ref s4.heap.objs.size]) ht.typeIs (PyProof.Rows.slot_tuple_getitem.lookup) ?_ (by with_unfolding_all rfl)
        refine item_back ht (Heap.IsSliceOf.new _ .none .none (.int (-1) u)) ?_
        refine ⟨.ref _, _, I5.laid (t' := s4.toks) (o := .tup [q, p]) (fun b ob q => Heap.get?_push_of_some _ q) (Nat.le_refl _) ⟨sz (by show 2 ≤ 1000; decide), [b2, b1], .cons rb (.cons ra .nil), IsTup.new _ _⟩, rfl, hq _ (I5.hok.fresh (Nat.le_refl _))⟩
end
end My

set_option Elab.async false
set_option linter.all false
set_option maxRecDepth 100000
set_option maxHeartbeats 2000000
namespace L53
open PySem PySem.Spec PyProof.Rows L2 My
section
variable {P : Program} {w : World} {K : PySem.W.Frag} {mg : Str → Option Value} {base : Heap}
theorem idx_at : ∀ {l : List Str} {i : Nat} {x : Str}, l.Nodup → l[i]? = some x → l.idxOf x = i
  | y :: l, 0, x, _, h => by
    have e : y = x := Option.some.inj h
    rw [e, List.idxOf_cons_self]
  | y :: l, i + 1, x, nd, h => by
    obtain ⟨n1, n2⟩ := List.nodup_cons.mp nd
    have h : l[i]? = some x := h
    have ne : y ≠ x := fun e => n1 (by rw [e]; exact List.mem_of_getElem? h)
    rw [List.idxOf_cons]
    rw [show (y == x) = false from beq_eq_false_iff_ne.mpr ne, idx_at n2 h]
    rfl
theorem along_rk {zs : List Str} (nd : zs.Nodup) {n : Nat} {p : Str × Str} (h : p ∈ alongK zs n) : zs.idxOf p.1 < zs.idxOf p.2 ∧ p.1 ∈ zs ∧ p.2 ∈ zs := by
  unfold alongK at h
  obtain ⟨i, _, hp⟩ := List.mem_flatMap.mp h
  cases e : zs[i]? with
  | none => rw [e] at hp; cases hp
  | some x =>
    rw [e] at hp
    obtain ⟨y, hy, rfl⟩ := List.mem_map.mp hp
    obtain ⟨j, hj⟩ := List.mem_iff_getElem?.mp hy
    rw [List.getElem?_drop] at hj
    rw [idx_at nd e, idx_at nd hj]
    exact ⟨by omega, List.mem_of_getElem? e, List.mem_of_getElem? hj⟩
theorem tups_kp {H H' : Hp} {t c : Addr} {n : Nat} (h : FeedC H t c n) (k : Kp t H H') : Tups H H' := fun b xs e => k b _ (fun z => by
  obtain ⟨ns, sp, re, ca, e1, _⟩ := h
  rw [z, e1] at e
  cases e) e
theorem nk_erase {H : Hp} : ∀ {xs : List V} {ks : List NestedKey}, NkAll H xs ks → ∀ i : Nat, NkAll H (xs.eraseIdx i) (ks.eraseIdx i)
  | _, _, .nil, _ => .nil
  | _ :: _, _ :: _, .cons _ h, 0 => h
  | _ :: _, _ :: _, .cons n h, i + 1 => .cons n (nk_erase h i)
theorem say_nk {H : Hp} {x : V} {p : Str × Str} (n : Nk H x (sayK p)) : ∃ q, x = .ref q ∧ H q = some (.tup [.str p.1, .str p.2]) := by
  unfold sayK at n
  cases n with
  | @tup q xs _ h hk =>
    cases hk with
    | cons n1 hk =>
      cases n1
      cases hk with
      | cons n2 hk =>
        cases n2
        cases hk
        exact ⟨q, rfl, h⟩
/-- a pair of two unlike names of the list -/
def InP (zs : List Str) (p : Str × Str) : Prop := p.1 ∈ zs ∧ p.2 ∈ zs ∧ p.1 ≠ p.2
theorem nodup_len {α : Type} {l m : List α} (nd : l.Nodup) (h : ∀ x ∈ l, x ∈ m) : l.length ≤ m.length := by
  induction l generalizing m with
  | nil => exact Nat.zero_le _
  | cons a l ih =>
    obtain ⟨h1, h2⟩ := List.nodup_cons.mp nd
    obtain ⟨s, t, rfl⟩ := List.append_of_mem (h a (.head _))
    have := ih (m := s ++ t) h2 fun x hx => by
      have := h x (.tail _ hx)
      have ne : x ≠ a := fun z => h1 (z ▸ hx)
      simp only [List.mem_append, List.mem_cons] at this ⊢
      rcases this with h | h | h
      · exact .inl h
      · exact absurd h ne
      · exact .inr h
    simp only [List.length_append, List.length_cons] at this ⊢
    omega
theorem ents_say {H : Hp} : ∀ {xs : List V} {ps : List (Str × Str)}, NkAll H xs (ps.map sayK) → ∃ es : List Ent, xs = es.map (fun p => V.ref p.1) ∧ ps.map sayK = es.map (·.2)
  | [], [], .nil => ⟨[], rfl, rfl⟩
  | x :: xs, p :: ps, h => by
    cases h with
    | cons n h =>
      obtain ⟨es, rfl, e⟩ := ents_say h
      obtain ⟨y, rfl, _⟩ := say_nk n
      exact ⟨(y, sayK p) :: es, rfl, by rw [List.map_cons, List.map_cons, e]⟩
theorem ents_nk {H : Hp} : ∀ {es : List Ent}, NkAll H (es.map fun p => V.ref p.1) (es.map (·.2)) → ∀ p ∈ es, Nk H (.ref p.1) p.2
  | [], _, p, hp => by cases hp
  | e :: es, h, p, hp => by
    cases h with
    | cons n h =>
      rcases List.mem_cons.mp hp with rfl | hp
      · exact n
      · exact ents_nk h p hp
theorem says_of {gp : List (Str × Str)} : ∀ {ls : List NestedKey}, (∀ k ∈ ls, ∃ q ∈ gp, k = sayK q) → ∃ ps : List (Str × Str), ls = ps.map sayK ∧ ∀ x ∈ ps, x ∈ gp
  | [], _ => ⟨[], rfl, fun x hx => by cases hx⟩
  | k :: ls, h => by
    obtain ⟨q, hq, rfl⟩ := h k (.head _)
    obtain ⟨ps, e, hp⟩ := says_of fun k hk => h k (.tail _ hk)
    exact ⟨q :: ps, by rw [List.map_cons, e], fun x hx => (List.mem_cons.mp hx).elim (fun e => by rw [e]; exact hq) (hp x)⟩
def spSays : Sp := fun vs H Q _ => ∃ (t c p : Addr) (zs : List Str) (ms n : Nat), vs = [.ref t, .ref p, .int ms] ∧ H p = some (.tup (zs.map V.str)) ∧ zs.length ≤ 9 ∧ zs.Nodup ∧ ms ≤ 40 ∧ FeedC H t c n ∧ n < 800000 ∧
  ∀ (r : Addr) (ys : List V) (ps : List (Str × Str)) (H' : Hp), H' r = some (.tup ys) → NkAll H' ys (ps.map sayK) → Rs (ps.map sayK) → (∀ x ∈ ps, InP zs x) → ps.length ≤ ms + 2 → FeedC H' t c (n + 60) → Kp t H H' → Q (.ref r) H'
theorem ok_says (T : Tx K mg) : FnOk P w K mg base CX0 3 T.f_w_sayings T.d_w_sayings ["_law_feed_here", "_law_names_here", "_law_most"] (spSays) := by
  have G_w_draw : FnOk P w K mg base CX0 1 T.f_w_draw T.d_w_draw ["_law_feed_here", "_law_many"] (spDraw) := ok_draw T
  have G_w_along : FnOk P w K mg base CX0 1 T.f_w_along T.d_w_along ["_law_order"] (spAlong) := ok_along T
  have G_w_turned : FnOk P w K mg base CX0 2 T.f_w_turned T.d_w_turned ["_law_feed_here", "_law_names_here"] (spTurned) := ok_turned T
  refine T.F_w_sayings.ok S_w_sayings (fun vs H Q E h => ?_) (fun cdv A outer s H vs Q E hr h => ?_)
  · obtain ⟨t, c, p, zs, ms, n, rfl, _⟩ := h
    rfl
  · obtain ⟨t, c, p, zs, ms, n, rfl, hp, l9, nd, m40, hT, hn, q⟩ := h
    refine ⟨_, (pss_cons (ps_set (i := 3) S_w_sayings.nd rfl (.inl rfl) (pe_call G_w_draw (hr.mono (by decide)) (by rfl) T.g_w_draw T.F_w_draw.kp T.b_w_draw .nil pass0 (pa_cons (pv 0) (pa_cons pe_int pa_nil))))
      (pss_cons (ps_set (i := 4) S_w_sayings.nd rfl (.inl rfl) (pe_call G_w_along (hr.mono (by decide)) (by rfl) T.g_w_along T.F_w_along.kp T.b_w_along .nil pass0 (pa_cons (pe_call G_w_turned hr (by rfl) T.g_w_turned T.F_w_turned.kp T.b_w_turned .nil pass0 (pa_cons (pv 0) (pa_cons (pv 1) pa_nil))) pa_nil)))
      (pss_cons (ps_set (i := 5) S_w_sayings.nd rfl (.inr rfl) (pe_ifExp (pt_cmpR op_eq (pv 3) pe_int (nomark _)) (pe_op op_cat (pv 4) (pe_lc (own := [("_law_pair", 9)]) (g := gName 9) (tt := tYes) (by rfl) S_w_sayings.nd (pi_list (pv 4)) (blkOk_by (own := [("_law_pair", 9)]) (N := N_w_sayings) (sc := defScope s_w_sayings) (by decide +kernel)) (fun _ _ _ _ _ => (pg_name (i := 9) S_w_sayings.nd rfl (.inl rfl))) (fun _ _ _ _ _ => pts_nil) (fun _ _ _ _ _ => (pe_revP (K1 := K) rfl (pv 9))))) (pe_callTy call_list_of (by rfl) T.m_list (by decide +kernel) (pa_cons (pv 4) pa_nil))))
      (pss_cons (ps_set (i := 6) S_w_sayings.nd rfl (.inl rfl) (pe_call G_w_draw (hr.mono (by decide)) (by rfl) T.g_w_draw T.F_w_draw.kp T.b_w_draw .nil pass0 (pa_cons (pv 0) (pa_cons (pe_op op_add (pe_callB (call_min2 (by rfl)) (by rfl) T.m_min (by decide +kernel) (pa_cons (pv 2) (pa_cons (pe_callB call_len_seq (by rfl) T.m_len PySem.boot_len (pa_cons (pv 5) pa_nil)) pa_nil))) pe_int) pa_nil))))
      (pss_cons (ps_setLc (i := 7) (own := [("_law_k", 10)]) (g := gName 10) (tt := tYes) (by rfl) S_w_sayings.nd rfl rfl (sw_true rfl rfl rfl (by decide +kernel)) (pi_range1 (by rfl) T.m_range (pa_cons (pv 6) pa_nil)) (blkOk_by (own := [("_law_k", 10)]) (N := N_w_sayings) (sc := defScope s_w_sayings) (by decide +kernel)) (fun _ _ _ _ _ => (pg_name (i := 10) S_w_sayings.nd rfl (.inl rfl))) (fun _ _ _ _ _ => pts_nil) (fun _ _ _ _ _ => (pe_bmK (K1 := K) rfl PySem.F.plainAttrs_list PySem.F.slot_list_pop PySem.F.type_list_pop mt_popAt (pv 5) (pa_cons (pe_call G_w_draw (hr.mono (by decide)) (by rfl) T.g_w_draw T.F_w_draw.kp T.b_w_draw .nil pass0 (pa_cons (pv 0) (pa_cons (pe_callB (r := rLenK K) call_lenK (by rfl) T.m_len PySem.boot_len (pa_cons (pv 5) pa_nil)) pa_nil))) pa_nil))))
      (pss_cons (ps_for PassesOwn.never rfl (pi_range1 (by rfl) T.m_range (pa_cons (pe_callB (call_max2 (by rfl)) (by rfl) T.m_max (by decide +kernel) (pa_cons pe_int (pa_cons (pe_op op_sub (pv 3) pe_int) pa_nil))) pa_nil)) (pg_name (i := 8) S_w_sayings.nd rfl (.inl rfl))
      (pss_one (ps_set (i := 7) S_w_sayings.nd rfl (.inl rfl) (pe_ifExp (pt_cmpR (op_neE (hu_of hr)) (pv 4) (pe_lst pa_nil) (nomark _)) (pe_op op_cat (pv 7) (pe_lst (pa_cons (pe_revP (K1 := K) rfl (pe_ix ix_list (pv 4) (pe_call G_w_draw (hr.mono (by decide)) (by rfl) T.g_w_draw T.F_w_draw.kp T.b_w_draw .nil pass0 (pa_cons (pv 0) (pa_cons (pe_callB call_len_seq (by rfl) T.m_len PySem.boot_len (pa_cons (pv 4) pa_nil)) pa_nil))) (fun _ _ => rfl))) pa_nil))) (pv 7)))))
      (pss_one (ps_ret (pe_callTy call_tuple_of (by rfl) T.m_tuple (by decide +kernel) (pa_cons (pe_callB (cr_sortS (by rfl) (un64 hr)) (by rfl) T.m_sorted (by decide +kernel) (pa_cons (pe_callTy (cr_setN (by rfl) (un64 hr)) (by rfl) T.m_set (by decide +kernel) (pa_cons (pv 7) pa_nil)) pa_nil)) pa_nil)))))))))), ?_⟩
    have pt : p ≠ t := fun z => by
      obtain ⟨ns, sp, re, ca, e1, _⟩ := hT
      rw [z, e1] at hp
      cases hp
    refine ⟨_, rfl, t, 4, n, c, rfl, by decide, by decide, hT, by omega, fun wy H1 w0 w1 hT1 hK1 => ?_⟩
    refine ⟨_, rfl, _, rfl, t, c, p, zs, n + 1, rfl, hK1 _ _ pt hp, l9, hT1, by omega, fun D ds H2 fD hD pm hT2 hK2 => ?_⟩
    have lds := pm.length_eq
    refine ⟨D, ds, rfl, hD, by omega, fun A1 ys H3 s3 fA hA nkA => ?_⟩
    have ndd : ds.Nodup := pm.nodup_iff.mpr nd
    have inA : ∀ x ∈ alongK ds ds.length, InP zs x := fun x hx => by
      obtain ⟨a1, a2, a3⟩ := along_rk ndd hx
      exact ⟨pm.mem_iff.mp a2, pm.mem_iff.mp a3, fun z => by rw [z] at a1; omega⟩
    have l81 : (alongK ds ds.length).length ≤ 81 := by have := along_len (zs := ds) (by omega) ds.length (Nat.le_refl _); omega
    generalize alongK ds ds.length = al at nkA inA l81
    have lA : ys.length = al.length := by have := nkA.length; rw [List.length_map] at this; exact this
    have k3 : Kp t H H3 := (hK1.trans hK2).trans (.of_same s3)
    have hT3 := hT2.same s3
    obtain ⟨At, Ac⟩ := hT2.ne fA
    have fA0 := kp_none (hK1.trans hK2) fA At
    clear hT2 hT1 hK1 hK2 s3 hD fD fA
    refine ⟨_, rfl, rfl, _, rfl, ite2 (fun e => ?_) (fun e => ?_)⟩
    · refine ⟨_, rfl, _, rfl, A1, rfl, ⟨_, .inl (.inl hA)⟩, fun G nG => ?_⟩
      refine lc_list (xs := ys) (fun j H' => ∃ us, H' G = some (.lst us) ∧ Same H3 H' ∧ NkAll H' us (((al.take j).map fun x => (x.2, x.1)).map sayK)) ⟨[], upd_same, same_upd nG, .nil⟩ (fun j H' hj h => by obtain ⟨_, _, k, _⟩ := h; exact .inl (.inl (k _ _ hA))) ?_ ?_
      · rintro j x H' hx ⟨us, hG, sG, nu⟩
        obtain ⟨kk, hkk, nx⟩ := nkA.get hx
        obtain ⟨y, hy, rfl⟩ : ∃ y, al[j]? = some y ∧ kk = sayK y := by
          rw [List.getElem?_map] at hkk
          cases e : al[j]? with
          | none => rw [e] at hkk; cases hkk
          | some y => rw [e] at hkk; exact ⟨y, rfl, (Option.some.inj hkk).symm⟩
        obtain ⟨ra, rfl, hra⟩ := say_nk nx
        have hj := (List.getElem?_eq_some_iff.mp hy).1
        have lu : us.length ≤ j := by have := nu.length; rw [List.length_map, List.length_map, List.length_take] at this; omega
        refine ⟨rfl, tYesT ⟨_, rfl, ra, _, _, rfl, .inl (.inl (sG _ _ hra)), fun c3 n3 => ?_⟩⟩
        have s3 := same_upd (o := .tup [.str y.2, .str y.1]) n3
        have hG3 := s3 _ _ hG
        have tG := tups_lst (o := .lst (us ++ [.ref c3])) hG3
        refine ⟨us, hG3, small1000 (by omega), us ++ [.ref c3], upd_same, same_fresh nG (sG.trans s3), ?_⟩
        rw [List.take_add_one, hy, List.map_append, List.map_append]
        exact ((nu.at (.same s3)).app (.cons (nk_say upd_same) .nil)).at tG
      · rintro H4 ⟨us, hG, sG, nu⟩
        rw [List.take_of_length_le (by omega)] at nu
        have lu : us.length = al.length := by have := nu.length; rw [List.length_map, List.length_map] at this; exact this
        refine ⟨A1, G, _, _, rfl, rfl, sG _ _ hA, hG, sz (by omega), fun S nS => ?_⟩
        have s5 := sG.trans (same_upd (o := .lst (ys ++ us)) nS)
        have hS := upd_same (H := H4) (a := S) (o := .lst (ys ++ us))
        have nkS : NkAll (upd H4 S (.lst (ys ++ us))) (ys ++ us) ((al ++ al.map fun x => (x.2, x.1)).map sayK) := by
          rw [List.map_append]
          exact ((nkA.at (.same sG)).app nu).at (.same (same_upd nS))
        have inS : ∀ x ∈ al ++ al.map (fun x => (x.2, x.1)), InP zs x := fun x hx => by
          rcases List.mem_append.mp hx with h | h
          · exact inA x h
          · obtain ⟨y, hy, rfl⟩ := List.mem_map.mp h
            obtain ⟨a1, a2, a3⟩ := inA y hy
            exact ⟨a2, a1, a3.symm⟩
        have lS : (al ++ al.map fun x => (x.2, x.1)).length ≤ 162 := by rw [List.length_append, List.length_map]; omega
        have fS : H3 S = none := by
          cases e : H3 S with
          | none => rfl
          | some o => rw [sG _ _ e] at nS; cases nS
        generalize upd H4 S (.lst (ys ++ us)) = H5 at s5 hS nkS ⊢
        generalize ys ++ us = ss at hS nkS
        generalize (al ++ al.map fun x => (x.2, x.1)) = sp at nkS inS lS
        have hA5 := s5 _ _ hA
        have hT5 := hT3.same s5
        have k5 := k3.trans (.of_same s5)
        obtain ⟨St, Sc⟩ := hT3.ne fS
        have fS0 := kp_none k3 fS St
        have SA : A1 ≠ S := ne_of_none hA fS
        have nkA5 := nkA.at (.same s5)
        have lS2 : ss.length = sp.length := by have := nkS.length; rw [List.length_map] at this; exact this
        refine ⟨_, rfl, _, rfl, _, rfl, S, _, rfl, .inl (.inl (.inl hS)), _, _, rfl, _, _, rfl, rfl, t, _, n + 1 + zs.length, c, rfl, by split <;> omega, by split <;> omega, hT5, by omega, fun v H6 v0 v1 hT6 hK6 => ?_⟩
        obtain ⟨mm, rfl⟩ : ∃ mm : Nat, v = (mm : Int) := ⟨v.toNat, by omega⟩
        have mb : mm ≤ ms ∧ mm ≤ sp.length := by split at v1 <;> omega
        have k6 := k5.trans hK6
        have t6 := tups_kp hT5 hK6
        have hA6 := hK6 _ _ At hA5
        have hS6 := hK6 _ _ St hS
        have nkA6 := nkA5.at t6
        have nkS6 := nkS.at t6
        refine ⟨_, rfl, mm, rfl, by omega, by omega, fun F nF => ?_⟩
        obtain ⟨f1, f2⟩ := hT6.ne nF
        have fF := kp_none k6 nF f1
        have SF : S ≠ F := ne_of_none hS6 nF
        have AF : A1 ≠ F := ne_of_none hA6 nF
        refine lc_range (lo := 0) (n := mm) (fun j Hy => ∃ (rs gs : List V) (rp gp : List (Str × Str)), Hy S = some (.lst rs) ∧ NkAll Hy rs (rp.map sayK) ∧ Hy F = some (.lst gs) ∧ NkAll Hy gs (gp.map sayK) ∧ (∀ x ∈ rp, x ∈ sp) ∧ (∀ x ∈ gp, x ∈ sp) ∧ rp.length + j = sp.length ∧ gp.length = j ∧ FeedC Hy t c (n + 11 + j) ∧ Kp t H Hy ∧ Hy A1 = some (.lst ys) ∧ NkAll Hy ys (al.map sayK)) ⟨ss, [], sp, [], same_upd nF _ _ hS6, nkS6.at (.same (same_upd nF)), upd_same, .nil, (fun x hx => hx), (fun x hx => by cases hx), rfl, rfl, (hT6.new nF).mono (by omega), k6.new nF, same_upd nF _ _ hA6, nkA6.at (.same (same_upd nF))⟩ ?_ ?_
        · rintro j Hy hj ⟨rs, gs, rp, gp, h1, nr, h2, ng, sr, sg', lr, lg, hTy, hKy, hAy, nAy⟩
          have lrs : rs.length = rp.length := by have := nr.length; rw [List.length_map] at this; exact this
          have lgs : gs.length = gp.length := by have := ng.length; rw [List.length_map] at this; exact this
          refine ⟨rfl, tYesT ⟨_, rfl, .inl ⟨rfl, _, .inl (.inl h1)⟩, _, rfl, _, rfl, S, _, rfl, .inl (.inl (.inl h1)), t, _, n + 11 + j, c, rfl, by omega, by omega, hTy, by omega, fun v H8 v0 v1 hT8 hK8 => ?_⟩⟩
          have g1 := hK8 _ _ St h1
          have g2 := hK8 _ _ f1 h2
          have gA := hK8 _ _ At hAy
          have t8 := tups_kp hTy hK8
          have vw : v.toNat < rs.length := by omega
          have vp : v.toNat < rp.length := by omega
          refine ⟨S, _, v, v.toNat, rs[v.toNat], rfl, rfl, g1, by omega, by omega, PyProof.Rows.seqIndex_at v0 (by omega), List.getElem?_eq_getElem vw, ?_⟩
          have k2 : upd H8 S (.lst (rs.eraseIdx v.toNat)) F = _ := (upd_ne SF.symm).trans g2
          have tAB := (t8.trans (tups_lst (o := .lst (rs.eraseIdx v.toNat)) g1)).trans (tups_lst (o := .lst (gs ++ [rs[v.toNat]])) k2)
          obtain ⟨kx, hkx, nx⟩ := nr.get (List.getElem?_eq_getElem vw)
          have ekx : kx = sayK rp[v.toNat] := by
            rw [List.getElem?_map, List.getElem?_eq_getElem vp] at hkx
            exact (Option.some.inj hkx).symm
          subst ekx
          refine ⟨gs, k2, small1000 (by omega), rs.eraseIdx v.toNat, gs ++ [rs[v.toNat]], rp.eraseIdx v.toNat, gp ++ [rp[v.toNat]], by rw [upd_ne SF, upd_same], by rw [← erase_map]; exact (nk_erase nr v.toNat).at tAB, upd_same, by rw [List.map_append]; exact (ng.app (.cons nx .nil)).at tAB, fun x hx => sr x (List.mem_of_mem_eraseIdx hx), fun x hx => ?_, by rw [List.length_eraseIdx_of_lt vp]; omega, by rw [List.length_append, lg]; rfl, (hT8.updO St Sc).updO f1 f2, kp_fresh fF (kp_fresh fS0 (hKy.trans hK8)), by rw [upd_ne AF, upd_ne SA]; exact gA, nAy.at tAB⟩
          rcases List.mem_append.mp hx with h | h
          · exact sg' x h
          · rw [List.mem_singleton.mp h]; exact sr _ (List.getElem_mem vp)
        · rintro H8 ⟨rs, gs, rp, gp, h1, nr, h2, ng, sr, sg', lr, lg, hT8, hK8, hA8, nA8⟩
          obtain ⟨kk, hkk, k2⟩ : ∃ kk : Nat, (if wy - 1 > 0 then wy - 1 else 0) = (kk : Int) ∧ kk ≤ 2 := by
            refine ⟨(wy - 1).toNat, ?_, by omega⟩
            split <;> omega
          have inG : ∀ x ∈ gp, InP zs x := fun x hx => inS x (sg' x hx)
          refine ⟨_, rfl, _, _, rfl, rfl, _, _, rfl, (kk : Int), congrArg (fun x => [V.int x]) hkk, by omega, by omega, ?_⟩
          refine for_range (lo := 0) (n := kk) (fun i σ Hx => ∃ (y8 y9 y10 : Option V) (fp : Addr) (gs : List V) (gp : List (Str × Str)), σ = [some (.ref t), some (.ref p), some (.int ms), some (.int wy), some (.ref A1), some (.ref S), some (.int mm), some (.ref fp), y8, y9, y10] ∧ Hx fp = some (.lst gs) ∧ NkAll Hx gs (gp.map sayK) ∧ (∀ x ∈ gp, InP zs x) ∧ gp.length ≤ mm + i ∧ FeedC Hx t c (n + 11 + mm + i) ∧ Kp t H Hx ∧ Hx A1 = some (.lst ys) ∧ NkAll Hx ys (al.map sayK)) ⟨_, _, _, F, gs, gp, rfl, h2, ng, inG, by omega, hT8, hK8, hA8, nA8⟩ ?_ ?_
          · rintro i σ Hx hi ⟨y8, y9, y10, fp, gs, gp, rfl, hf, nf, inF, lf, hTx, hKx, hAx, nAx⟩
            refine ⟨_, rfl, sz (by show 0 ≤ 1000; decide), fun Z nZ => ?_⟩
            have sZ := same_upd (o := .lst []) nZ
            have hfZ := sZ _ _ hf
            have hAZ := sZ _ _ hAx
            have nfZ := nf.at (.same sZ)
            have nAZ := nAx.at (.same sZ)
            have hTZ := hTx.same sZ
            have hKZ := hKx.trans (.of_same sZ)
            have hZ := upd_same (H := Hx) (a := Z) (o := .lst [])
            generalize upd Hx Z (.lst []) = Hz at hfZ hAZ nfZ nAZ hTZ hKZ hZ ⊢
            refine ⟨A1, Z, _, rfl, rfl, .inl (.inl hAZ), .inl (.inl hZ), _, rfl, ite2 (fun e => ?_) (fun e => ?_)⟩
            · have ne : 0 < ys.length := by
                cases ys with
                | nil => cases e
                | cons => exact Nat.succ_pos _
              refine ⟨_, rfl, _, rfl, _, rfl, _, rfl, A1, _, rfl, .inl (.inl (.inl hAZ)), t, _, n + 11 + mm + i, c, rfl, by omega, by omega, hTZ, by omega, fun v H9 v0 v1 hT9 hK9 => ?_⟩
              have t9 := tups_kp hTZ hK9
              have hA9 := hK9 _ _ At hAZ
              have nA9 := nAZ.at t9
              have ft : fp ≠ t := fun z => by
                obtain ⟨ns, sp, re, ca, e1, _⟩ := hTZ
                rw [z, e1] at hfZ
                have e5 := HO.lst.inj (Option.some.inj hfZ)
                have e6 : gs = fd4 c sp re ca := e5.symm
                have l6 := nfZ.get (i := 1) (x := .int sp) (by rw [e6]; rfl)
                obtain ⟨k6, hk6, nk6⟩ := l6
                rw [List.getElem?_map] at hk6
                cases hq : gp[1]? with
                | none => rw [hq] at hk6; cases hk6
                | some y =>
                  rw [hq] at hk6
                  have := Option.some.inj hk6
                  rw [← this] at nk6
                  obtain ⟨_, e7, _⟩ := say_nk nk6
                  cases e7
              have hf9 := hK9 _ _ ft hfZ
              have nf9 := nfZ.at t9
              have vw : v.toNat < ys.length := by omega
              have vp : v.toNat < al.length := by omega
              obtain ⟨kx, hkx, nx⟩ := nA9.get (List.getElem?_eq_getElem vw)
              have ekx : kx = sayK al[v.toNat] := by
                rw [List.getElem?_map, List.getElem?_eq_getElem vp] at hkx
                exact (Option.some.inj hkx).symm
              subst ekx
              obtain ⟨ra, era, hra⟩ := say_nk nx
              have inx := inA _ (List.getElem_mem vp)
              generalize al[v.toNat] = y at hra inx
              refine ⟨A1, _, v, ys[v.toNat], rfl, rfl, .inl (.inl hA9), atI_int v0 (List.getElem?_eq_getElem vw), ?_⟩
              rw [era]
              refine ⟨ra, _, _, rfl, .inl (.inl hra), fun b nb => ?_⟩
              have sb := same_upd (o := .tup [.str y.2, .str y.1]) nb
              have hb := upd_same (H := H9) (a := b) (o := .tup [.str y.2, .str y.1])
              have hfb := sb _ _ hf9
              have hAb := sb _ _ hA9
              have nfb := nf9.at (.same sb)
              have nAb := nA9.at (.same sb)
              have hTb := hT9.same sb
              have hKb := (hKZ.trans hK9).trans (.of_same sb)
              generalize upd H9 b (.tup [.str y.2, .str y.1]) = Hb at hb hfb hAb nfb nAb hTb hKb ⊢
              refine ⟨sz (by show 1 ≤ 1000; decide), fun E1 nE => ?_⟩
              have sE := same_upd (o := .lst [.ref b]) nE
              have lgs : gs.length = gp.length := by have := nf.length; rw [List.length_map] at this; exact this
              refine ⟨fp, E1, _, _, rfl, rfl, sE _ _ hfb, upd_same, sz (by show gs.length + 1 ≤ 1000; omega), fun fq nq => ?_⟩
              have sq := same_upd (o := .lst (gs ++ [.ref b])) nq
              have s2 := sE.trans sq
              refine ⟨_, _, _, fq, gs ++ [.ref b], gp ++ [(y.2, y.1)], rfl, upd_same, ?_, fun x hx => ?_, by rw [List.length_append]; show _ + 1 ≤ _; omega, (hTb.same s2).mono (by omega), hKb.trans (.of_same s2), s2 _ _ hAb, nAb.at (.same s2)⟩
              · rw [List.map_append]
                exact (nfb.app (.cons (nk_say hb) .nil)).at (.same s2)
              · rcases List.mem_append.mp hx with h | h
                · exact inF x h
                · rw [List.mem_singleton.mp h]; exact ⟨inx.2.1, inx.1, inx.2.2.symm⟩
            · exact ⟨_, rfl, _, _, _, fp, gs, gp, rfl, hfZ, nfZ, inF, by omega, hTZ.mono (by omega), hKZ, hAZ, nAZ⟩
          · rintro σ Hx ⟨y8, y9, y10, fp, gs, gp, rfl, hf, nf, inF, lf, hTx, hKx, hAx, nAx⟩
            obtain ⟨es, rfl, ek⟩ := ents_say nf
            rw [ek] at nf
            have le : es.length = gp.length := by have := congrArg List.length ek; rw [List.length_map, List.length_map] at this; exact this.symm
            have nke : ∀ x ∈ es, Nk Hx (.ref x.1) x.2 := ents_nk nf
            have sye : ∀ x ∈ es, ∃ q ∈ gp, x.2 = sayK q := fun x hx => by
              have : x.2 ∈ gp.map sayK := by rw [ek]; exact List.mem_map_of_mem hx
              obtain ⟨q, hq, e⟩ := List.mem_map.mp this
              exact ⟨q, hq, e.symm⟩
            refine ⟨_, rfl, fp, es, rfl, .inl (.inl hf), fun x hx => ⟨nke x hx, by obtain ⟨q, _, e⟩ := sye x hx; rw [e]; exact say_depth q⟩, by omega, fun S2 M nS2 m1 m2 ndM => ?_⟩
            have t3 := same_upd (o := My.SetO w S2 M) nS2
            refine ⟨S2, M, rfl, upd_same, fun x hx => ⟨(nke x (m1 x hx)).at (.same t3), by obtain ⟨q, _, e⟩ := sye x (m1 x hx); rw [e]; exact say_depth q⟩, say_sbl (fun k hk => by obtain ⟨x, hx, rfl⟩ := List.mem_map.mp hk; obtain ⟨q, _, e⟩ := sye x (m1 x hx); exact ⟨q, e⟩), fun M' b pm2 nb => ?_⟩
            have mm2 : ∀ x ∈ M', x ∈ M := fun x hx => pm2.mem_iff.mp hx
            have t4 := same_upd (o := .lst ((srt (M'.map fun q => V.ref q.1) (M'.map (·.2))).map Prod.fst)) nb
            refine ⟨b, _, rfl, .inl ⟨.inl (.inl upd_same), fun r nr => ?_⟩⟩
            have t5 := same_upd (o := .tup ((srt (M'.map fun q => V.ref q.1) (M'.map (·.2))).map Prod.fst)) nr
            have sA := t3.trans (t4.trans t5)
            obtain ⟨ls2, k1, k2', k3', k4⟩ := srt_ok (M := M') (fun x hx => (nke x (m1 x (mm2 x hx))).at (.same sA)) (fun x hx => by obtain ⟨q, _, e⟩ := sye x (m1 x (mm2 x hx)); exact ⟨q, e⟩) ((pm2.map (·.2)).nodup_iff.mpr ndM)
            have each : ∀ k ∈ ls2, ∃ q ∈ gp, k = sayK q := fun k hk => by
              have := (k3' k).mp hk
              obtain ⟨x, hx, rfl⟩ := List.mem_map.mp this
              exact sye x (m1 x (mm2 x hx))
            obtain ⟨ps, eps, inp⟩ := says_of each
            subst eps
            refine q r _ ps _ upd_same k1 k2' (fun x hx => inF x (inp x hx)) ?_ ((hTx.same sA).mono (by omega)) (hKx.trans (.of_same sA))
            have lM : M.length ≤ es.length := by
              have := nodup_len (l := M.map (·.2)) (m := es.map (·.2)) ndM fun k hk => by obtain ⟨x, hx, rfl⟩ := List.mem_map.mp hk; exact List.mem_map_of_mem (m1 x hx)
              rwa [List.length_map, List.length_map] at this
            have l1 : ps.length = M'.length := by rw [← k4, List.length_map]
            rw [l1, pm2.length_eq]
            omega
    · refine ⟨_, rfl, A1, _, rfl, .inl (.inl (.inl hA)), fun S nS => ?_⟩
      have s5 := same_upd (o := .lst ys) nS
      have hS := upd_same (H := H3) (a := S) (o := .lst ys)
      have nkS := nkA.at (.same s5)
      have inS := inA
      have lS : al.length ≤ 162 := by omega
      have fS := nS
      generalize upd H3 S (.lst ys) = H5 at s5 hS nkS ⊢
      obtain ⟨ss, ess⟩ : ∃ ss, ss = ys := ⟨_, rfl⟩
      obtain ⟨sp, esp⟩ : ∃ sp, sp = al := ⟨_, rfl⟩
      rw [← ess] at hS nkS
      rw [← esp] at nkS inS lS
      have hA5 := s5 _ _ hA
      have hT5 := hT3.same s5
      have k5 := k3.trans (.of_same s5)
      obtain ⟨St, Sc⟩ := hT3.ne fS
      have fS0 := kp_none k3 fS St
      have SA : A1 ≠ S := ne_of_none hA fS
      have nkA5 := nkA.at (.same s5)
      have lS2 : ss.length = sp.length := by have := nkS.length; rw [List.length_map] at this; exact this
      refine ⟨_, rfl, _, rfl, _, rfl, S, _, rfl, .inl (.inl (.inl hS)), _, _, rfl, _, _, rfl, rfl, t, _, n + 1 + zs.length, c, rfl, by split <;> omega, by split <;> omega, hT5, by omega, fun v H6 v0 v1 hT6 hK6 => ?_⟩
      obtain ⟨mm, rfl⟩ : ∃ mm : Nat, v = (mm : Int) := ⟨v.toNat, by omega⟩
      have mb : mm ≤ ms ∧ mm ≤ sp.length := by split at v1 <;> omega
      have k6 := k5.trans hK6
      have t6 := tups_kp hT5 hK6
      have hA6 := hK6 _ _ At hA5
      have hS6 := hK6 _ _ St hS
      have nkA6 := nkA5.at t6
      have nkS6 := nkS.at t6
      refine ⟨_, rfl, mm, rfl, by omega, by omega, fun F nF => ?_⟩
      obtain ⟨f1, f2⟩ := hT6.ne nF
      have fF := kp_none k6 nF f1
      have SF : S ≠ F := ne_of_none hS6 nF
      have AF : A1 ≠ F := ne_of_none hA6 nF
      refine lc_range (lo := 0) (n := mm) (fun j Hy => ∃ (rs gs : List V) (rp gp : List (Str × Str)), Hy S = some (.lst rs) ∧ NkAll Hy rs (rp.map sayK) ∧ Hy F = some (.lst gs) ∧ NkAll Hy gs (gp.map sayK) ∧ (∀ x ∈ rp, x ∈ sp) ∧ (∀ x ∈ gp, x ∈ sp) ∧ rp.length + j = sp.length ∧ gp.length = j ∧ FeedC Hy t c (n + 11 + j) ∧ Kp t H Hy ∧ Hy A1 = some (.lst ys) ∧ NkAll Hy ys (al.map sayK)) ⟨ss, [], sp, [], same_upd nF _ _ hS6, nkS6.at (.same (same_upd nF)), upd_same, .nil, (fun x hx => hx), (fun x hx => by cases hx), rfl, rfl, (hT6.new nF).mono (by omega), k6.new nF, same_upd nF _ _ hA6, nkA6.at (.same (same_upd nF))⟩ ?_ ?_
      · rintro j Hy hj ⟨rs, gs, rp, gp, h1, nr, h2, ng, sr, sg', lr, lg, hTy, hKy, hAy, nAy⟩
        have lrs : rs.length = rp.length := by have := nr.length; rw [List.length_map] at this; exact this
        have lgs : gs.length = gp.length := by have := ng.length; rw [List.length_map] at this; exact this
        refine ⟨rfl, tYesT ⟨_, rfl, .inl ⟨rfl, _, .inl (.inl h1)⟩, _, rfl, _, rfl, S, _, rfl, .inl (.inl (.inl h1)), t, _, n + 11 + j, c, rfl, by omega, by omega, hTy, by omega, fun v H8 v0 v1 hT8 hK8 => ?_⟩⟩
        have g1 := hK8 _ _ St h1
        have g2 := hK8 _ _ f1 h2
        have gA := hK8 _ _ At hAy
        have t8 := tups_kp hTy hK8
        have vw : v.toNat < rs.length := by omega
        have vp : v.toNat < rp.length := by omega
        refine ⟨S, _, v, v.toNat, rs[v.toNat], rfl, rfl, g1, by omega, by omega, PyProof.Rows.seqIndex_at v0 (by omega), List.getElem?_eq_getElem vw, ?_⟩
        have k2 : upd H8 S (.lst (rs.eraseIdx v.toNat)) F = _ := (upd_ne SF.symm).trans g2
        have tAB := (t8.trans (tups_lst (o := .lst (rs.eraseIdx v.toNat)) g1)).trans (tups_lst (o := .lst (gs ++ [rs[v.toNat]])) k2)
        obtain ⟨kx, hkx, nx⟩ := nr.get (List.getElem?_eq_getElem vw)
        have ekx : kx = sayK rp[v.toNat] := by
          rw [List.getElem?_map, List.getElem?_eq_getElem vp] at hkx
          exact (Option.some.inj hkx).symm
        subst ekx
        refine ⟨gs, k2, small1000 (by omega), rs.eraseIdx v.toNat, gs ++ [rs[v.toNat]], rp.eraseIdx v.toNat, gp ++ [rp[v.toNat]], by rw [upd_ne SF, upd_same], by rw [← erase_map]; exact (nk_erase nr v.toNat).at tAB, upd_same, by rw [List.map_append]; exact (ng.app (.cons nx .nil)).at tAB, fun x hx => sr x (List.mem_of_mem_eraseIdx hx), fun x hx => ?_, by rw [List.length_eraseIdx_of_lt vp]; omega, by rw [List.length_append, lg]; rfl, (hT8.updO St Sc).updO f1 f2, kp_fresh fF (kp_fresh fS0 (hKy.trans hK8)), by rw [upd_ne AF, upd_ne SA]; exact gA, nAy.at tAB⟩
        rcases List.mem_append.mp hx with h | h
        · exact sg' x h
        · rw [List.mem_singleton.mp h]; exact sr _ (List.getElem_mem vp)
      · rintro H8 ⟨rs, gs, rp, gp, h1, nr, h2, ng, sr, sg', lr, lg, hT8, hK8, hA8, nA8⟩
        obtain ⟨kk, hkk, k2⟩ : ∃ kk : Nat, (if wy - 1 > 0 then wy - 1 else 0) = (kk : Int) ∧ kk ≤ 2 := by
          refine ⟨(wy - 1).toNat, ?_, by omega⟩
          split <;> omega
        have inG : ∀ x ∈ gp, InP zs x := fun x hx => inS x (sg' x hx)
        refine ⟨_, rfl, _, _, rfl, rfl, _, _, rfl, (kk : Int), congrArg (fun x => [V.int x]) hkk, by omega, by omega, ?_⟩
        refine for_range (lo := 0) (n := kk) (fun i σ Hx => ∃ (y8 y9 y10 : Option V) (fp : Addr) (gs : List V) (gp : List (Str × Str)), σ = [some (.ref t), some (.ref p), some (.int ms), some (.int wy), some (.ref A1), some (.ref S), some (.int mm), some (.ref fp), y8, y9, y10] ∧ Hx fp = some (.lst gs) ∧ NkAll Hx gs (gp.map sayK) ∧ (∀ x ∈ gp, InP zs x) ∧ gp.length ≤ mm + i ∧ FeedC Hx t c (n + 11 + mm + i) ∧ Kp t H Hx ∧ Hx A1 = some (.lst ys) ∧ NkAll Hx ys (al.map sayK)) ⟨_, _, _, F, gs, gp, rfl, h2, ng, inG, by omega, hT8, hK8, hA8, nA8⟩ ?_ ?_
        · rintro i σ Hx hi ⟨y8, y9, y10, fp, gs, gp, rfl, hf, nf, inF, lf, hTx, hKx, hAx, nAx⟩
          refine ⟨_, rfl, sz (by show 0 ≤ 1000; decide), fun Z nZ => ?_⟩
          have sZ := same_upd (o := .lst []) nZ
          have hfZ := sZ _ _ hf
          have hAZ := sZ _ _ hAx
          have nfZ := nf.at (.same sZ)
          have nAZ := nAx.at (.same sZ)
          have hTZ := hTx.same sZ
          have hKZ := hKx.trans (.of_same sZ)
          have hZ := upd_same (H := Hx) (a := Z) (o := .lst [])
          generalize upd Hx Z (.lst []) = Hz at hfZ hAZ nfZ nAZ hTZ hKZ hZ ⊢
          refine ⟨A1, Z, _, rfl, rfl, .inl (.inl hAZ), .inl (.inl hZ), _, rfl, ite2 (fun e => ?_) (fun e => ?_)⟩
          · have ne : 0 < ys.length := by
              cases ys with
              | nil => cases e
              | cons => exact Nat.succ_pos _
            refine ⟨_, rfl, _, rfl, _, rfl, _, rfl, A1, _, rfl, .inl (.inl (.inl hAZ)), t, _, n + 11 + mm + i, c, rfl, by omega, by omega, hTZ, by omega, fun v H9 v0 v1 hT9 hK9 => ?_⟩
            have t9 := tups_kp hTZ hK9
            have hA9 := hK9 _ _ At hAZ
            have nA9 := nAZ.at t9
            have ft : fp ≠ t := fun z => by
              obtain ⟨ns, sp, re, ca, e1, _⟩ := hTZ
              rw [z, e1] at hfZ
              have e5 := HO.lst.inj (Option.some.inj hfZ)
              have e6 : gs = fd4 c sp re ca := e5.symm
              have l6 := nfZ.get (i := 1) (x := .int sp) (by rw [e6]; rfl)
              obtain ⟨k6, hk6, nk6⟩ := l6
              rw [List.getElem?_map] at hk6
              cases hq : gp[1]? with
              | none => rw [hq] at hk6; cases hk6
              | some y =>
                rw [hq] at hk6
                have := Option.some.inj hk6
                rw [← this] at nk6
                obtain ⟨_, e7, _⟩ := say_nk nk6
                cases e7
            have hf9 := hK9 _ _ ft hfZ
            have nf9 := nfZ.at t9
            have vw : v.toNat < ys.length := by omega
            have vp : v.toNat < al.length := by omega
            obtain ⟨kx, hkx, nx⟩ := nA9.get (List.getElem?_eq_getElem vw)
            have ekx : kx = sayK al[v.toNat] := by
              rw [List.getElem?_map, List.getElem?_eq_getElem vp] at hkx
              exact (Option.some.inj hkx).symm
            subst ekx
            obtain ⟨ra, era, hra⟩ := say_nk nx
            have inx := inA _ (List.getElem_mem vp)
            generalize al[v.toNat] = y at hra inx
            refine ⟨A1, _, v, ys[v.toNat], rfl, rfl, .inl (.inl hA9), atI_int v0 (List.getElem?_eq_getElem vw), ?_⟩
            rw [era]
            refine ⟨ra, _, _, rfl, .inl (.inl hra), fun b nb => ?_⟩
            have sb := same_upd (o := .tup [.str y.2, .str y.1]) nb
            have hb := upd_same (H := H9) (a := b) (o := .tup [.str y.2, .str y.1])
            have hfb := sb _ _ hf9
            have hAb := sb _ _ hA9
            have nfb := nf9.at (.same sb)
            have nAb := nA9.at (.same sb)
            have hTb := hT9.same sb
            have hKb := (hKZ.trans hK9).trans (.of_same sb)
            generalize upd H9 b (.tup [.str y.2, .str y.1]) = Hb at hb hfb hAb nfb nAb hTb hKb ⊢
            refine ⟨sz (by show 1 ≤ 1000; decide), fun E1 nE => ?_⟩
            have sE := same_upd (o := .lst [.ref b]) nE
            have lgs : gs.length = gp.length := by have := nf.length; rw [List.length_map] at this; exact this
            refine ⟨fp, E1, _, _, rfl, rfl, sE _ _ hfb, upd_same, sz (by show gs.length + 1 ≤ 1000; omega), fun fq nq => ?_⟩
            have sq := same_upd (o := .lst (gs ++ [.ref b])) nq
            have s2 := sE.trans sq
            refine ⟨_, _, _, fq, gs ++ [.ref b], gp ++ [(y.2, y.1)], rfl, upd_same, ?_, fun x hx => ?_, by rw [List.length_append]; show _ + 1 ≤ _; omega, (hTb.same s2).mono (by omega), hKb.trans (.of_same s2), s2 _ _ hAb, nAb.at (.same s2)⟩
            · rw [List.map_append]
              exact (nfb.app (.cons (nk_say hb) .nil)).at (.same s2)
            · rcases List.mem_append.mp hx with h | h
              · exact inF x h
              · rw [List.mem_singleton.mp h]; exact ⟨inx.2.1, inx.1, inx.2.2.symm⟩
          · exact ⟨_, rfl, _, _, _, fp, gs, gp, rfl, hfZ, nfZ, inF, by omega, hTZ.mono (by omega), hKZ, hAZ, nAZ⟩
        · rintro σ Hx ⟨y8, y9, y10, fp, gs, gp, rfl, hf, nf, inF, lf, hTx, hKx, hAx, nAx⟩
          obtain ⟨es, rfl, ek⟩ := ents_say nf
          rw [ek] at nf
          have le : es.length = gp.length := by have := congrArg List.length ek; rw [List.length_map, List.length_map] at this; exact this.symm
          have nke : ∀ x ∈ es, Nk Hx (.ref x.1) x.2 := ents_nk nf
          have sye : ∀ x ∈ es, ∃ q ∈ gp, x.2 = sayK q := fun x hx => by
            have : x.2 ∈ gp.map sayK := by rw [ek]; exact List.mem_map_of_mem hx
            obtain ⟨q, hq, e⟩ := List.mem_map.mp this
            exact ⟨q, hq, e.symm⟩
          refine ⟨_, rfl, fp, es, rfl, .inl (.inl hf), fun x hx => ⟨nke x hx, by obtain ⟨q, _, e⟩ := sye x hx; rw [e]; exact say_depth q⟩, by omega, fun S2 M nS2 m1 m2 ndM => ?_⟩
          have t3 := same_upd (o := My.SetO w S2 M) nS2
          refine ⟨S2, M, rfl, upd_same, fun x hx => ⟨(nke x (m1 x hx)).at (.same t3), by obtain ⟨q, _, e⟩ := sye x (m1 x hx); rw [e]; exact say_depth q⟩, say_sbl (fun k hk => by obtain ⟨x, hx, rfl⟩ := List.mem_map.mp hk; obtain ⟨q, _, e⟩ := sye x (m1 x hx); exact ⟨q, e⟩), fun M' b pm2 nb => ?_⟩
          have mm2 : ∀ x ∈ M', x ∈ M := fun x hx => pm2.mem_iff.mp hx
          have t4 := same_upd (o := .lst ((srt (M'.map fun q => V.ref q.1) (M'.map (·.2))).map Prod.fst)) nb
          refine ⟨b, _, rfl, .inl ⟨.inl (.inl upd_same), fun r nr => ?_⟩⟩
          have t5 := same_upd (o := .tup ((srt (M'.map fun q => V.ref q.1) (M'.map (·.2))).map Prod.fst)) nr
          have sA := t3.trans (t4.trans t5)
          obtain ⟨ls2, k1, k2', k3', k4⟩ := srt_ok (M := M') (fun x hx => (nke x (m1 x (mm2 x hx))).at (.same sA)) (fun x hx => by obtain ⟨q, _, e⟩ := sye x (m1 x (mm2 x hx)); exact ⟨q, e⟩) ((pm2.map (·.2)).nodup_iff.mpr ndM)
          have each : ∀ k ∈ ls2, ∃ q ∈ gp, k = sayK q := fun k hk => by
            have := (k3' k).mp hk
            obtain ⟨x, hx, rfl⟩ := List.mem_map.mp this
            exact sye x (m1 x (mm2 x hx))
          obtain ⟨ps, eps, inp⟩ := says_of each
          subst eps
          refine q r _ ps _ upd_same k1 k2' (fun x hx => inF x (inp x hx)) ?_ ((hTx.same sA).mono (by omega)) (hKx.trans (.of_same sA))
          have lM : M.length ≤ es.length := by
            have := nodup_len (l := M.map (·.2)) (m := es.map (·.2)) ndM fun k hk => by obtain ⟨x, hx, rfl⟩ := List.mem_map.mp hk; exact List.mem_map_of_mem (m1 x hx)
            rwa [List.length_map, List.length_map] at this
          have l1 : ps.length = M'.length := by rw [← k4, List.length_map]
          rw [l1, pm2.length_eq]
          omega
end
end L53

set_option Elab.async false
set_option linter.all false
set_option maxRecDepth 100000
set_option maxHeartbeats 4000000
/-! Things of any kind: None, truths, numbers, texts, lists, tuples, dicts of none, nested. t is the feed's own list: no thing is it. -/
namespace My
open PySem PySem.Spec PyProof.Rows L2
mutual
inductive Dq (fz : Bool) (t : Addr) (H : Hp) : V → PyData → Prop
  | non : Dq fz t H .non .none
  | bl (b : Bool) : Dq fz t H (.bl b) (.bool b)
  | int (i : Int) : Dq fz t H (.int i) (.int i)
  | str (x : Str) : Dq fz t H (.str x) (.str x)
  | lst {a : Addr} {xs : List V} {ds : List PyData} : a ≠ t → H a = some (.lst xs) → DqAll fz t H xs ds → Dq fz t H (.ref a) (.list ds)
  | tup {a : Addr} {xs : List V} {ds : List PyData} : a ≠ t → H a = some (.tup xs) → DqAll fz t H xs ds → Dq fz t H (.ref a) (.tuple ds)
  | frz {a : Addr} {o : Obj} {xs : List V} {ds : List PyData} : fz = true → a ≠ t → H a = some (.frz o (.tup xs)) → DqAll fz t H xs ds → Dq fz t H (.ref a) (.tuple ds)
  | dct {a : Addr} : a ≠ t → H a = some (.dK []) → Dq fz t H (.ref a) (.dict [])
inductive DqAll (fz : Bool) (t : Addr) (H : Hp) : List V → List PyData → Prop
  | nil : DqAll fz t H [] []
  | cons {v : V} {vs : List V} {d : PyData} {ds : List PyData} : Dq fz t H v d → DqAll fz t H vs ds → DqAll fz t H (v :: vs) (d :: ds)
end
section
variable {fz : Bool} {t : Addr} {H H' : Hp}
mutual
theorem Dq.keep (k : ∀ b o, b ≠ t → (∀ ps, o ≠ .tbl ps) → H b = some o → H' b = some o) : ∀ {d : PyData} {v : V}, Dq fz t H v d → Dq fz t H' v d
  | .none, _, .non => .non
  | .bool _, _, .bl b => .bl b
  | .int _, _, .int i => .int i
  | .str _, _, .str x => .str x
  | .list _, _, .lst n e h => .lst n (k _ _ n (fun ps z => by cases z) e) (DqAll.keep k h)
  | .tuple _, _, .tup n e h => .tup n (k _ _ n (fun ps z => by cases z) e) (DqAll.keep k h)
  | .tuple _, _, .frz fn n e h => .frz fn n (k _ _ n (fun ps z => by cases z) e) (DqAll.keep k h)
  | .dict _, _, .dct n e => .dct n (k _ _ n (fun ps z => by cases z) e)
theorem DqAll.keep (k : ∀ b o, b ≠ t → (∀ ps, o ≠ .tbl ps) → H b = some o → H' b = some o) : ∀ {ds : List PyData} {vs : List V}, DqAll fz t H vs ds → DqAll fz t H' vs ds
  | [], _, .nil => .nil
  | _ :: _, _, .cons a h => .cons (Dq.keep k a) (DqAll.keep k h)
end
theorem Dq.same {v : V} {d : PyData} (h : Dq fz t H v d) (s : Same H H') : Dq fz t H' v d := h.keep fun b o _ _ e => s b o e
theorem Dq.kp {v : V} {d : PyData} (h : Dq fz t H v d) (s : Kp t H H') : Dq fz t H' v d := h.keep fun b o n _ e => s b o n e
theorem DqAll.same {vs : List V} {ds : List PyData} (h : DqAll fz t H vs ds) (s : Same H H') : DqAll fz t H' vs ds := h.keep fun b o _ _ e => s b o e
theorem DqAll.kp {vs : List V} {ds : List PyData} (h : DqAll fz t H vs ds) (s : Kp t H H') : DqAll fz t H' vs ds := h.keep fun b o n _ e => s b o n e
theorem DqAll.length : ∀ {ds : List PyData} {vs : List V}, DqAll fz t H vs ds → vs.length = ds.length
  | [], _, .nil => rfl
  | _ :: _, _, .cons _ h => congrArg Nat.succ (DqAll.length h)
theorem DqAll.get : ∀ {ds : List PyData} {vs : List V} {i : Nat} {v : V}, DqAll fz t H vs ds → vs[i]? = some v → ∃ d, ds[i]? = some d ∧ Dq fz t H v d
  | [], _, _, _, h, e => by cases h; cases e
  | _ :: _, _, 0, _, .cons a _, e => by cases e; exact ⟨_, rfl, a⟩
  | _ :: _, _, i + 1, _, .cons _ h, e => DqAll.get (i := i) h e
theorem DqAll.app : ∀ {ds es : List PyData} {vs us : List V}, DqAll fz t H vs ds → DqAll fz t H us es → DqAll fz t H (vs ++ us) (ds ++ es)
  | [], _, _, _, .nil, k => k
  | _ :: _, _, _, _, .cons a h, k => .cons a (h.app k)
theorem DqAll.drop : ∀ {ds : List PyData} {vs : List V}, DqAll fz t H vs ds → ∀ i : Nat, DqAll fz t H (vs.drop i) (ds.drop i)
  | _, _, h, 0 => h
  | _, _, .nil, _ + 1 => .nil
  | _, _, .cons _ h, i + 1 => DqAll.drop h i
theorem DqAll.take : ∀ {ds : List PyData} {vs : List V}, DqAll fz t H vs ds → ∀ i : Nat, DqAll fz t H (vs.take i) (ds.take i)
  | _, _, _, 0 => by rw [List.take_zero, List.take_zero]; exact .nil
  | _, _, .nil, _ + 1 => .nil
  | _, _, .cons a h, i + 1 => .cons a (DqAll.take h i)
theorem DqAll.rev : ∀ {ds : List PyData} {vs : List V}, DqAll fz t H vs ds → DqAll fz t H vs.reverse ds.reverse
  | _, _, .nil => .nil
  | _, _, .cons a h => by
    rw [List.reverse_cons, List.reverse_cons]
    exact (DqAll.rev h).app (.cons a .nil)
theorem dq_texts : ∀ zs : List Str, DqAll fz t H (zs.map V.str) (zs.map PyData.str)
  | [] => .nil
  | _ :: zs => .cons (.str _) (dq_texts zs)
theorem DqAll.mem {v : V} : ∀ {ds : List PyData} {vs : List V}, DqAll fz t H vs ds → v ∈ vs → ∃ d ∈ ds, Dq fz t H v d
  | [], _, h, m => by cases h; cases m
  | _ :: _, _, .cons a h, m => by
    rcases List.mem_cons.mp m with rfl | m
    · exact ⟨_, .head _, a⟩
    · obtain ⟨d, hd, q⟩ := DqAll.mem h m
      exact ⟨d, .tail _ hd, q⟩
theorem DqAll.of {vs : List V} (h : ∀ v ∈ vs, ∃ d, Dq fz t H v d) : ∃ ds, DqAll fz t H vs ds := by
  induction vs with
  | nil => exact ⟨[], .nil⟩
  | cons v vs ih =>
    obtain ⟨ds, q⟩ := ih fun u hu => h u (.tail _ hu)
    obtain ⟨d, p⟩ := h v (.head _)
    exact ⟨d :: ds, .cons p q⟩
end
/-! ### repr -/
section
variable {X : Cx} {pins : List (Addr × Obj)} {σ : L2.St} {H : Hp} {s : Shared} {fz : Bool} {t : Addr}
/-- the heap's own objects behind a thing's address -/
theorem dq_list {a : Addr} {xs : List V} (I : Inv X pins σ H s) (e : H a = some (.lst xs)) : ∃ (o : Obj) (us : List Value) (n : Nat), s.heap.get? a = some o ∧ o.cls = .type "list" ∧ o.data = .seq us.toArray n ∧ Vals xs us := by
  obtain ⟨us, rv, ⟨o, n, ho, hc, _, hd⟩, _⟩ := I.list (.inl (.inl e))
  exact ⟨o, us, n, ho, hc, hd, rv⟩
theorem dq_tuple {a : Addr} {xs : List V} (I : Inv X pins σ H s) (e : SqT X.K H a xs) : ∃ (o : Obj) (us : List Value) (n : Nat), s.heap.get? a = some o ∧ o.cls = .type "tuple" ∧ o.data = .seq us.toArray n ∧ Vals xs us := by
  obtain ⟨us, rv, ⟨o, ho, hc, n, hd⟩, _⟩ := I.tuple e
  exact ⟨o, us, n, ho, hc, hd, rv⟩
theorem dq_dict {a : Addr} (I : Inv X pins σ H s) (e : H a = some (.dK [])) : ∃ (o : Obj) (n : Nat), s.heap.get? a = some o ∧ o.cls = .type "dict" ∧ o.data = .dict #[] n ∧ (a == sysModules) = false := by
  obtain ⟨_, ns, vs, kv, o, es, n, ho, hx, hd, _, pr, _⟩ := (show ObjOk X.prog X.w H s.heap a (.dK []) from I.hok a _ e)
  have ve : vs = [] := by
    cases kv
    rfl
  subst ve
  have ee : es.toList = [] := by
    cases h : es.toList with
    | nil => rfl
    | cons x l => rw [h] at pr; cases pr
  obtain ⟨es⟩ := es
  have ee : es = [] := ee
  subst ee
  exact ⟨o, n, ho, hx.1, hd, ns⟩
mutual
theorem dq_reads (I : Inv X pins σ H s) : ∀ {d : PyData} {v : V} {u : Value}, Dq fz t H v d → RelV v u → ∃ as, Reads s.heap u d as
  | .none, _, _, .non, r => by cases r; exact ⟨_, .none⟩
  | .bool b, _, _, .bl _, r => by cases r; exact ⟨_, .bool b⟩
  | .int i, _, _, .int _, r => by obtain ⟨k, rfl⟩ := r; exact ⟨_, .int i k⟩
  | .str x, _, _, .str _, r => by obtain ⟨k, rfl⟩ := r; exact ⟨_, .str x k⟩
  | .list ds, _, _, .lst _ e h, r => by
    cases r
    obtain ⟨o, us, n, h1, h2, h3, rv⟩ := dq_list I e
    obtain ⟨as, q⟩ := dq_readsAll I h rv
    exact ⟨_, .list h1 h2 h3 q⟩
  | .tuple ds, _, _, .tup _ e h, r => by
    cases r
    obtain ⟨o, us, n, h1, h2, h3, rv⟩ := dq_tuple I (.inl (.inl e))
    obtain ⟨as, q⟩ := dq_readsAll I h rv
    exact ⟨_, .tuple h1 h2 h3 q⟩
  | .tuple ds, _, _, .frz fn _ e h, r => by
    cases r
    obtain ⟨o, us, n, h1, h2, h3, rv⟩ := dq_tuple I (.inl (.inr ⟨_, e⟩))
    obtain ⟨as, q⟩ := dq_readsAll I h rv
    exact ⟨_, .tuple h1 h2 h3 q⟩
  | .dict _, _, _, .dct _ e, r => by
    cases r
    obtain ⟨o, n, h1, h2, h3, _⟩ := dq_dict I e
    exact ⟨_, .dict (as := []) (bs := []) h1 h2 h3 .nil .nil⟩
theorem dq_readsAll (I : Inv X pins σ H s) : ∀ {ds : List PyData} {vs : List V} {us : List Value}, DqAll fz t H vs ds → Vals vs us → ∃ as, ReadsAll s.heap us ds as
  | [], _, _, .nil, .nil => ⟨_, .nil⟩
  | _ :: _, _, _, .cons a h, .cons r1 r2 => by
    obtain ⟨as, q1⟩ := dq_reads I a r1
    obtain ⟨bs, q2⟩ := dq_readsAll I h r2
    exact ⟨_, .cons q1 q2⟩
end
mutual
/-- how a thing is shown within another one -/
theorem dq_shows (I : Inv X pins σ H s) : ∀ {d : PyData} {v : V} {u : Value}, Dq fz t H v d → RelV v u → d.showable = true → d.shown.length ≤ sizeLine → ∃ bs, ReadAtMost s.heap d.depth bs ∧ ReprK X.prog X.w bs s.heap d.depth u d.shown
  | .none, _, _, .non, r, _, _ => by cases r; exact ⟨[], (fun _ h => nomatch h), by simp only [PyData.shown]; exact .of_is ReprIs.none _ _ _⟩
  | .bool b, _, _, .bl _, r, _, _ => by cases r; exact ⟨[], (fun _ h => nomatch h), by simp only [PyData.shown]; exact .of_is (ReprIs.bool b) _ _ _⟩
  | .int i, _, _, .int _, r, hs, _ => by obtain ⟨k, rfl⟩ := r; exact ⟨[], (fun _ h => nomatch h), by simp only [PyData.shown]; exact .of_is (ReprIs.int k (by simpa [PyData.showable] using hs)) _ _ _⟩
  | .str x, _, _, .str _, r, _, hz => by obtain ⟨k, rfl⟩ := r; exact ⟨[], (fun _ h => nomatch h), by simp only [PyData.shown]; exact .of_is (ReprIs.str x k (by simpa only [PyData.shown] using hz)) _ _ _⟩
  | .list ds, _, _, .lst n e h, r, hs, hz => by
    cases r
    obtain ⟨as, rd⟩ := dq_reads (u := .ref _) I (Dq.lst n e h) rfl
    obtain ⟨o, us, m, h1, h2, h3, rv⟩ := dq_list I e
    have room : ∀ x ∈ PyData.shownAll ds, x.length ≤ sizeLine := fun x hx => Nat.le_trans (listText_mem_le hx) (by simpa only [PyData.shown] using hz)
    obtain ⟨bs, b1, b2⟩ := dq_showsAll I h rv (by simpa [PyData.showable] using hs) room
    have lt : PyData.depthAll ds < (PyData.list ds).depth := by simp only [PyData.depth]; omega
    refine ⟨_, ReadAtMost.cons rd (Nat.le_of_lt lt) b1, ?_⟩
    have out := not_mem_of_deeper rd lt b1
    simp only [PyData.depth, PyData.shown]
    cases us with
    | nil =>
      cases rv
      cases h
      simp only [PyData.shownAll, listText_nil]
      exact ReprK.listEmpty h1 h2 h3
    | cons x l => exact ReprK.list h1 h2 h3 out (by simpa using b2.length_eq) fun i y q => b2.item i y (by simpa using q)
  | .tuple ds, _, _, .tup n e h, r, hs, hz => by
    cases r
    obtain ⟨as, rd⟩ := dq_reads (u := .ref _) I (Dq.tup n e h) rfl
    obtain ⟨o, us, m, h1, h2, h3, rv⟩ := dq_tuple I (.inl (.inl e))
    have room : ∀ x ∈ PyData.shownAll ds, x.length ≤ sizeLine := fun x hx => Nat.le_trans (tupleText_mem_le hx) (by simpa only [PyData.shown] using hz)
    obtain ⟨bs, b1, b2⟩ := dq_showsAll I h rv (by simpa [PyData.showable] using hs) room
    have lt : PyData.depthAll ds < (PyData.tuple ds).depth := by simp only [PyData.depth]; omega
    refine ⟨_, ReadAtMost.cons rd (Nat.le_of_lt lt) b1, ?_⟩
    simp only [PyData.depth, PyData.shown]
    exact ReprK.tuple h1 h2 h3 (not_mem_of_deeper rd lt b1) b2
  | .tuple ds, _, _, .frz fn n e h, r, hs, hz => by
    cases r
    obtain ⟨as, rd⟩ := dq_reads (u := .ref _) I (Dq.frz fn n e h) rfl
    obtain ⟨o, us, m, h1, h2, h3, rv⟩ := dq_tuple I (.inl (.inr ⟨_, e⟩))
    have room : ∀ x ∈ PyData.shownAll ds, x.length ≤ sizeLine := fun x hx => Nat.le_trans (tupleText_mem_le hx) (by simpa only [PyData.shown] using hz)
    obtain ⟨bs, b1, b2⟩ := dq_showsAll I h rv (by simpa [PyData.showable] using hs) room
    have lt : PyData.depthAll ds < (PyData.tuple ds).depth := by simp only [PyData.depth]; omega
    refine ⟨_, ReadAtMost.cons rd (Nat.le_of_lt lt) b1, ?_⟩
    simp only [PyData.depth, PyData.shown]
    exact ReprK.tuple h1 h2 h3 (not_mem_of_deeper rd lt b1) b2
  | .dict _, _, _, .dct n e, r, hs, hz => by
    cases r
    obtain ⟨as, rd⟩ := dq_reads (u := .ref _) I (Dq.dct (fz := fz) n e) rfl
    obtain ⟨o, m, h1, h2, h3, h4⟩ := dq_dict I e
    refine ⟨[_], ReadAtMost.cons (n := 0) rd (Nat.zero_le _) (fun _ h => nomatch h), ?_⟩
    have k := ReprK.dict (prog := X.prog) (w := X.w) (as := []) (d := PyData.depthKv []) (ps := []) h1 h2 h3 h4 (fun z => nomatch z) .nil
    simp only [PyData.depth, PyData.shown, PyData.shownKv]
    exact k
theorem dq_showsAll (I : Inv X pins σ H s) : ∀ {ds : List PyData} {vs : List V} {us : List Value}, DqAll fz t H vs ds → Vals vs us → PyData.showableAll ds = true → (∀ x ∈ PyData.shownAll ds, x.length ≤ sizeLine) → ∃ bs, ReadAtMost s.heap (PyData.depthAll ds) bs ∧ ReprAllK X.prog X.w bs s.heap (PyData.depthAll ds) us (PyData.shownAll ds)
  | [], _, _, .nil, .nil, _, _ => ⟨[], (fun _ h => nomatch h), by simp only [PyData.shownAll]; exact .nil⟩
  | d :: ds, _, _, .cons a h, .cons r1 r2, hs, hz => by
    have hs : d.showable = true ∧ PyData.showableAll ds = true := by simpa [PyData.showableAll] using hs
    obtain ⟨b1, m1, k1⟩ := dq_shows I a r1 hs.1 (hz _ (by simp only [PyData.shownAll]; exact .head _))
    obtain ⟨b2, m2, k2⟩ := dq_showsAll I h r2 hs.2 fun x hx => hz x (by simp only [PyData.shownAll]; exact .tail _ hx)
    have l1 : d.depth ≤ PyData.depthAll (d :: ds) := by simp only [PyData.depthAll]; exact Nat.le_max_left _ _
    have l2 : PyData.depthAll ds ≤ PyData.depthAll (d :: ds) := by simp only [PyData.depthAll]; exact Nat.le_max_right _ _
    refine ⟨b1 ++ b2, (m1.mono l1).append (m2.mono l2), ?_⟩
    simp only [PyData.shownAll]
    exact .cons ((k1.more fun b hb => List.mem_append_left _ hb).level_le l1) (k2.more_le (fun b hb => List.mem_append_right _ hb) l2)
end
end
end My

set_option Elab.async false
set_option linter.all false
set_option maxRecDepth 100000
set_option maxHeartbeats 4000000
/-! repr of things of any kind; what kind a thing is of. -/
namespace My
open PySem PySem.Spec PyProof.Rows L2
mutual
def ShQ : PyData → Prop
  | .none => True
  | .bool _ => True
  | .int i => i.natAbs.log2 < 1920
  | .str x => ∀ c ∈ x.cps.toList, c < 16 ^ 8
  | .list xs => ShQs xs
  | .tuple xs => ShQs xs
  | .dict xs => xs = []
def ShQs : List PyData → Prop
  | [] => True
  | x :: xs => ShQ x ∧ ShQs xs
end
mutual
def wt : PyData → Nat
  | .none => 4
  | .bool _ => 5
  | .int _ => 1921
  | .str x => 10 * x.length + 4
  | .list xs => wts xs + 3
  | .tuple xs => wts xs + 3
  | .dict _ => 2
def wts : List PyData → Nat
  | [] => 0
  | x :: xs => wt x + 2 + wts xs
end
theorem shqs_mem : ∀ {ds : List PyData}, ShQs ds ↔ ∀ d ∈ ds, ShQ d
  | [] => ⟨fun _ d h => (by cases h), fun _ => trivial⟩
  | x :: xs => by
    rw [ShQs, shqs_mem (ds := xs)]
    exact ⟨fun h d hd => (List.mem_cons.mp hd).elim (fun e => by rw [e]; exact h.1) (h.2 d), fun h => ⟨h x (.head _), fun d hd => h d (.tail _ hd)⟩⟩
theorem wts_app : ∀ {ds es : List PyData}, wts (ds ++ es) = wts ds + wts es
  | [], _ => by rw [List.nil_append, wts]; omega
  | x :: xs, es => by
    rw [List.cons_append, wts, wts, wts_app (ds := xs)]
    omega
theorem wts_drop : ∀ {ds : List PyData} (i : Nat), wts (ds.drop i) ≤ wts ds
  | _, 0 => Nat.le_refl _
  | [], _ + 1 => by rw [List.drop_nil]; exact Nat.le_refl _
  | x :: xs, i + 1 => by
    rw [List.drop_succ_cons, wts]
    have := wts_drop (ds := xs) i
    omega
theorem wts_take : ∀ {ds : List PyData} (i : Nat), wts (ds.take i) ≤ wts ds
  | _, 0 => by rw [List.take_zero, wts]; exact Nat.zero_le _
  | [], _ + 1 => by rw [List.take_nil]; exact Nat.le_refl _
  | x :: xs, i + 1 => by
    rw [List.take_succ_cons, wts, wts]
    have := wts_take (ds := xs) i
    omega
theorem wts_mem {d : PyData} : ∀ {ds : List PyData}, d ∈ ds → wt d + 2 ≤ wts ds
  | x :: xs, h => by
    rw [wts]
    rcases List.mem_cons.mp h with rfl | h
    · omega
    · have := wts_mem h
      omega
theorem wts_len : ∀ {ds : List PyData}, ds.length ≤ wts ds
  | [] => Nat.zero_le _
  | x :: xs => by
    have := wts_len (ds := xs)
    rw [wts, List.length_cons]
    omega
theorem depths_mem {d : PyData} : ∀ {ds : List PyData}, d ∈ ds → d.depth ≤ PyData.depthAll ds
  | x :: xs, h => by
    rw [PyData.depthAll]
    rcases List.mem_cons.mp h with rfl | h
    · exact Nat.le_max_left _ _
    · exact Nat.le_trans (depths_mem h) (Nat.le_max_right _ _)
theorem depths_le {n : Nat} : ∀ {ds : List PyData}, (∀ d ∈ ds, d.depth ≤ n) → PyData.depthAll ds ≤ n
  | [], _ => by rw [PyData.depthAll]; exact Nat.zero_le _
  | x :: xs, h => by
    rw [PyData.depthAll]
    exact Nat.max_le.mpr ⟨h x (.head _), depths_le fun d hd => h d (.tail _ hd)⟩
mutual
theorem shq_ok : ∀ {d : PyData}, ShQ d → d.showable = true ∧ d.shown.length ≤ wt d
  | .none, _ => ⟨rfl, by decide +kernel⟩
  | .bool b, _ => ⟨rfl, by cases b <;> decide +kernel⟩
  | .int i, h => ⟨decide_eq_true h, int_text_len_1921 h⟩
  | .str x, h => ⟨rfl, Nat.le_trans (StrLaws.reprText_len x h) (Nat.add_le_add_left (by decide) _)⟩
  | .list xs, h => by
    obtain ⟨a, c⟩ := shqs_ok (xs := xs) h
    refine ⟨by rw [PyData.showable]; exact a, ?_⟩
    rw [PyData.shown, wt]
    exact Nat.le_trans (listText_len_le _) (by omega)
  | .tuple xs, h => by
    obtain ⟨a, c⟩ := shqs_ok (xs := xs) h
    refine ⟨by rw [PyData.showable]; exact a, ?_⟩
    rw [PyData.shown, wt]
    exact Nat.le_trans (tupleText_len_le _) (by omega)
  | .dict xs, h => by
    have h : xs = [] := h
    subst h
    exact ⟨by rw [PyData.showable, PyData.showableKv], by rw [PyData.shown, PyData.shownKv, wt]; decide +kernel⟩
theorem shqs_ok : ∀ {xs : List PyData}, ShQs xs → PyData.showableAll xs = true ∧ ((PyData.shownAll xs).map (·.length)).sum + 2 * (PyData.shownAll xs).length ≤ wts xs
  | [], _ => ⟨rfl, Nat.le_refl _⟩
  | x :: xs, h => by
    obtain ⟨a1, c1⟩ := shq_ok h.1
    obtain ⟨a2, c2⟩ := shqs_ok h.2
    refine ⟨by rw [PyData.showableAll, a1, a2]; rfl, ?_⟩
    rw [PyData.shownAll, wts, List.map_cons, List.sum_cons, List.length_cons]
    omega
end
section
variable {X : Cx} {k : Nat} {fz : Bool} {t : Addr}
/-- repr of a thing of any kind -/
theorem call_reprQ (gd : X.A.guards = some []) (hr : Room k X.A) : CallR X (.builtin "repr") (fun xs H Q => ∃ fz t v d, xs = [v] ∧ Dq fz t H v d ∧ ShQ d ∧ d.depth ≤ 50 ∧ wt d ≤ 4000000 ∧ Q (.str d.shown) H) := by
  intro pins s σ H xs us Q I r h
  obtain ⟨fz, t, v, d, rfl, dq, sh, deep, few, q⟩ := h
  obtain ⟨u, rfl, ru⟩ := vals1 r
  obtain ⟨a, c⟩ := shq_ok sh
  have fits : wt d ≤ sizeLine := Nat.le_trans few (by decide)
  have hz := Nat.le_trans c fits
  have hu := hr.un
  have turn : ∀ h' u tk, (∀ b o, s.heap.get? b = some o → h'.get? b = some o) → EP X pins σ Q (.str d.shown u) { s with heap := h', toks := tk } := fun h' u tk kp => ⟨.str _, H, I.turnedL (ch := []) (h' := h') (t' := tk) (fun b o _ e => kp b o e) (fun b hb => by cases hb), ⟨_, rfl⟩, q⟩
  cases dq with
  | non => cases ru; exact PySem.P.repr_of_none ⟨.str _, H, I.tok _, ⟨_, rfl⟩, q⟩
  | bl x => cases ru; exact PySem.P.repr_of_bool ⟨.str _, H, I.tok _, ⟨_, rfl⟩, q⟩
  | int i =>
    obtain ⟨tt, rfl⟩ := ru
    exact PySem.P.repr_of_int sh ⟨.str _, H, I.tok _, ⟨_, rfl⟩, q⟩
  | str x =>
    obtain ⟨tt, rfl⟩ := ru
    exact PySem.P.repr_of_str ⟨.str _, H, I.tok _, ⟨_, rfl⟩, q⟩ hz
  | @lst p vs ds n e h =>
    cases ru
    obtain ⟨as, rd⟩ := dq_reads (u := .ref _) I (Dq.lst n e h) rfl
    obtain ⟨o, us, m, h1, h2, h3, rv⟩ := dq_list I e
    obtain ⟨bs, b1, b2⟩ := dq_showsAll I h rv (by simpa [PyData.showable] using a) fun x hx => Nat.le_trans (listText_mem_le hx) (by simpa only [PyData.shown] using hz)
    have lt : PyData.depthAll ds < (PyData.list ds).depth := by simp only [PyData.depth]; omega
    have out := not_mem_of_deeper rd lt b1
    refine call_repr_slot (by omega) ⟨o, h1, h2⟩ F.slot_list_repr.toG ?_
    have turn2 : ∀ h' u tk, (∀ b o, s.heap.get? b = some o → h'.get? b = some o) → ∃ x z, Value.str (PyData.list ds).shown u = .str x z ∧ EP X pins σ Q (.str (PyData.list ds).shown u) { s with heap := h', toks := tk } := fun h' u tk kp => ⟨_, _, rfl, turn h' u tk kp⟩
    simp only [PyData.shown] at turn2 hz
    cases us with
    | nil =>
      cases rv
      cases h
      simp only [PyData.shownAll, listText_nil] at turn2
      exact call_list_repr_empty ⟨o, h1, h2⟩ h1 h3 (turn2 s.heap _ _ fun _ _ e => e)
    | cons x l => exact call_list_reprK h1 h2 h3 out (by simpa using b2.length_eq) (fun i y q => b2.item i y (by simpa using q)) gd (fun b _ => Clear.nil b) (by simp only [PyData.depth] at deep; show X.A.units + 1 + _ < _; omega) (fun _ _ e => e) turn2 hz
  | @tup p vs ds n e h =>
    cases ru
    obtain ⟨as, rd⟩ := dq_reads (u := .ref _) I (Dq.tup n e h) rfl
    obtain ⟨o, us, m, h1, h2, h3, rv⟩ := dq_tuple I (.inl (.inl e))
    obtain ⟨bs, b1, b2⟩ := dq_showsAll I h rv (by simpa [PyData.showable] using a) fun x hx => Nat.le_trans (tupleText_mem_le hx) (by simpa only [PyData.shown] using hz)
    have lt : PyData.depthAll ds < (PyData.tuple ds).depth := by simp only [PyData.depth]; omega
    refine call_repr_slot (by omega) ⟨o, h1, h2⟩ F.slot_tuple_repr ?_
    have turn2 : ∀ h' u tk, (∀ b o, s.heap.get? b = some o → h'.get? b = some o) → ∃ x z, Value.str (PyData.tuple ds).shown u = .str x z ∧ EP X pins σ Q (.str (PyData.tuple ds).shown u) { s with heap := h', toks := tk } := fun h' u tk kp => ⟨_, _, rfl, turn h' u tk kp⟩
    simp only [PyData.shown] at turn2 hz
    exact call_tuple_reprK h1 h2 h3 (not_mem_of_deeper rd lt b1) b2 gd (fun b _ => Clear.nil b) (by simp only [PyData.depth] at deep; show X.A.units + 1 + _ < _; omega) (fun _ _ e => e) turn2 hz
  | @frz p o' vs ds fn n e h =>
    cases ru
    obtain ⟨as, rd⟩ := dq_reads (u := .ref _) I (Dq.frz fn n e h) rfl
    obtain ⟨o, us, m, h1, h2, h3, rv⟩ := dq_tuple I (.inl (.inr ⟨_, e⟩))
    obtain ⟨bs, b1, b2⟩ := dq_showsAll I h rv (by simpa [PyData.showable] using a) fun x hx => Nat.le_trans (tupleText_mem_le hx) (by simpa only [PyData.shown] using hz)
    have lt : PyData.depthAll ds < (PyData.tuple ds).depth := by simp only [PyData.depth]; omega
    refine call_repr_slot (by omega) ⟨o, h1, h2⟩ F.slot_tuple_repr ?_
    have turn2 : ∀ h' u tk, (∀ b o, s.heap.get? b = some o → h'.get? b = some o) → ∃ x z, Value.str (PyData.tuple ds).shown u = .str x z ∧ EP X pins σ Q (.str (PyData.tuple ds).shown u) { s with heap := h', toks := tk } := fun h' u tk kp => ⟨_, _, rfl, turn h' u tk kp⟩
    simp only [PyData.shown] at turn2 hz
    exact call_tuple_reprK h1 h2 h3 (not_mem_of_deeper rd lt b1) b2 gd (fun b _ => Clear.nil b) (by simp only [PyData.depth] at deep; show X.A.units + 1 + _ < _; omega) (fun _ _ e => e) turn2 hz
  | @dct p n e =>
    cases ru
    obtain ⟨o, m, h1, h2, h3, h4⟩ := dq_dict I e
    refine call_repr_slot (by omega) ⟨o, h1, h2⟩ F.slot_dict_repr ?_
    have turn2 : ∀ h' u tk, (∀ b o, s.heap.get? b = some o → h'.get? b = some o) → ∃ x z, Value.str (PyData.dict []).shown u = .str x z ∧ EP X pins σ Q (.str (PyData.dict []).shown u) { s with heap := h', toks := tk } := fun h' u tk kp => ⟨_, _, rfl, turn h' u tk kp⟩
    simp only [PyData.shown, PyData.shownKv] at turn2 hz
    exact call_dict_reprK (as := []) (d := 0) (ps := []) h1 h2 h3 h4 (fun z => nomatch z) .nil gd (fun b _ => Clear.nil b) (by show X.A.units + 1 + _ < _; omega) (fun _ _ e => e) turn2 hz
end
/-! ### kinds -/
theorem dq_typed {fz : Bool} {t : Addr} {H : Hp} {v : V} {d : PyData} (h : Dq fz t H v d) : (∃ a o xs, v = .ref a ∧ H a = some (.frz o (.tup xs))) ∨ Typed H v := by
  cases h with
  | non => exact .inr trivial
  | bl => exact .inr trivial
  | int => exact .inr trivial
  | str => exact .inr trivial
  | lst n e h => exact .inr (.inr (.inl ⟨_, e⟩))
  | tup n e h => exact .inr (.inl ⟨_, e⟩)
  | frz fn n e h => exact .inl ⟨_, _, _, rfl, e⟩
  | dct n e => exact .inr (.inr (.inr ⟨_, e⟩))
/-- whether a thing's data are of a built-in kind -/
def kindQ (n : String) : PyData → Bool
  | .none => false
  | .bool _ => n == "bool" || n == "int"
  | .int _ => n == "int"
  | .str _ => n == "str"
  | .tuple _ => n == "tuple"
  | .list _ => n == "list"
  | .dict _ => n == "dict"
theorem dq_kind {K : PySem.W.Frag} {fz : Bool} {t : Addr} {H : Hp} {v : V} {d : PyData} {n : String} (hn : n = "int" ∨ n = "bool" ∨ n = "str" ∨ n = "tuple") (h : Dq fz t H v d) : ∃ u, TyX K H v u ∧ PySem.W.kitOne K u (.type n) = some (kindQ n d) := by
  cases h with
  | non => rcases hn with rfl | rfl | rfl | rfl <;> exact ⟨_, .base .non, kit_ty (r := false) (by decide +kernel)⟩
  | bl b =>
    rcases hn with rfl | rfl | rfl | rfl
    · exact ⟨_, .base (.bl b), kit_ty (r := true) (by decide +kernel)⟩
    · exact ⟨_, .base (.bl b), kit_ty (r := true) (by decide +kernel)⟩
    · exact ⟨_, .base (.bl b), kit_ty (r := false) (by decide +kernel)⟩
    · exact ⟨_, .base (.bl b), kit_ty (r := false) (by decide +kernel)⟩
  | int i =>
    rcases hn with rfl | rfl | rfl | rfl
    · exact ⟨_, .base (.int i), kit_ty (r := true) (by decide +kernel)⟩
    · exact ⟨_, .base (.int i), kit_ty (r := false) (by decide +kernel)⟩
    · exact ⟨_, .base (.int i), kit_ty (r := false) (by decide +kernel)⟩
    · exact ⟨_, .base (.int i), kit_ty (r := false) (by decide +kernel)⟩
  | str x =>
    rcases hn with rfl | rfl | rfl | rfl
    · exact ⟨_, .base (.str x), kit_ty (r := false) (by decide +kernel)⟩
    · exact ⟨_, .base (.str x), kit_ty (r := false) (by decide +kernel)⟩
    · exact ⟨_, .base (.str x), kit_ty (r := true) (by decide +kernel)⟩
    · exact ⟨_, .base (.str x), kit_ty (r := false) (by decide +kernel)⟩
  | lst _ e _ => rcases hn with rfl | rfl | rfl | rfl <;> exact ⟨_, .base (.lst e), kit_ty (r := false) (by decide +kernel)⟩
  | tup _ e _ => rcases hn with rfl | rfl | rfl | rfl <;> first | exact ⟨_, .base (.tup e), kit_ty (r := false) (by decide +kernel)⟩ | exact ⟨_, .base (.tup e), kit_ty (r := true) (by decide +kernel)⟩
  | frz _ _ e _ => rcases hn with rfl | rfl | rfl | rfl <;> first | exact ⟨_, .fTuple e, kit_ty (r := false) (by decide +kernel)⟩ | exact ⟨_, .fTuple e, kit_ty (r := true) (by decide +kernel)⟩
  | dct _ e => rcases hn with rfl | rfl | rfl | rfl <;> exact ⟨_, .base (.dK e), kit_ty (r := false) (by decide +kernel)⟩
end My

set_option Elab.async false
set_option linter.all false
set_option maxRecDepth 100000
set_option maxHeartbeats 4000000
/-! in, not in: a thing of any kind in texts or in pairs of texts; a text in things of any kind. -/
namespace My
open PySem PySem.Spec PyProof.Rows L2 PySem.SeqAt
theorem tuple_declines_dict (b l : Addr) (items : Array Value) (n m : Nat) (dd d2 : Option Addr) (sl s2 : Array (Option Value)) (es : Array DictEntry) :
    Meets (Builtin.«tuple.__eq__» ⟨[.ref b, .ref l], []⟩) (fun _ R s => s.heap.get? b = some { cls := .type "tuple", dict := dd, data := .seq items n, slots := sl } ∧ s.heap.get? l = some { cls := .type "dict", dict := d2, data := .dict es m, slots := s2 } ∧ R (.ok (.ret .notImplemented)) s) := by
  refine .of_wp fun prog w A R s h => ?_
  obtain ⟨hp, g, d, tk, os⟩ := s
  obtain ⟨hb, hl, h⟩ := h
  have f1 := F.sub_dict_tuple
  wp_walk using wpAny_loadPart' hb, wpAny_loadPart' hl
  exact ⟨_, rfl, h⟩
theorem dict_declines_tuple (b l : Addr) (items : Array Value) (n m : Nat) (dd d2 : Option Addr) (sl s2 : Array (Option Value)) (es : Array DictEntry) :
    Meets (Builtin.«dict.__eq__» ⟨[.ref l, .ref b], []⟩) (fun _ R s => s.heap.get? b = some { cls := .type "tuple", dict := dd, data := .seq items n, slots := sl } ∧ s.heap.get? l = some { cls := .type "dict", dict := d2, data := .dict es m, slots := s2 } ∧ R (.ok (.ret .notImplemented)) s) := by
  refine .of_wp fun prog w A R s h => ?_
  obtain ⟨hp, g, d, tk, os⟩ := s
  obtain ⟨hb, hl, h⟩ := h
  wp_walk using wpAny_loadPart' hl, wpAny_loadPart' hb, wpAny_load hl
  refine wpAny_of_eq F.sub_tuple_dict ?_
  rw [if_pos (by decide)]
  exact wpAny_bind (wpAny_rule (wpAny_pure ⟨_, rfl, h⟩))
section
variable {A : Around} {s : Shared}
theorem eq_tuple_dict {b l : Addr} {items : Array Value} {o : Obj} {es : Array DictEntry} {m : Nat} (hb : s.heap.IsTuple b items) (ho : s.heap.get? l = some o) (hc : o.cls = .type "dict") (hd : o.data = .dict es m) (hu : A.units < cLine) : EqAt A s (.ref b) (.ref l) false := by
  obtain ⟨⟨cls, dd, data, sl⟩, hb, hbc, n, hbd⟩ := hb
  obtain ⟨c2, d2, da2, s2⟩ := o
  simp only at hc hd hbc hbd
  subst hc hd hbc hbd
  have ne : b ≠ l := fun e => by
    subst e
    rw [ho] at hb
    simp at hb
  refine .of_refs ne fun prog w E Q h => ?_
  exact rc_eq_decline_or (k := false) ⟨_, hb, rfl⟩ ⟨_, ho, rfl⟩ (by decide) F.sub_dict_tuple F.slot_tuple_eq F.slot_dict_eq_refl
    (fun _ hq => call_meets F.slot_tuple_eq ⟨_, hb, rfl⟩ F.entry_tuple_eq (F.args_tuple_eq_2 _ _) (tuple_declines_dict b l items n m dd d2 sl s2 es) ⟨hb, ho, hq⟩)
    (fun _ hq => call_meets F.slot_dict_eq_refl ⟨_, ho, rfl⟩ F.entry_dict_eq (F.args_dict_eq_2 _ _) (dict_declines_tuple b l items n m dd d2 sl s2 es) ⟨hb, ho, hq⟩)
    (fun _ hq => by first | exact wpAny_isSame_ref_other' ne hb ho (by simp) hq | exact wpAny_isSame_ref_other ne hb ho (by simp) hq) (.inr hu) h
theorem eq_dict_str {l : Addr} {o : Obj} {es : Array DictEntry} {n : Nat} (b : Str) (u : Tok) (ho : s.heap.get? l = some o) (hc : o.cls = .type "dict") (hd : o.data = .dict es n) (hu : A.units < cLine) : EqAt A s (.ref l) (.str b u) false := fun prog w E Q h => by
  unfold eqBool
  refine wpAny_holding (wpAny_ite_split (fun hab => absurd (eq_of_beq hab) nofun) fun _ => ?_)
  refine wpAny_bind (rc_eq_decline_or (k := false) ⟨_, ho, hc⟩ (typeIs_str s b u) (by decide) (show isSubtype (.type "str") (.type "dict") = pure false by rw [isSubtype_type]; kernel_rfl) F.slot_dict_eq F.slot_str_eq_refl
    (fun _ hq => call_meets F.slot_dict_eq ⟨_, ho, hc⟩ F.entry_dict_eq (F.args_dict_eq_2 _ _) (dict_declines_str b u l o es n hc hd) ⟨ho, hq⟩)
    (fun _ hq => call_meets F.slot_str_eq_refl (typeIs_str s b u) F.entry_str_eq (F.args_str_eq_2 _ _) (str_declines_dict b u l o es n hd) ⟨ho, hq⟩)
    (fun _ hq => wpAny_of_eq (rfl : isSame (.ref l) (.str b u) = pure false) hq) (.inr hu) (wpAny_truthy_bool h))
end
/-! ### a text, a pair of texts against a thing -/
/-- the thing is that text -/
def isT (z : Str) : PyData → Bool
  | .str y => z == y
  | _ => false
/-- the thing is that pair -/
def isP (p : Str × Str) : PyData → Bool
  | .tuple [x, y] => isT p.1 x && isT p.2 y
  | _ => false
section
variable {X : Cx} {pins : List (Addr × Obj)} {σ : L2.St} {H : Hp} {s : Shared} {fz : Bool} {t : Addr} {A : Around}
theorem dq_isTuple {a : Addr} {xs : List V} (I : Inv X pins σ H s) (e : SqT X.K H a xs) : ∃ us : List Value, s.heap.IsTuple a us.toArray ∧ Vals xs us := by
  obtain ⟨us, rv, p, _⟩ := I.tuple e
  exact ⟨us, p, rv⟩
/-- a text, then the thing -/
theorem eq_text {x : V} {d : PyData} {v : Value} (I : Inv X pins σ H s) (h : Dq fz t H x d) (r : RelV x v) (hu : A.units < cLine) (z : Str) (k : Tok) : EqAt A s (.str z k) v (isT z d) := by
  cases h with
  | non => cases r; exact EqAt.str_none z k
  | bl b => cases r; exact EqAt.str_bool z k b
  | int i => obtain ⟨u, rfl⟩ := r; exact EqAt.str_int z k i u
  | str y => obtain ⟨u, rfl⟩ := r; exact EqAt.str_str z k y u
  | lst n e h =>
    cases r
    obtain ⟨us, rv, pl, _⟩ := I.list (.inl (.inl e))
    exact EqAt.str_list z k pl.isList hu
  | tup n e h =>
    cases r
    obtain ⟨us, p, _⟩ := dq_isTuple I (.inl (.inl e))
    exact EqAt.str_tuple z k p hu
  | frz fn n e h =>
    cases r
    obtain ⟨us, p, _⟩ := dq_isTuple I (.inl (.inr ⟨_, e⟩))
    exact EqAt.str_tuple z k p hu
  | dct n e =>
    cases r
    obtain ⟨o, m, h1, h2, h3, _⟩ := dq_dict I e
    exact eq_str_dict z k h1 h2 h3 hu
/-- the thing, then a text -/
theorem eq_text2 {x : V} {d : PyData} {v : Value} (I : Inv X pins σ H s) (h : Dq fz t H x d) (r : RelV x v) (hu : A.units < cLine) (z : Str) (k : Tok) : EqAt A s v (.str z k) (isT z d) := by
  cases h with
  | non => cases r; exact EqAt.none_str z k
  | bl b => cases r; exact EqAt.bool_str b z k
  | int i => obtain ⟨u, rfl⟩ := r; exact EqAt.int_str i u z k
  | str y =>
    obtain ⟨u, rfl⟩ := r
    have e := EqAt.str_str (A := A) (s := s) y u z k
    rw [show (y == z) = isT z (.str y) by show (y == z) = (z == y); rw [Bool.eq_iff_iff, beq_iff_eq, beq_iff_eq]; exact eq_comm] at e
    exact e
  | lst n e h =>
    cases r
    obtain ⟨us, rv, pl, _⟩ := I.list (.inl (.inl e))
    exact EqAt.list_str z k pl.isList hu
  | tup n e h =>
    cases r
    obtain ⟨us, p, _⟩ := dq_isTuple I (.inl (.inl e))
    exact EqAt.tuple_str z k p hu
  | frz fn n e h =>
    cases r
    obtain ⟨us, p, _⟩ := dq_isTuple I (.inl (.inr ⟨_, e⟩))
    exact EqAt.tuple_str z k p hu
  | dct n e =>
    cases r
    obtain ⟨o, m, h1, h2, h3, _⟩ := dq_dict I e
    exact eq_dict_str z k h1 h2 h3 hu
theorem vals_at : ∀ {xs : List V} {us : List Value}, Vals xs us → ∀ (j : Nat) (u : Value), us[j]? = some u → ∃ v, xs[j]? = some v ∧ RelV v u
  | _, _, .nil, _, _, e => by cases e
  | _, _, .cons a _, 0, _, e => by cases e; exact ⟨_, rfl, a⟩
  | _, _, .cons _ r, j + 1, u, e => vals_at r j u e
theorem dqs_two {xs : List V} {ds : List PyData} {us : List Value} (h : DqAll fz t H xs ds) (r : Vals xs us) (n : us.length = 2) : ∃ x y d e u v, xs = [x, y] ∧ ds = [d, e] ∧ us = [u, v] ∧ Dq fz t H x d ∧ Dq fz t H y e ∧ RelV x u ∧ RelV y v := by
  cases r with
  | nil => cases n
  | cons r1 r =>
    cases r with
    | nil => cases n
    | cons r2 r =>
      cases r with
      | cons _ _ => simp at n
      | nil =>
        cases h with
        | cons h1 h =>
          cases h with
          | cons h2 h =>
            cases h
            exact ⟨_, _, _, _, _, _, rfl, rfl, rfl, h1, h2, r1, r2⟩
theorem eq_pair_tup {a b : Addr} {xs : List V} {ds : List PyData} {p : Str × Str} {k1 k2 : Tok} (I : Inv X pins σ H s) (hu : A.units + 1 < cLine) (hb : s.heap.IsTuple b #[.str p.1 k1, .str p.2 k2]) (e : SqT X.K H a xs) (h : DqAll fz t H xs ds) : EqAt A s (.ref b) (.ref a) (isP p (.tuple ds)) := by
  obtain ⟨us, ha, rv⟩ := dq_isTuple I e
  by_cases ab : b = a
  · subst ab
    have eu : us.toArray = #[.str p.1 k1, .str p.2 k2] := by
      obtain ⟨o, h1, _, n1, d1⟩ := hb
      obtain ⟨o2, h2, _, n2, d2⟩ := ha
      rw [h1] at h2
      cases h2
      rw [d1] at d2
      cases d2
      rfl
    have eu : us = [.str p.1 k1, .str p.2 k2] := by simpa using congrArg Array.toList eu
    obtain ⟨x, y, d, e', u, v, rfl, rfl, eu2, h1, h2, r1, r2⟩ := dqs_two h rv (by rw [eu]; rfl)
    rw [eu] at eu2
    cases eu2
    have dx : ∀ {x : V} {d : PyData} {z : Str} {k : Tok}, Dq fz t H x d → RelV x (.str z k) → isT z d = true := fun {x d z k} h r => by
      cases h with
      | str y =>
        obtain ⟨u, e⟩ := r
        cases e
        show (z == z) = true
        exact beq_self_eq_true z
      | non => cases r
      | bl b => cases r
      | int i => obtain ⟨u, e⟩ := r; cases e
      | lst => cases r
      | tup => cases r
      | frz => cases r
      | dct => cases r
    rw [show isP p (.tuple [d, e']) = true by show (isT p.1 d && isT p.2 e') = true; rw [dx h1 r1, dx h2 r2]; rfl]
    exact EqAt.same _
  · refine EqAt.of_refs ab ?_
    let e : Nat → Bool := fun j => match ds[j]? with | some d => isT (if j = 0 then p.1 else p.2) d | none => false
    have q := RcAt.tuples (A := A) (e := e) hb ha (by omega) (fun j j1 j2 => by
      have j2 : j < us.length := by simpa using j2
      obtain ⟨v, hv, rel⟩ := vals_at rv j us[j] (List.getElem?_eq_getElem j2)
      obtain ⟨d, hd, dq⟩ := h.get hv
      have ee : e j = isT (if j = 0 then p.1 else p.2) d := by show (match ds[j]? with | some d => isT (if j = 0 then p.1 else p.2) d | none => false) = _; rw [hd]
      rw [ee]
      match j, j1 with
      | 0, _ => exact eq_text I dq rel (by show A.units + 1 < cLine; exact hu) p.1 k1
      | 1, _ => exact eq_text I dq rel (by show A.units + 1 < cLine; exact hu) p.2 k2
      | j + 2, j1 => exact absurd j1 (by simp))
    have l1 := h.length
    have l2 := rv.length
    have fin : ((List.range (min (#[Value.str p.1 k1, Value.str p.2 k2] : Array Value).size us.toArray.size)).all e && (#[Value.str p.1 k1, Value.str p.2 k2] : Array Value).size == us.toArray.size) = isP p (.tuple ds) := by
      rw [show us.toArray.size = ds.length by rw [List.size_toArray, ← l2, l1]]
      show ((List.range (min 2 ds.length)).all e && (2 == ds.length)) = _
      clear q l1 h
      rcases ds with _ | ⟨d, _ | ⟨d', _ | ⟨d3, r⟩⟩⟩
      · rfl
      · simp [isP]
      · show ((List.range 2).all _ && true) = (isT p.1 d && isT p.2 d')
        rw [show List.range 2 = [0, 1] from rfl]
        simp [e]
      · have : (2 == (r.length + 3)) = false := by simp
        show (_ && (2 == (r.length + 3))) = false
        rw [this, Bool.and_false]
    rw [fin] at q
    exact q
/-- a pair of texts, then the thing -/
theorem eq_pair {x : V} {d : PyData} {v : Value} {b : Addr} {p : Str × Str} {k1 k2 : Tok} (I : Inv X pins σ H s) (h : Dq fz t H x d) (r : RelV x v) (hu : A.units + 1 < cLine) (hb : s.heap.IsTuple b #[.str p.1 k1, .str p.2 k2]) : EqAt A s (.ref b) v (isP p d) := by
  cases h with
  | non => cases r; exact EqAt.tuple_none hb (by omega)
  | bl c => cases r; exact EqAt.tuple_bool c hb (by omega)
  | int i => obtain ⟨u, rfl⟩ := r; exact EqAt.tuple_int i u hb (by omega)
  | str y => obtain ⟨u, rfl⟩ := r; exact EqAt.tuple_str y u hb (by omega)
  | lst n e h =>
    cases r
    obtain ⟨us, rv, pl, _⟩ := I.list (.inl (.inl e))
    exact EqAt.tuple_list hb pl.isList (by omega)
  | tup n e h =>
    cases r
    exact eq_pair_tup I hu hb (.inl (.inl e)) h
  | frz fn n e h =>
    cases r
    exact eq_pair_tup I hu hb (.inl (.inr ⟨_, e⟩)) h
  | dct n e =>
    cases r
    obtain ⟨o, m, h1, h2, h3, _⟩ := dq_dict I e
    exact eq_tuple_dict hb h1 h2 h3 (by omega)
end
/-- the thing is among the texts -/
def inT (zs : List Str) (d : PyData) : Bool := zs.any fun z => isT z d
/-- the thing is among the pairs -/
def inPs (ps : List (Str × Str)) (d : PyData) : Bool := ps.any fun p => isP p d
open Classical in
/-- what == tells of an item, by what the item is -/
noncomputable def tells {α : Type} (R : Value → α → Prop) (f : α → Bool) (y : Value) : Bool := if h : ∃ a, R y a then f h.choose else false
theorem tells_is {α : Type} {R : Value → α → Prop} {f : α → Bool} {y : Value} {a : α} (h : R y a) (u : ∀ b, R y b → f b = f a) : tells R f y = f a := by
  have e : ∃ a, R y a := ⟨a, h⟩
  unfold tells
  rw [dif_pos e]
  exact u _ e.choose_spec
inductive EachI {α : Type} (R : Value → α → Prop) : List Value → List α → Prop
  | nil : EachI R [] []
  | cons {y : Value} {a : α} {us : List Value} {as : List α} : R y a → EachI R us as → EachI R (y :: us) (a :: as)
/-- a text's value -/
def ValT (y : Value) (z : Str) : Prop := ∃ k, y = .str z k
theorem valT_one {y : Value} {z z' : Str} (h : ValT y z) (k : ValT y z') : z = z' := by
  obtain ⟨a, rfl⟩ := h
  obtain ⟨b, e⟩ := k
  cases e
  rfl
theorem valsT : ∀ {zs : List Str} {us : List Value}, Vals (zs.map V.str) us → EachI ValT us zs
  | [], _, .nil => .nil
  | _ :: _, _, .cons r t => .cons r (valsT t)
def ValP (h : Heap) (y : Value) (p : Str × Str) : Prop := ∃ b k1 k2, y = .ref b ∧ h.IsTuple b #[.str p.1 k1, .str p.2 k2]
theorem valP_one {h : Heap} {y : Value} {p q : Str × Str} (a : ValP h y p) (b : ValP h y q) : p = q := by
  obtain ⟨c, k1, k2, rfl, o, h1, _, n, d1⟩ := a
  obtain ⟨c', l1, l2, e, o', h2, _, n', d2⟩ := b
  cases e
  rw [h1] at h2
  cases h2
  rw [d1] at d2
  simp at d2
  exact Prod.ext d2.1.1.1 d2.1.2.1
theorem any_tells {α : Type} {R : Value → α → Prop} {f : α → Bool} (one : ∀ y a b, R y a → R y b → a = b) : ∀ {us : List Value} {as : List α}, EachI R us as → us.any (tells R f) = as.any f
  | _, _, .nil => rfl
  | _, _, .cons h t => by
    rw [List.any_cons, List.any_cons, any_tells one t, tells_is h fun b hb => by rw [one _ _ _ h hb]]
theorem each_get {α : Type} {R : Value → α → Prop} : ∀ {us : List Value} {as : List α} {y : Value}, EachI R us as → y ∈ us → ∃ a, R y a
  | _, _, _, .nil, m => by cases m
  | _, _, _, .cons h t, m => by
    rcases List.mem_cons.mp m with rfl | m
    · exact ⟨_, h⟩
    · exact each_get t m
section
variable {X : Cx} {pins : List (Addr × Obj)} {σ : L2.St} {H : Hp} {s : Shared}
theorem valsP (I : Inv X pins σ H s) : ∀ {ps : List (Str × Str)} {xs : List V} {us : List Value}, NkAll H xs (ps.map fun p => NestedKey.tup [.text p.1, .text p.2]) → Vals xs us → EachI (ValP s.heap) us ps
  | [], _, _, .nil, .nil => .nil
  | p :: ps, _, _, .cons n h, .cons r1 r2 => by
    refine .cons ?_ (valsP I h r2)
    cases n with
    | @tup q xs _ e hk =>
      cases hk with
      | cons n1 hk =>
        cases n1
        cases hk with
        | cons n2 hk =>
          cases n2
          cases hk
          cases r1
          obtain ⟨us, rv, pl, _⟩ := I.tuple (.inl (.inl e))
          cases rv with
          | cons q1 rv =>
            cases rv with
            | cons q2 rv =>
              cases rv
              obtain ⟨k1, rfl⟩ := q1
              obtain ⟨k2, rfl⟩ := q2
              exact ⟨q, k1, k2, rfl, pl⟩
end
/-! ### the rules -/
def rInQT (K : PySem.W.Frag) (neg : Bool) : R2 := fun x y H Q => ∃ (fz : Bool) (t p : Addr) (zs : List Str) (d : PyData), y = .ref p ∧ (SqL K H p (zs.map V.str) ∨ SqT K H p (zs.map V.str)) ∧ Dq fz t H x d ∧ Q (.bl (if neg then !inT zs d else inT zs d)) H
def rInQP (K : PySem.W.Frag) (neg : Bool) : R2 := fun x y H Q => ∃ (fz : Bool) (t p : Addr) (xs : List V) (ps : List (Str × Str)) (d : PyData), y = .ref p ∧ (SqL K H p xs ∨ SqT K H p xs) ∧ NkAll H xs (ps.map fun p => NestedKey.tup [.text p.1, .text p.2]) ∧ Dq fz t H x d ∧ Q (.bl (if neg then !inPs ps d else inPs ps d)) H
def rInTQ (K : PySem.W.Frag) (neg : Bool) : R2 := fun x y H Q => ∃ (fz : Bool) (t p : Addr) (z : Str) (xs : List V) (ds : List PyData), x = .str z ∧ y = .ref p ∧ (SqL K H p xs ∨ SqT K H p xs) ∧ DqAll fz t H xs ds ∧ Q (.bl (if neg then !(ds.any fun d => isT z d) else ds.any fun d => isT z d)) H
section
variable {X : Cx}
theorem op_inQT (hu : X.A.units + 64 < cLine) : OpR X (compareOp .In) (rInQT X.K false) := by
  intro pins s σ H x y v u Q I rx ry h
  obtain ⟨fz, t, p, zs, d, rfl, hq, hx, q⟩ := h
  cases ry
  have each {us : List Value} (r : Vals (zs.map V.str) us) : us.any (tells ValT fun z => isT z d) = inT zs d ∧ ∀ y ∈ us, EqAt X.A.in1 s y v (tells ValT (fun z => isT z d) y) := by
    refine ⟨any_tells (R := ValT) (fun y a b => valT_one) (valsT r), fun y hy => ?_⟩
    obtain ⟨z, hz⟩ := each_get (valsT r) hy
    rw [tells_is hz fun b hb => by rw [valT_one hz hb]]
    obtain ⟨k, rfl⟩ := hz
    exact eq_text I hx rx (by show X.A.units + 1 < cLine; omega) z k
  rcases hq with hq | hq
  · obtain ⟨its, r, pl, _⟩ := I.list hq
    obtain ⟨e1, e2⟩ := each r
    refine in_listAt (tells ValT fun z => isT z d) pl.isList (fun y hy => e2 y (by simpa using hy)) ⟨.bl _, H, I, rfl, ?_⟩
    rw [show its.toArray.any (tells ValT fun z => isT z d) = its.any (tells ValT fun z => isT z d) by simp, e1]
    exact q
  · obtain ⟨its, r, pl, _⟩ := I.tuple hq
    obtain ⟨e1, e2⟩ := each r
    refine in_tupleAt (tells ValT fun z => isT z d) pl (fun y hy => e2 y (by simpa using hy)) ⟨.bl _, H, I, rfl, ?_⟩
    rw [show its.toArray.any (tells ValT fun z => isT z d) = its.any (tells ValT fun z => isT z d) by simp, e1]
    exact q
theorem op_notInQT (hu : X.A.units + 64 < cLine) : OpR X (compareOp .NotIn) (rInQT X.K true) := by
  intro pins s σ H x y v u Q I rx ry h
  obtain ⟨fz, t, p, zs, d, rfl, hq, hx, q⟩ := h
  cases ry
  have each {us : List Value} (r : Vals (zs.map V.str) us) : us.any (tells ValT fun z => isT z d) = inT zs d ∧ ∀ y ∈ us, EqAt X.A.in1 s y v (tells ValT (fun z => isT z d) y) := by
    refine ⟨any_tells (R := ValT) (fun y a b => valT_one) (valsT r), fun y hy => ?_⟩
    obtain ⟨z, hz⟩ := each_get (valsT r) hy
    rw [tells_is hz fun b hb => by rw [valT_one hz hb]]
    obtain ⟨k, rfl⟩ := hz
    exact eq_text I hx rx (by show X.A.units + 1 < cLine; omega) z k
  rcases hq with hq | hq
  · obtain ⟨its, r, pl, _⟩ := I.list hq
    obtain ⟨e1, e2⟩ := each r
    refine notIn_listAt (tells ValT fun z => isT z d) pl.isList (fun y hy => e2 y (by simpa using hy)) ⟨.bl _, H, I, rfl, ?_⟩
    rw [show its.toArray.any (tells ValT fun z => isT z d) = its.any (tells ValT fun z => isT z d) by simp, e1]
    exact q
  · obtain ⟨its, r, pl, _⟩ := I.tuple hq
    obtain ⟨e1, e2⟩ := each r
    refine notIn_tupleAt (tells ValT fun z => isT z d) pl (fun y hy => e2 y (by simpa using hy)) ⟨.bl _, H, I, rfl, ?_⟩
    rw [show its.toArray.any (tells ValT fun z => isT z d) = its.any (tells ValT fun z => isT z d) by simp, e1]
    exact q
theorem op_inQP (hu : X.A.units + 64 < cLine) : OpR X (compareOp .In) (rInQP X.K false) := by
  intro pins s σ H x y v u Q I rx ry h
  obtain ⟨fz, t, p, xs, ps, d, rfl, hq, nk, hx, q⟩ := h
  cases ry
  have each {us : List Value} (r : Vals xs us) : us.any (tells (ValP s.heap) fun z => isP z d) = inPs ps d ∧ ∀ y ∈ us, EqAt X.A.in1 s y v (tells (ValP s.heap) (fun z => isP z d) y) := by
    refine ⟨any_tells (R := ValP s.heap) (fun y a b => valP_one) (valsP I nk r), fun y hy => ?_⟩
    obtain ⟨z, hz⟩ := each_get (valsP I nk r) hy
    rw [tells_is hz fun b hb => by rw [valP_one hz hb]]
    obtain ⟨b, k1, k2, rfl, hb⟩ := hz
    exact eq_pair I hx rx (by show X.A.units + 1 + 1 < cLine; omega) hb
  rcases hq with hq | hq
  · obtain ⟨its, r, pl, _⟩ := I.list hq
    obtain ⟨e1, e2⟩ := each r
    refine in_listAt (tells (ValP s.heap) fun z => isP z d) pl.isList (fun y hy => e2 y (by simpa using hy)) ⟨.bl _, H, I, rfl, ?_⟩
    rw [show its.toArray.any (tells (ValP s.heap) fun z => isP z d) = its.any (tells (ValP s.heap) fun z => isP z d) by simp, e1]
    exact q
  · obtain ⟨its, r, pl, _⟩ := I.tuple hq
    obtain ⟨e1, e2⟩ := each r
    refine in_tupleAt (tells (ValP s.heap) fun z => isP z d) pl (fun y hy => e2 y (by simpa using hy)) ⟨.bl _, H, I, rfl, ?_⟩
    rw [show its.toArray.any (tells (ValP s.heap) fun z => isP z d) = its.any (tells (ValP s.heap) fun z => isP z d) by simp, e1]
    exact q
theorem op_notInQP (hu : X.A.units + 64 < cLine) : OpR X (compareOp .NotIn) (rInQP X.K true) := by
  intro pins s σ H x y v u Q I rx ry h
  obtain ⟨fz, t, p, xs, ps, d, rfl, hq, nk, hx, q⟩ := h
  cases ry
  have each {us : List Value} (r : Vals xs us) : us.any (tells (ValP s.heap) fun z => isP z d) = inPs ps d ∧ ∀ y ∈ us, EqAt X.A.in1 s y v (tells (ValP s.heap) (fun z => isP z d) y) := by
    refine ⟨any_tells (R := ValP s.heap) (fun y a b => valP_one) (valsP I nk r), fun y hy => ?_⟩
    obtain ⟨z, hz⟩ := each_get (valsP I nk r) hy
    rw [tells_is hz fun b hb => by rw [valP_one hz hb]]
    obtain ⟨b, k1, k2, rfl, hb⟩ := hz
    exact eq_pair I hx rx (by show X.A.units + 1 + 1 < cLine; omega) hb
  rcases hq with hq | hq
  · obtain ⟨its, r, pl, _⟩ := I.list hq
    obtain ⟨e1, e2⟩ := each r
    refine notIn_listAt (tells (ValP s.heap) fun z => isP z d) pl.isList (fun y hy => e2 y (by simpa using hy)) ⟨.bl _, H, I, rfl, ?_⟩
    rw [show its.toArray.any (tells (ValP s.heap) fun z => isP z d) = its.any (tells (ValP s.heap) fun z => isP z d) by simp, e1]
    exact q
  · obtain ⟨its, r, pl, _⟩ := I.tuple hq
    obtain ⟨e1, e2⟩ := each r
    refine notIn_tupleAt (tells (ValP s.heap) fun z => isP z d) pl (fun y hy => e2 y (by simpa using hy)) ⟨.bl _, H, I, rfl, ?_⟩
    rw [show its.toArray.any (tells (ValP s.heap) fun z => isP z d) = its.any (tells (ValP s.heap) fun z => isP z d) by simp, e1]
    exact q
end
end My

set_option Elab.async false
set_option linter.all false
set_option maxRecDepth 100000
set_option maxHeartbeats 2000000
/-! t[::-1], t a tuple of any length. -/
namespace My
open PySem PySem.Spec PyProof.Rows L2 HT
theorem all_places {α : Type} : ∀ ys : List α, (List.range ys.length).filterMap (fun k => ys[k]?) = ys
  | [] => rfl
  | y :: ys => by
    rw [List.length_cons, List.range_succ_eq_map, List.filterMap_cons]
    show y :: _ = _
    rw [List.filterMap_map]
    exact congrArg _ (all_places ys)
theorem fm_congr {α β : Type} {f g : α → Option β} : ∀ {l : List α}, (∀ x ∈ l, f x = g x) → l.filterMap f = l.filterMap g
  | [], _ => rfl
  | x :: l, h => by
    rw [List.filterMap_cons, List.filterMap_cons, h x (.head _), fm_congr (fun y hy => h y (.tail _ hy))]
theorem vals_reverse : ∀ {xs : List V} {us : List Value}, Vals xs us → Vals xs.reverse us.reverse
  | _, _, .nil => .nil
  | _, _, .cons a r => by
    rw [List.reverse_cons, List.reverse_cons]
    exact (vals_reverse r).append (.cons a .nil)
theorem back_places {α : Type} (xs : List α) : (List.range xs.length).filterMap (fun (k : Nat) => xs[((xs.length : Int) - 1 + (k : Int) * (-1)).toNat]?) = xs.reverse := by
  have := all_places xs.reverse
  rw [List.length_reverse] at this
  refine Eq.trans ?_ this
  refine fm_congr fun k hk => ?_
  have hk := List.mem_range.mp hk
  rw [List.getElem?_reverse hk]
  congr 1
  omega
section
variable {prog : Program} {w : World} {A : Around} {E : Value → Shared → Prop} {s : Shared}
theorem places_back (n : Nat) : Builtin.Slice.slicePlaces ((n : Int) - 1) (-1) (-1) = n := by
  unfold Builtin.Slice.slicePlaces
  rw [if_neg (by decide)]
  by_cases e : n = 0
  · subst e
    rfl
  · rw [if_pos (by omega)]
    have : ((n : Int) - 1 - -1 - 1) / (- -1) + 1 = (n : Int) := by
      rw [show (- -1 : Int) = 1 by decide, Int.ediv_one]
      omega
    rw [this]
    rfl
theorem applied_backN {sl : Addr} {u : Tok} {n : Nat} {Q : Int × Int × Nat → Shared → Prop} (hs : s.heap.IsSliceOf sl .none .none (.int (-1) u)) (h : Q ((n : Int) - 1, -1, n) s) :
    wpAny (model prog w) A (Builtin.Slice.sliceApplied (.ref sl) (pure (n : Int))) Q E s := by
  obtain ⟨o, ho, _, hd⟩ := hs
  unfold Builtin.Slice.sliceApplied Builtin.Slice.sliceFields
  refine wpAny_bind (wpAny_bind (wpAny_field ho hd (x := .none) rfl ?_))
  refine wpAny_bind (wpAny_field ho hd (x := .none) rfl ?_)
  refine wpAny_bind (wpAny_field ho hd (x := .int (-1) u) rfl (wpAny_pure ?_))
  refine wpAny_bind (slicePart_ (.int (-1) u) ?_)
  show wpAny _ _ (if ((-1 : Int) == 0) = true then _ else _) _ _ s
  rw [if_neg (show ¬ ((-1 : Int) == 0) = true by decide)]
  refine wpAny_bind (slicePart_ .none (wpAny_bind (slicePart_ .none (wpAny_bind (wpAny_pure (wpAny_pure ?_))))))
  show Q ((n : Int) - 1, -1, Builtin.Slice.slicePlaces ((n : Int) - 1) (-1) (-1)) s
  rw [places_back]
  exact h
theorem item_backN {t sl : Addr} {items : Array Value} {u : Tok} {Q : Value → Shared → Prop} (ht : IsTup s.heap t items) (hz : items.size ≤ sizeLine) (hs : s.heap.IsSliceOf sl .none .none (.int (-1) u))
    (h : Q (.ref s.heap.objs.size) { s with heap := s.heap.push { cls := .type "tuple", data := .seq items.toList.reverse.toArray } }) : wpAny (model prog w) A (getItem (.ref t) (.ref sl)) Q E s := by
  obtain ⟨o, ho, hc, hd⟩ := id hs
  have ty : s.TypeIs (.ref sl) "slice" := ⟨o, ho, hc⟩
  have fit : sizeOk (.seq items.toList.reverse.toArray) := by
    show items.toList.reverse.toArray.size ≤ sizeLine
    rw [List.size_toArray, List.length_reverse, Array.length_toList]
    exact hz
  unfold getItem
  try with_reducible refine wpAny_holding ?_
  first | refine wpAny_bind (wpAny_pure ?_) | skip
  refine wpAny_bind (wpAny_sequenceKey ht.typeIs (by decide) (wpAny_bind (wpAny_callSpecial?_slot (name := Str.ofString "__getitem__") ht.typeIs PyProof.Rows.slot_tuple_getitem (wpAny_call_entry PyProof.Rows.slot_tuple_getitem ht.typeIs entry_tuple_getitem ?_ (args_tuple_getitem _ _)))))
  show wpAny _ _ (Builtin.Tuple.tupleItemsOf (.ref t) >>= _) _ _ s
  refine wpAny_bind (tupleItemsOf_ ht (wpAny_bind (wpAny_typeOf ty ?_)))
  rw [if_pos (by decide)]
  refine wpAny_bind (applied_backN (n := items.size) hs ?_)
  show wpAny _ _ (if ((((items.size : Int) - 1) == 0) && ((-1 : Int) == 1) && (items.size == items.size)) = true then _ else _) _ _ s
  rw [if_neg (by rw [show ((-1 : Int) == 1) = false by decide, Bool.and_false, Bool.false_and]; exact Bool.noConfusion)]
  have e : ((List.range items.size).filterMap fun (k : Nat) => items[((items.size : Int) - 1 + (k : Int) * (-1)).toNat]?).toArray = items.toList.reverse.toArray := by
    have := back_places items.toList
    rw [Array.length_toList] at this
    rw [← this]
    simp only [Array.getElem?_toList]
  rw [e]
  first
    | exact wpAny_bind (m := Builtin.Tuple.tupleExact _) (wpAny_newObj_type (wpAny_pure ⟨_, rfl, wpAny_pure h⟩) fit)
    | exact wpAny_bind (m := Builtin.Tuple.tupleExact _) (wpAny_newObj_type (wpAny_bind (wpAny_pure (wpAny_pure ⟨_, rfl, wpAny_pure h⟩))) fit)
    | exact wpAny_bind (wpAny_bind (m := Builtin.Tuple.tupleExact _) (wpAny_newObj_type (wpAny_pure (wpAny_pure ⟨_, rfl, wpAny_pure h⟩)) fit))
    | exact wpAny_bind (wpAny_bind (m := Builtin.Tuple.tupleExact _) (wpAny_newObj_type (wpAny_pure ⟨_, rfl, wpAny_pure h⟩) fit))
end
section
variable {X : Cx} {K1 : PySem.W.Frag}
def tRevA (K : PySem.W.Frag) (te : TE) : TE := fun σ H Q => te σ H fun x H1 => ∃ a xs, x = .ref a ∧ SqT K H1 a xs ∧ ∀ b, H1 b = none → Q (.ref b) (upd H1 b (.tup xs.reverse))
theorem pe_revA {e : Expr} {te : TE} {k : Nat} {p1 p2 p3 pos : Pos} (hK : X.K = K1) (he : PE X e te) : PE X (.Subscript e (.Slice none none (some (.UnaryOp .USub (.Constant (.int 1) k p1) p2)) p3) pos) (tRevA K1 te) := by
  subst hK
  have step : PO X (some (.UnaryOp .USub (.Constant (.int 1) k p1) p2)) (tPart (tUn (rU fun i => .int (-i)) (tC (.int 1)))) := po_some (pe_un un_neg pe_int)
  constructor
  intro pins s σ H Q I h
  refine Subscript_ (thn (he.run pins s σ H _ I h) ?_)
  rintro v s1 ⟨x, H1, I1, r1, a, xs, rfl, hx, hq⟩
  cases r1
  refine wpAny_Slice (thn (po_none.run pins s1 σ H1 (fun o G => o = none ∧ G = H1) I1 ⟨rfl, rfl⟩) ?_)
  rintro vl s2 ⟨o1, G1, I2, q1, rfl, rfl⟩
  refine thn (po_none.run pins s2 σ G1 (fun o G => o = none ∧ G = G1) I2 ⟨rfl, rfl⟩) ?_
  rintro vu s3 ⟨o2, G2, I3, q2, rfl, rfl⟩
  refine thn (step.run pins s3 σ G2 (fun o G => o = some (-1) ∧ G = G2) I3 ⟨1, rfl, -1, rfl, rfl, rfl⟩) ?_
  rintro vs s4 ⟨o3, G3, I4, q3, rfl, rfl⟩
  cases q1
  cases q2
  cases q3 with
  | int _ u =>
    have I5 : Inv X pins σ G3 { s4 with heap := s4.heap.push { cls := .type "slice", data := .fields #[.none, .none, .int (-1) u] } } := I4.kept (t' := s4.toks) fun b ob q => Heap.get?_push_of_some _ q
    obtain ⟨its, r, ht, hz⟩ := I5.tuple hx
    show wpAny (model X.prog X.w) X.A (subscriptTail e (.Slice none none (some (.UnaryOp .USub (.Constant (.int 1) k p1) p2)) p3) (.ref a) (.ref s4.heap.objs.size)) (EP X pins σ Q) X.xe { s4 with heap := s4.heap.push { cls := .type "slice", data := .fields #[.none, .none, .int (-1) u] } }
    refine tail_any (ops := [.ref a, .ref s4.heap.objs.size]) ht.typeIs (PyProof.Rows.slot_tuple_getitem.lookup) ?_ (by with_unfolding_all rfl)
    refine item_backN ht (by rw [List.size_toArray, ← r.length]; exact hz) (Heap.IsSliceOf.new _ .none .none (.int (-1) u)) ?_
    refine ⟨.ref _, _, I5.laid (t' := s4.toks) (o := .tup xs.reverse) (fun b ob q => Heap.get?_push_of_some _ q) (Nat.le_refl _) ⟨?_, _, vals_reverse r, IsTup.new _ _⟩, rfl, hq _ (I5.hok.fresh (Nat.le_refl _))⟩
    rw [List.length_reverse]
    exact hz
end
end My

set_option Elab.async false
set_option linter.all false
set_option maxRecDepth 100000
set_option maxHeartbeats 2000000
/-! t == (), t != (): a tuple of any things against the tuple of none. -/
namespace My
open PySem PySem.Spec PyProof.Rows L2 PySem.SeqAt
def rEqTE (K : PySem.W.Frag) (f : Bool → Bool) : R2 := fun x y H Q => ∃ (p q : Addr) (xs : List V), x = .ref p ∧ y = .ref q ∧ SqT K H p xs ∧ SqT K H q [] ∧ Q (.bl (f xs.isEmpty)) H
section
variable {X : Cx}
theorem op_eqTE (hu : X.A.units + 1 < cLine) : OpR X (compareOp .Eq) (rEqTE X.K fun b => b) := by
  intro pins s σ H x y v u Q I rx ry h
  obtain ⟨p, q, xs, rfl, rfl, hp, hq, h⟩ := h
  cases (show v = Value.ref p from rx)
  cases (show u = Value.ref q from ry)
  obtain ⟨us, r1, p1, _⟩ := I.tuple hp
  obtain ⟨ws, r2, p2, _⟩ := I.tuple hq
  cases r2
  have e := RcAt.tuples (A := X.A) (e := fun _ => true) p1 p2 (by omega) (fun j _ h2 => absurd h2 (Nat.not_lt_zero j)) X.prog X.w
  cases r1 with
  | nil => exact e _ _ ⟨.bl true, H, I, rfl, h⟩
  | cons _ _ => exact e _ _ ⟨.bl false, H, I, by simp; rfl, h⟩
theorem op_neTE (hu : X.A.units + 1 < cLine) : OpR X (compareOp .NotEq) (rEqTE X.K fun b => !b) := by
  intro pins s σ H x y v u Q I rx ry h
  obtain ⟨p, q, xs, rfl, rfl, hp, hq, h⟩ := h
  cases (show v = Value.ref p from rx)
  cases (show u = Value.ref q from ry)
  obtain ⟨us, r1, p1, _⟩ := I.tuple hp
  obtain ⟨ws, r2, p2, _⟩ := I.tuple hq
  cases r2
  have e := RcNeAt.tuples (A := X.A) (e := fun _ => true) p1 p2 (by omega) (fun j _ h2 => absurd h2 (Nat.not_lt_zero j)) X.prog X.w
  cases r1 with
  | nil => exact e _ _ ⟨.bl false, H, I, rfl, h⟩
  | cons _ _ => exact e _ _ ⟨.bl true, H, I, by simp; rfl, h⟩
end
end My

set_option Elab.async false
set_option linter.all false
set_option maxRecDepth 100000
set_option maxHeartbeats 2000000
namespace L53
open PySem PySem.Spec PyProof.Rows L2 My
section
variable {P : Program} {w : World} {K : PySem.W.Frag} {mg : Str → Option Value} {base : Heap}
/-- what follows is shown once, for all ways that lead there -/
theorem mrg1 {α : Type} {K C : α → Prop} {G : Prop} (main : (∀ a, C a → K a) → G) (tail : ∀ a, C a → K a) : G := main tail
theorem mrg2 {α β : Type} {K C : α → β → Prop} {G : Prop} (main : (∀ a b, C a b → K a b) → G) (tail : ∀ a b, C a b → K a b) : G := main tail
theorem emp_pos {α : Type} : ∀ {ys : List α}, (!ys.isEmpty) = true → 0 < ys.length
  | [], e => by cases e
  | _ :: _, _ => Nat.succ_pos _
theorem emp_nil {α : Type} : ∀ {ys : List α}, ¬ (!ys.isEmpty) = true → ys = []
  | [], _ => rfl
  | _ :: _, e => absurd rfl e
theorem mrg11 {α β : Type} {K1 C1 : α → Prop} {K2 C2 : β → Prop} {G : Prop} (main : (∀ a, C1 a → K1 a) → (∀ b, C2 b → K2 b) → G) (one : ∀ a, C1 a → K1 a) (two : ∀ b, C2 b → K2 b) : G := main one two
/-- the data of a thing that can be shown, of so much weight, so deep -/
structure Fit (d : PyData) (m n : Nat) : Prop where
  sh : ShQ d
  wt : wt d ≤ m
  dp : d.depth ≤ n
theorem Fit.mono {d : PyData} {m n m' n' : Nat} (h : Fit d m n) (a : m ≤ m') (b : n ≤ n') : Fit d m' n' := ⟨h.sh, Nat.le_trans h.wt a, Nat.le_trans h.dp b⟩
/-- many of them, all within so much weight, so deep -/
structure Fits (ds : List PyData) (m n : Nat) : Prop where
  sh : ShQs ds
  wt : wts ds ≤ m
  dp : PyData.depthAll ds ≤ n
theorem fits_nil {n : Nat} : Fits [] 0 n := ⟨trivial, Nat.le_refl _, by rw [PyData.depthAll]; exact Nat.zero_le _⟩
theorem depths_app : ∀ {ds es : List PyData}, PyData.depthAll (ds ++ es) = max (PyData.depthAll ds) (PyData.depthAll es)
  | [], es => by rw [List.nil_append, show PyData.depthAll [] = 0 by rw [PyData.depthAll]]; omega
  | d :: ds, es => by
    rw [List.cons_append, PyData.depthAll, PyData.depthAll, depths_app (ds := ds)]
    omega
theorem Fits.app {ds es : List PyData} {m k n : Nat} (h : Fits ds m n) (g : Fits es k n) : Fits (ds ++ es) (m + k) n :=
  ⟨shqs_mem.mpr fun d hd => (List.mem_append.mp hd).elim (shqs_mem.mp h.sh d) (shqs_mem.mp g.sh d), by rw [wts_app]; exact Nat.add_le_add h.wt g.wt, by rw [depths_app]; exact Nat.max_le.mpr ⟨h.dp, g.dp⟩⟩
theorem Fits.drop {ds : List PyData} {m n : Nat} (h : Fits ds m n) (i : Nat) : Fits (ds.drop i) m n :=
  ⟨shqs_mem.mpr fun d hd => shqs_mem.mp h.sh d (List.mem_of_mem_drop hd), Nat.le_trans (wts_drop i) h.wt, depths_le fun d hd => Nat.le_trans (depths_mem (List.mem_of_mem_drop hd)) h.dp⟩
theorem Fits.take {ds : List PyData} {m n : Nat} (h : Fits ds m n) (i : Nat) : Fits (ds.take i) m n :=
  ⟨shqs_mem.mpr fun d hd => shqs_mem.mp h.sh d (List.mem_of_mem_take hd), Nat.le_trans (wts_take i) h.wt, depths_le fun d hd => Nat.le_trans (depths_mem (List.mem_of_mem_take hd)) h.dp⟩
theorem Fits.mem {ds : List PyData} {m n : Nat} {d : PyData} (h : Fits ds m n) (hd : d ∈ ds) : Fit d m n :=
  ⟨shqs_mem.mp h.sh d hd, by have := wts_mem hd; have := h.wt; omega, Nat.le_trans (depths_mem hd) h.dp⟩
theorem Fit.one {d : PyData} {m n : Nat} (h : Fit d m n) : Fits [d] (m + 2) n :=
  ⟨⟨h.sh, trivial⟩, by rw [wts, wts]; have := h.wt; omega, by rw [PyData.depthAll, PyData.depthAll]; have := h.dp; omega⟩
theorem Fits.tup {ds : List PyData} {m n : Nat} (h : Fits ds m n) : Fit (.tuple ds) (m + 3) (n + 1) := ⟨h.sh, by rw [My.wt]; have := h.wt; omega, by rw [PyData.depth]; have := h.dp; omega⟩
theorem Fits.lst {ds : List PyData} {m n : Nat} (h : Fits ds m n) : Fit (.list ds) (m + 3) (n + 1) := ⟨h.sh, by rw [My.wt]; have := h.wt; omega, by rw [PyData.depth]; have := h.dp; omega⟩
theorem Fit.items {ds : List PyData} {m n : Nat} (h : Fit (.tuple ds) m n) : ∃ k, m = k + 3 ∧ Fits ds k (n - 1) ∧ 1 ≤ n := by
  have a := h.wt
  have b := h.dp
  rw [My.wt] at a
  rw [PyData.depth] at b
  exact ⟨m - 3, by omega, ⟨h.sh, by omega, by omega⟩, by omega⟩
theorem Fits.mono {ds : List PyData} {m n m' n' : Nat} (h : Fits ds m n) (a : m ≤ m') (b : n ≤ n') : Fits ds m' n' := ⟨h.sh, Nat.le_trans h.wt a, Nat.le_trans h.dp b⟩
theorem mem_set_of {α : Type} {x y : α} : ∀ {l : List α} {i : Nat}, x ∈ l.set i y → x ∈ l ∨ x = y
  | [], _, h => by cases h
  | a :: l, 0, h => (List.mem_cons.mp h).elim .inr fun h => .inl (.tail _ h)
  | a :: l, i + 1, h => (List.mem_cons.mp h).elim (fun e => .inl (e ▸ .head _)) fun h => (mem_set_of (i := i) h).elim (fun h => .inl (.tail _ h)) .inr
theorem wts_set {d : PyData} : ∀ {ds : List PyData} {i : Nat}, wts (ds.set i d) ≤ wts ds + wt d + 2
  | [], _ => by rw [List.set_nil, wts]; omega
  | x :: ds, 0 => by rw [List.set_cons_zero, wts, wts]; omega
  | x :: ds, i + 1 => by
    rw [List.set_cons_succ, wts, wts]
    have := wts_set (d := d) (ds := ds) (i := i)
    omega
theorem Fits.set {ds : List PyData} {d : PyData} {m k n i : Nat} (h : Fits ds m n) (g : Fit d k n) : Fits (ds.set i d) (m + k + 2) n :=
  ⟨shqs_mem.mpr fun e he => (mem_set_of he).elim (shqs_mem.mp h.sh e) fun z => z ▸ g.sh, Nat.le_trans wts_set (by have := h.wt; have := g.wt; omega), depths_le fun e he => (mem_set_of he).elim (fun z => Nat.le_trans (depths_mem z) h.dp) fun z => z ▸ g.dp⟩
theorem dqs_set {fz : Bool} {t : Addr} {H : Hp} {v : V} {d : PyData} (g : Dq fz t H v d) : ∀ {ds : List PyData} {vs : List V} (i : Nat), DqAll fz t H vs ds → DqAll fz t H (vs.set i v) (ds.set i d)
  | _, _, _, .nil => by rw [List.set_nil, List.set_nil]; exact .nil
  | _, _, 0, .cons a h => .cons g h
  | _, _, i + 1, .cons a h => .cons a (dqs_set g i h)
theorem wts_perm {ds es : List PyData} (h : ds.Perm es) : wts ds = wts es := by
  induction h with
  | nil => rfl
  | cons x _ ih => rw [wts, wts, ih]
  | swap x y l => rw [wts, wts, wts, wts]; omega
  | trans _ _ a b => exact a.trans b
/-- what an address holds; a tuple of a known object too, where fz says so -/
def RdQ (fz : Bool) (H : Hp) (a : Addr) (o : HO) : Prop := H a = some o ∨ (fz = true ∧ ∃ ob, H a = some (.frz ob o))
theorem RdQ.rd {fz : Bool} {H : Hp} {a : Addr} {o : HO} (h : RdQ fz H a o) : Rd H a o := h.elim .inl fun ⟨_, e⟩ => .inr e
theorem rd_same {fz : Bool} {H H' : Hp} {a : Addr} {o : HO} (h : RdQ fz H a o) (s : Same H H') : RdQ fz H' a o := h.elim (fun e => .inl (s _ _ e)) fun ⟨f, ob, e⟩ => .inr ⟨f, ob, s _ _ e⟩
theorem rd_kp {fz : Bool} {H H' : Hp} {t a : Addr} {o : HO} (h : RdQ fz H a o) (n : a ≠ t) (s : Kp t H H') : RdQ fz H' a o := h.elim (fun e => .inl (s _ _ n e)) fun ⟨f, ob, e⟩ => .inr ⟨f, ob, s _ _ n e⟩
theorem dq_rd {fz : Bool} {t a : Addr} {H : Hp} {xs : List V} {ds : List PyData} (n : a ≠ t) (h : RdQ fz H a (.tup xs)) (q : DqAll fz t H xs ds) : Dq fz t H (.ref a) (.tuple ds) := h.elim (fun e => .tup n e q) fun ⟨f, _, e⟩ => .frz f n e q
theorem dq_tuple_at {fz : Bool} {t : Addr} {H : Hp} {v : V} {ds : List PyData} (h : Dq fz t H v (.tuple ds)) : ∃ a xs, v = .ref a ∧ a ≠ t ∧ RdQ fz H a (.tup xs) ∧ DqAll fz t H xs ds := by
  cases h with
  | tup n e q => exact ⟨_, _, rfl, n, .inl e, q⟩
  | frz f n e q => exact ⟨_, _, rfl, n, .inr ⟨f, _, e⟩, q⟩
theorem kind_tuple {d : PyData} (h : kindQ "tuple" d = true) : ∃ ds, d = .tuple ds := by
  cases d with
  | tuple ds => exact ⟨ds, rfl⟩
  | none => cases h
  | bool b => simp [kindQ] at h
  | int i => simp [kindQ] at h
  | str x => simp [kindQ] at h
  | list x => simp [kindQ] at h
  | dict x => simp [kindQ] at h
theorem ixN_of {n i : Nat} (h : i < n) : ixN n (i : Int) = some i := by
  unfold ixN
  rw [if_pos (by omega), if_pos (by omega)]
  rfl
theorem wts_cut {ds : List PyData} {d : PyData} {i : Nat} (h : ds[i]? = some d) : wts (ds.take i) + (wt d + 2) + wts (ds.drop (i + 1)) = wts ds := by
  have l := (List.getElem?_eq_some_iff.mp h).1
  have e : ds = ds.take i ++ d :: ds.drop (i + 1) := by
    rw [← (List.getElem?_eq_some_iff.mp h).2, ← List.drop_eq_getElem_cons l, List.take_append_drop]
  have e2 := congrArg wts e
  rw [wts_app, wts] at e2
  omega
/-- t[lo:hi] of things -/
theorem sl_things {fz : Bool} {t a : Addr} {H : Hp} {xs : List V} {ds : List PyData} {lo hi : Option Int} {m n : Nat} {Q : VK} (h : RdQ fz H a (.tup xs)) (at_ : a ≠ t) (Ht : ∃ ys, H t = some (.lst ys)) (dq : DqAll fz t H xs ds) (f : Fits ds m n)
    (k : ∀ u us es H', Same H H' → u ≠ t → RdQ fz H' u (.tup us) → DqAll fz t H' us es → Fits es m n → es = (ds.drop (HT.sIx ds.length 0 lo)).take (HT.sIx ds.length ds.length hi - HT.sIx ds.length 0 lo) → Q (.ref u) H') : rSlA K (.ref a) lo hi H Q := by
  have le := dq.length
  refine ⟨a, xs, rfl, .inl h.rd, fun e => k a xs ds H (fun _ _ e => e) at_ h dq f ?_, fun _ p np => ?_⟩
  · rw [le] at e
    rw [e.1, e.2, List.drop_zero, Nat.sub_zero, List.take_of_length_le (Nat.le_refl _)]
  · obtain ⟨ys, hy⟩ := Ht
    have s := same_upd (o := .tup (cutV xs lo hi)) np
    have cut : ∀ H', Same H H' → DqAll fz t H' (cutV xs lo hi) ((ds.drop (HT.sIx ds.length 0 lo)).take (HT.sIx ds.length ds.length hi - HT.sIx ds.length 0 lo)) := fun H' s' => by
      unfold cutV
      rw [le]
      exact ((dq.drop _).take _).same s'
    exact k p _ _ _ s (fun z => by rw [z, hy] at np; cases np) (.inl upd_same) (cut _ s) ((f.drop _).take _) rfl
/-- two tuples of things put together -/
theorem cat_things {fz : Bool} {t a b : Addr} {H : Hp} {xs ys : List V} {ds es : List PyData} {m k n : Nat} {Q : V → Hp → Prop} (h1 : RdQ fz H a (.tup xs)) (h2 : RdQ fz H b (.tup ys)) (a1 : a ≠ t) (b1 : b ≠ t) (Ht : ∃ ys, H t = some (.lst ys)) (d1 : DqAll fz t H xs ds) (d2 : DqAll fz t H ys es) (f1 : Fits ds m n) (f2 : Fits es k n) (l : m + k ≤ 4000000)
    (q : ∀ u us H', Same H H' → u ≠ t → RdQ fz H' u (.tup us) → DqAll fz t H' us (ds ++ es) → Fits (ds ++ es) (m + k) n → Q (.ref u) H') : rCatA K (.ref a) (.ref b) H Q := by
  have l1 : xs.length ≤ m := by rw [d1.length]; exact Nat.le_trans wts_len f1.wt
  have l2 : ys.length ≤ k := by rw [d2.length]; exact Nat.le_trans wts_len f2.wt
  refine ⟨a, b, xs, ys, rfl, rfl, .inl h1.rd, .inl h2.rd, Nat.le_trans (show _ ≤ 4000000 by omega) (by decide), fun e => ?_, fun _ e => ?_, fun _ _ p np => ?_⟩
  · subst e
    have e : ds = [] := List.length_eq_zero_iff.mp (by rw [← d1.length]; rfl)
    subst e
    exact q b ys H (fun _ _ e => e) b1 h2 d2 (f1.app f2)
  · subst e
    have e : es = [] := List.length_eq_zero_iff.mp (by rw [← d2.length]; rfl)
    subst e
    have fa := f1.app f2
    rw [List.append_nil] at q fa
    exact q a xs H (fun _ _ e => e) a1 h1 d1 fa
  · obtain ⟨zs, hz⟩ := Ht
    have s := same_upd (o := .tup (xs ++ ys)) np
    exact q p _ _ s (fun z => by rw [z, hz] at np; cases np) (.inl upd_same) ((d1.app d2).same s) (f1.app f2)
/-- a tuple has at most l items -/
def Ltd (l : Nat) (d : PyData) : Prop := ∀ ds, d = .tuple ds → ds.length ≤ l
theorem Ltd.tup {ds : List PyData} {l : Nat} (h : ds.length ≤ l) : Ltd l (.tuple ds) := fun es e => by
  injection e with e
  rw [← e]
  exact h
theorem Ltd.mono {d : PyData} {l m : Nat} (h : Ltd l d) (le : l ≤ m) : Ltd m d := fun ds e => Nat.le_trans (h ds e) le
theorem lt_wt {d : PyData} : Ltd (My.wt d) d := fun ds e => by
  rw [e, My.wt]
  exact Nat.le_trans wts_len (Nat.le_add_right _ _)
/-- what a bent thing is like: of a thing of weight m, n deep, from a menu of weight M, D deep -/
def spSpoilt (fz : Bool) (n : Nat) : Sp := fun vs H Q _ => ∃ (t c mn : Addr) (v : V) (d : PyData) (ms : List V) (es : List PyData) (k m M D l : Nat), vs = [.ref t, v, .ref mn] ∧ FeedC H t c k ∧ k + 5 * n < 900000 ∧ Dq fz t H v d ∧ Fit d m n ∧ Ltd l d ∧ mn ≠ t ∧ H mn = some (.lst ms) ∧ DqAll fz t H ms es ∧ 0 < ms.length ∧ Fits es M D ∧ (∀ e ∈ es, Ltd l e) ∧ 3 * m + M + 100 ≤ 900000 ∧ ms.length ≤ 1000 ∧
  ∀ v' d' H', FeedC H' t c (k + 5 * n + 5) → Kp t H H' → Dq fz t H' v' d' → Fit d' (3 * m + M + 10) (n + D) → Ltd (l + 1) d' → Q v' H'
theorem feed_lst {H : Hp} {t c : Addr} {n : Nat} (h : FeedC H t c n) : ∃ ys, H t = some (.lst ys) := by
  obtain ⟨ns, sp, re, ca, e, _⟩ := h
  exact ⟨_, e⟩
theorem idx_cut {α : Type} {xs : List α} {i : Nat} (h : i < xs.length) : HT.sIx xs.length xs.length (some ((i : Int) + 1)) = i + 1 ∧ HT.sIx xs.length 0 (some ((i : Int) + 1)) = i + 1 ∧ HT.sIx xs.length xs.length (some (i : Int)) = i ∧ HT.sIx xs.length 0 (some (i : Int)) = i := by
  have e : ((i : Int) + 1) = ((i + 1 : Nat) : Int) := by omega
  refine ⟨?_, ?_, ?_, ?_⟩
  · rw [e, HT.sIx_nat]; omega
  · rw [e, HT.sIx_nat]; omega
  · rw [HT.sIx_nat]; omega
  · rw [HT.sIx_nat]; omega
def spBefore (fz : Bool) : Nat → Sp
  | 0 => fun _ _ _ _ => False
  | n + 1 => spSpoilt fz n
theorem spoilt_step (T : Tx K mg) {fz : Bool} {n j : Nat} (hj : 2 ≤ j) (G_w_spoilt : FnOk P w K mg base CX0 j T.f_w_spoilt T.d_w_spoilt ["_law_feed_here", "_law_thing", "_law_menu"] (spBefore fz n)) :
    FnOk P w K mg base CX0 (j + 1) T.f_w_spoilt T.d_w_spoilt ["_law_feed_here", "_law_thing", "_law_menu"] (spSpoilt fz n) := by
  have G_w_draw : FnOk P w K mg base CX0 1 T.f_w_draw T.d_w_draw ["_law_feed_here", "_law_many"] (spDraw) := ok_draw T
  refine T.F_w_spoilt.ok S_w_spoilt (fun vs H Q E h => ?_) (fun cdv A outer s H vs Q E hr h => ?_)
  · obtain ⟨t, c, mn, v, d, ms, es, k, m, M, D, l, rfl, _⟩ := h
    rfl
  · obtain ⟨t, c, mn, v, d, ms, es, k, m, M, D, l, rfl, hT, hk, dq, ft, lt, mt, hm, dm, m0, fm, lts, room, lm, q⟩ := h
    refine ⟨_, (pss_cons (ps_set (i := 3) S_w_spoilt.nd rfl (.inl rfl) (pe_call G_w_draw (hr.mono (by omega)) (by rfl) T.g_w_draw T.F_w_draw.kp T.b_w_draw .nil pass0 (pa_cons (pv 0) (pa_cons pe_int pa_nil))))
      (pss_cons (ps_if (PW.pt (pw_or (pt_not (pt_val (pe_callB call_isi (by rfl) T.m_isinstance (by decide +kernel) (pa_cons (pv 1) (pa_cons (pe_bltn (v := .ty "tuple") (by rfl) T.m_tuple (by decide +kernel) rfl) pa_nil))))) (pw_or (pt_cmpR (op_eqTE (hu_of hr)) (pv 1) (pe_tup pa_nil) (nomark _)) (pw_or1 (pt_cmpR op_eq (pv 3) pe_int (nomark _)))))) (pss_one (ps_ret (pe_ix ix_list (pv 2) (pe_call G_w_draw (hr.mono (by omega)) (by rfl) T.g_w_draw T.F_w_draw.kp T.b_w_draw .nil pass0 (pa_cons (pv 0) (pa_cons (pe_callB call_len_seq (by rfl) T.m_len PySem.boot_len (pa_cons (pv 2) pa_nil)) pa_nil))) (fun _ _ => rfl)))) pss_nil)
      (pss_cons (ps_set (i := 4) S_w_spoilt.nd rfl (.inl rfl) (pe_call G_w_draw (hr.mono (by omega)) (by rfl) T.g_w_draw T.F_w_draw.kp T.b_w_draw .nil pass0 (pa_cons (pv 0) (pa_cons (pe_callB call_len_seq (by rfl) T.m_len PySem.boot_len (pa_cons (pv 1) pa_nil)) pa_nil))))
      (pss_cons (ps_if (pt_cmpR op_eq (pv 3) pe_int (nomark _)) (pss_one (ps_ret (pe_op op_catA (pe_slice sl_tupA (pv 1) po_none (po_some (pv 4))) (pe_slice sl_tupA (pv 1) (po_some (pe_op op_add (pv 4) pe_int)) po_none)))) pss_nil)
      (pss_cons (ps_if (pt_cmpR op_eq (pv 3) pe_int (nomark _)) (pss_one (ps_ret (pe_op op_catA (pe_op op_catA (pe_slice sl_tupA (pv 1) po_none (po_some (pv 4))) (pe_slice sl_tupA (pv 1) (po_some (pv 4)) (po_some (pe_op op_add (pv 4) pe_int)))) (pe_slice sl_tupA (pv 1) (po_some (pv 4)) po_none)))) pss_nil)
      (pss_cons (ps_if (pt_cmpR op_eq (pv 3) pe_int (nomark _)) (pss_one (ps_ret (pe_op op_catA (pe_op op_catA (pe_slice sl_tupA (pv 1) po_none (po_some (pv 4))) (pe_tup (pa_cons (pe_ix ix_list (pv 2) (pe_call G_w_draw (hr.mono (by omega)) (by rfl) T.g_w_draw T.F_w_draw.kp T.b_w_draw .nil pass0 (pa_cons (pv 0) (pa_cons (pe_callB call_len_seq (by rfl) T.m_len PySem.boot_len (pa_cons (pv 2) pa_nil)) pa_nil))) (fun _ _ => rfl)) pa_nil))) (pe_slice sl_tupA (pv 1) (po_some (pv 4)) po_none)))) pss_nil)
      (pss_cons (ps_if (pt_cmpR op_eq (pv 3) pe_int (nomark _)) (pss_cons (ps_par (i := 5) (j := 6) (by rfl) S_w_spoilt.nd rfl rfl (by decide) rfl rfl (pa_cons (pe_call G_w_draw (hr.mono (by omega)) (by rfl) T.g_w_draw T.F_w_draw.kp T.b_w_draw .nil pass0 (pa_cons (pv 0) (pa_cons (pe_callB call_len_seq (by rfl) T.m_len PySem.boot_len (pa_cons (pv 1) pa_nil)) pa_nil))) (pa_cons (pe_callTy call_list_of (by rfl) T.m_list (by decide +kernel) (pa_cons (pv 1) pa_nil)) pa_nil)) (by rfl))
      (pss_cons (ps_asg (pe_tup (pa_cons (pe_ix ix_tup (pv 1) (pv 5) (fun _ _ => rfl)) (pa_cons (pe_ix ix_tup (pv 1) (pv 4) (fun _ _ => rfl)) pa_nil))) (pg_tup rfl (pgs_cons (pg_sub (pv 6) (pv 4) set_list) (pgs_cons (pg_sub (pv 6) (pv 5) set_list) pgs_nil))))
      (pss_one (ps_ret (pe_callTy call_tuple_of (by rfl) T.m_tuple (by decide +kernel) (pa_cons (pv 6) pa_nil)))))) pss_nil)
      (pss_cons (ps_if (pt_cmpR op_eq (pv 3) pe_int (nomark _)) (pss_one (ps_ret (pe_callTy call_list_of (by rfl) T.m_list (by decide +kernel) (pa_cons (pv 1) pa_nil)))) pss_nil)
      (pss_one (ps_ret (pe_op op_catA (pe_op op_catA (pe_slice sl_tupA (pv 1) po_none (po_some (pv 4))) (pe_tup (pa_cons (pe_call G_w_spoilt (hr.mono (by omega)) (by rfl) T.g_w_spoilt T.F_w_spoilt.kp T.b_w_spoilt .nil pass0 (pa_cons (pv 0) (pa_cons (pe_ix ix_tup (pv 1) (pv 4) (fun _ _ => rfl)) (pa_cons (pv 2) pa_nil)))) pa_nil))) (pe_slice sl_tupA (pv 1) (po_some (pe_op op_add (pv 4) pe_int)) po_none)))))))))))), ?_⟩
    refine ⟨_, rfl, t, 9, k, c, rfl, by decide, by decide, hT, by omega, fun wy H1 w0 w1 hT1 hK1 => ?_⟩
    have dq1 := dq.kp hK1
    have hm1 := hK1 _ _ mt hm
    have dm1 := dm.kp hK1
    obtain ⟨u, ty, ki⟩ := dq_kind (K := K) (n := "tuple") (.inr (.inr (.inr rfl))) dq1
    have hT1' := feed_lst hT1
    apply mrg11 (C1 := fun H2 => Same H1 H2) (C2 := fun H2 => Same H1 H2 ∧ ∃ ds, d = .tuple ds ∧ ds ≠ [])
    · intro menu rest
      refine ⟨_, rfl, _, _, u, _, _, rfl, .ty _, ty, ki, _, rfl, ?_⟩
      by_cases kq : kindQ "tuple" d = true
      · obtain ⟨ds, ed⟩ := kind_tuple kq
        obtain ⟨a, xs, ev, an, ha, da⟩ := dq_tuple_at (ed ▸ dq1)
        rw [kq]
        refine iteF ?_
        refine ⟨_, rfl, sz (by show 0 ≤ 1000; decide), fun c0 n0 => ?_⟩
        have s0 := same_upd (o := .tup []) n0
        refine ⟨a, c0, xs, ev, rfl, .inl (rd_same ha s0).rd, .inl (.inl upd_same), _, rfl, ite2 (fun e => ?_) (fun e => ?_)⟩
        · exact iteT (menu _ s0)
        · refine ⟨_, rfl, rfl, _, rfl, ite2 (fun e2 => ?_) (fun e2 => ?_)⟩
          · exact menu _ s0
          · exact rest _ ⟨s0, ds, ed, fun z => e (by rw [List.length_eq_zero_iff.mp (da.length.trans (congrArg List.length z))]; rfl)⟩
      · rw [Bool.eq_false_iff.mpr kq]
        exact iteT (iteT (menu _ fun _ _ e => e))
    · intro H2 s2
      have hT2 := hT1.same s2
      have hm2 := s2 _ _ hm1
      have dm2 := dm1.same s2
      refine ⟨_, rfl, _, rfl, _, rfl, mn, _, rfl, .inl (.inl (.inl hm2)), t, _, k + 1, c, rfl, by omega, by omega, hT2, by omega, fun x H3 x0 x1 hT3 hK3 => ?_⟩
      have xw : x.toNat < ms.length := by omega
      obtain ⟨e, he, de⟩ := (dm2.kp hK3).get (List.getElem?_eq_getElem xw)
      refine ⟨mn, ms, x, ms[x.toNat], rfl, rfl, .inl (.inl (hK3 _ _ mt hm2)), atI_int x0 (List.getElem?_eq_getElem xw), ?_⟩
      exact q _ e H3 (hT3.mono (by omega)) ((hK1.trans (.of_same s2)).trans hK3) de ((fm.mem (List.mem_of_getElem? he)).mono (by omega) (by omega)) ((lts _ (List.mem_of_getElem? he)).mono (by omega))
    · rintro H2 ⟨s2, ds, rfl, dne⟩
      obtain ⟨a, xs, rfl, an, ha, da⟩ := dq_tuple_at (dq1.same s2)
      have hT2 := hT1.same s2
      have hm2 := s2 _ _ hm1
      have dm2 := dm1.same s2
      have k2 := hK1.trans (.of_same s2)
      obtain ⟨m', rfl, fd, n1⟩ := ft.items
      have ld := da.length
      have ll := lt ds rfl
      have d0 : 0 < ds.length := List.length_pos_iff.mpr dne
      have lw : ds.length ≤ m' := Nat.le_trans wts_len fd.wt
      clear dq dq1 ty ki hT1' hm1 dm1 hK1 hm dm hT s2 hT1
      refine ⟨_, rfl, _, rfl, a, _, rfl, .inr (.inl ha.rd), t, _, k + 1, c, rfl, by omega, by omega, hT2, by omega, fun x H3 x0 x1 hT3 hK3 => ?_⟩
      obtain ⟨i, rfl⟩ : ∃ i : Nat, x = (i : Int) := ⟨x.toNat, by omega⟩
      have hi : i < ds.length := by omega
      have ha3 := rd_kp ha an hK3
      have da3 := da.kp hK3
      have hm3 := hK3 _ _ mt hm2
      have dm3 := dm2.kp hK3
      have k3 := k2.trans hK3
      obtain ⟨c1, c2, c3, c4⟩ := idx_cut hi
      obtain ⟨vi, hvi⟩ : ∃ v, xs[i]? = some v := ⟨_, List.getElem?_eq_getElem (by omega)⟩
      obtain ⟨di, hdi, dqi⟩ := da3.get hvi
      clear ha da hm2 dm2 k2 hK3 hT2
      refine ⟨_, rfl, rfl, _, rfl, ite2 (fun _ => ?_) (fun _ => ?_)⟩
      · refine ⟨_, rfl, _, rfl, (i : Int), rfl, ?_⟩
        refine sl_things (lo := none) (hi := some (i : Int)) ha3 an (feed_lst hT3) da3 fd fun u us es H4 s4 un hu du fu eu => ?_
        refine ⟨_, rfl, _, rfl, _, _, rfl, rfl, _, rfl, np_in ?_⟩
        refine sl_things (lo := some ((i : Int) + 1)) (hi := none) (rd_same ha3 s4) an (feed_lst (hT3.same s4)) (da3.same s4) fd fun u2 us2 es2 H5 s5 un2 hu2 du2 fu2 eu2 => ?_
        refine cat_things (rd_same hu s5) hu2 un un2 (feed_lst ((hT3.same s4).same s5)) (du.same s5) du2 fu fu2 (by omega) fun u3 us3 H6 s6 un3 hu3 du3 fu3 => ?_
        have sA := (s4.trans s5).trans s6
        exact q _ _ H6 ((hT3.same sA).mono (by omega)) (k3.trans (.of_same sA)) (dq_rd un3 hu3 du3) (fu3.tup.mono (by omega) (by omega)) (Ltd.tup (by simp only [List.length_append, List.length_cons, List.length_nil, *, List.length_take, List.length_drop]; omega))
      refine ⟨_, rfl, rfl, _, rfl, ite2 (fun _ => ?_) (fun _ => ?_)⟩
      · refine ⟨_, rfl, _, rfl, (i : Int), rfl, ?_⟩
        refine sl_things (lo := none) (hi := some (i : Int)) ha3 an (feed_lst hT3) da3 fd fun u us es H4 s4 un hu du fu eu => ?_
        refine ⟨_, rfl, _, rfl, (i : Int), rfl, _, rfl, _, _, rfl, rfl, _, rfl, ?_⟩
        refine sl_things (lo := some (i : Int)) (hi := some ((i : Int) + 1)) (rd_same ha3 s4) an (feed_lst (hT3.same s4)) (da3.same s4) fd fun u2 us2 es2 H5 s5 un2 hu2 du2 fu2 eu2 => ?_
        refine cat_things (rd_same hu s5) hu2 un un2 (feed_lst ((hT3.same s4).same s5)) (du.same s5) du2 fu fu2 (by omega) fun u3 us3 H6 s6 un3 hu3 du3 fu3 => ?_
        have sA := (s4.trans s5).trans s6
        refine ⟨_, rfl, _, rfl, (i : Int), rfl, np_in ?_⟩
        refine sl_things (lo := some (i : Int)) (hi := none) (rd_same ha3 sA) an (feed_lst (hT3.same sA)) (da3.same sA) fd fun u4 us4 es4 H7 s7 un4 hu4 du4 fu4 eu4 => ?_
        refine cat_things (rd_same hu3 s7) hu4 un3 un4 (feed_lst ((hT3.same sA).same s7)) (du3.same s7) du4 fu3 fu4 (by omega) fun u5 us5 H8 s8 un5 hu5 du5 fu5 => ?_
        have sB := (sA.trans s7).trans s8
        exact q _ _ H8 ((hT3.same sB).mono (by omega)) (k3.trans (.of_same sB)) (dq_rd un5 hu5 du5) (fu5.tup.mono (by omega) (by omega)) (Ltd.tup (by simp only [List.length_append, List.length_cons, List.length_nil, *, List.length_take, List.length_drop]; omega))
      refine ⟨_, rfl, rfl, _, rfl, ite2 (fun _ => ?_) (fun _ => ?_)⟩
      · refine ⟨_, rfl, _, rfl, (i : Int), rfl, ?_⟩
        refine sl_things (lo := none) (hi := some (i : Int)) ha3 an (feed_lst hT3) da3 fd fun u us es' H4 s4 un hu du fu eu => ?_
        have hT4 := hT3.same s4
        refine ⟨_, rfl, _, rfl, _, rfl, mn, _, rfl, .inl (.inl (.inl (s4 _ _ hm3))), t, _, k + 2, c, rfl, by omega, by omega, hT4, by omega, fun x H5 y0 y1 hT5 hK5 => ?_⟩
        have xw : x.toNat < ms.length := by omega
        obtain ⟨e, he, de⟩ := ((dm3.same s4).kp hK5).get (List.getElem?_eq_getElem xw)
        refine ⟨mn, ms, x, ms[x.toNat], rfl, rfl, .inl (.inl (hK5 _ _ mt (s4 _ _ hm3))), atI_int y0 (List.getElem?_eq_getElem xw), sz (by show 1 ≤ 1000; decide), fun c5 n5 => ?_⟩
        have s5 := same_upd (o := .tup [ms[x.toNat]]) n5
        obtain ⟨ct, _⟩ := hT5.ne n5
        have hT6 := hT5.same s5
        have hu5 := rd_same (rd_kp hu un hK5) s5
        refine cat_things hu5 (.inl upd_same) un ct (feed_lst hT6) ((du.kp hK5).same s5) (.cons (de.same s5) .nil) (fu.mono (Nat.le_refl _) (show n - 1 ≤ n - 1 + D by omega)) (((fm.mem (List.mem_of_getElem? he)).mono (Nat.le_refl _) (show D ≤ n - 1 + D by omega)).one) (by omega) fun u3 us3 H7 s7 un3 hu3 du3 fu3 => ?_
        have k7 := ((k3.trans (.of_same s4)).trans hK5).trans (.of_same (s5.trans s7))
        have hT7 := hT6.same s7
        have ha7 := rd_same (rd_kp (rd_same ha3 s4) an hK5) (s5.trans s7)
        have da7 := ((da3.same s4).kp hK5).same (s5.trans s7)
        refine ⟨_, rfl, _, rfl, (i : Int), rfl, np_in ?_⟩
        refine sl_things (lo := some (i : Int)) (hi := none) ha7 an (feed_lst hT7) da7 (fd.mono (Nat.le_refl _) (show n - 1 ≤ n - 1 + D by omega)) fun u4 us4 es4 H8 s8 un4 hu4 du4 fu4 eu4 => ?_
        refine cat_things (rd_same hu3 s8) hu4 un3 un4 (feed_lst (hT7.same s8)) (du3.same s8) du4 fu3 fu4 (by omega) fun u5 us5 H9 s9 un5 hu5 du5 fu5 => ?_
        exact q _ _ H9 ((hT7.same (s8.trans s9)).mono (by omega)) (k7.trans (.of_same (s8.trans s9))) (dq_rd un5 hu5 du5) (fu5.tup.mono (by omega) (by omega)) (Ltd.tup (by simp only [List.length_append, List.length_cons, List.length_nil, *, List.length_take, List.length_drop]; omega))
      refine ⟨_, rfl, rfl, _, rfl, ite2 (fun _ => ?_) (fun _ => ?_)⟩
      · refine ⟨_, rfl, _, rfl, a, _, rfl, .inr (.inl ha3.rd), t, _, k + 2, c, rfl, by omega, by omega, hT3, by omega, fun x H4 y0 y1 hT4 hK4 => ?_⟩
        obtain ⟨o, rfl⟩ : ∃ o : Nat, x = (o : Int) := ⟨x.toNat, by omega⟩
        have ho : o < ds.length := by omega
        have ha4 := rd_kp ha3 an hK4
        have da4 := da3.kp hK4
        obtain ⟨vo, hvo⟩ : ∃ v, xs[o]? = some v := ⟨_, List.getElem?_eq_getElem (by omega)⟩
        refine ⟨_, rfl, a, _, rfl, .inr (.inl ha4.rd), fun L nL => ?_⟩
        obtain ⟨Lt, _⟩ := hT4.ne nL
        have sL := same_upd (o := .lst xs) nL
        have La : L ≠ a := fun z => by rcases z ▸ ha4 with e | ⟨_, ob, e⟩ <;> (rw [nL] at e; cases e)
        have haL := rd_same ha4 sL
        refine ⟨_, _, rfl, ?_⟩
        refine ⟨_, rfl, _, rfl, a, xs, (o : Int), vo, rfl, rfl, .inl haL.rd, atI_int y0 hvo, ?_⟩
        refine ⟨_, rfl, _, rfl, a, xs, (i : Int), vi, rfl, rfl, .inl haL.rd, atI_int (by omega) hvi, sz (by show 2 ≤ 1000; decide), fun c5 n5 => ?_⟩
        obtain ⟨ct, _⟩ := (hT4.same sL).ne n5
        have s5 := same_upd (o := .tup [vo, vi]) n5
        have cL : c5 ≠ L := fun z => by rw [z, upd_same] at n5; cases n5
        refine ⟨c5, [vo, vi], rfl, .inl (.inl upd_same), rfl, vo, [vi], rfl, _, rfl, _, rfl, L, xs, (i : Int), i, rfl, rfl, s5 _ _ upd_same, ixN_of (by omega), ?_⟩
        refine ⟨vi, [], rfl, _, rfl, _, rfl, L, xs.set i vo, (o : Int), o, rfl, rfl, upd_same, ixN_of (by rw [List.length_set]; omega), rfl, ?_⟩
        refine ⟨_, rfl, L, (xs.set i vo).set o vi, rfl, .inl ⟨.inl (.inl upd_same), fun tA nA => ?_⟩⟩
        have s6 : Same H4 (upd (upd (upd (upd H4 L (.lst xs)) c5 (.tup [vo, vi])) L (.lst (xs.set i vo))) L (.lst ((xs.set i vo).set o vi))) := fun b ob e => by
          have h1 : b ≠ L := ne_of_none e nL
          have h2 : b ≠ c5 := ne_of_none (sL _ _ e) n5
          rw [upd_ne h1, upd_ne h1, upd_ne h2, upd_ne h1]
          exact e
        have s7 := s6.trans (same_upd (o := .tup ((xs.set i vo).set o vi)) nA)
        obtain ⟨do_, hdo, dqo⟩ := da4.get hvo
        obtain ⟨di', hdi', dqi'⟩ := da4.get hvi
        obtain ⟨tAt, _⟩ := (hT4.same s6).ne nA
        exact q _ _ _ ((hT4.same s7).mono (by omega)) ((k3.trans hK4).trans (.of_same s7)) (.tup tAt upd_same ((dqs_set dqi' o (dqs_set dqo i da4)).same s7)) (((fd.set (fd.mem (List.mem_of_getElem? hdo))).set (fd.mem (List.mem_of_getElem? hdi'))).tup.mono (by omega) (by omega)) (Ltd.tup (by rw [List.length_set, List.length_set]; omega))
      refine ⟨_, rfl, rfl, _, rfl, ite2 (fun _ => ?_) (fun _ => ?_)⟩
      · refine ⟨_, rfl, a, _, rfl, .inr (.inl ha3.rd), fun L nL => ?_⟩
        obtain ⟨Lt, _⟩ := hT3.ne nL
        have sL := same_upd (o := .lst xs) nL
        exact q _ _ _ ((hT3.same sL).mono (by omega)) (k3.trans (.of_same sL)) (.lst Lt upd_same (da3.same sL)) (fd.lst.mono (by omega) (by omega)) (fun _ z => by cases z)
      · refine ⟨_, rfl, _, rfl, (i : Int), rfl, ?_⟩
        refine sl_things (lo := none) (hi := some (i : Int)) ha3 an (feed_lst hT3) da3 fd fun u us es' H4 s4 un hu du fu eu => ?_
        have hT4 := hT3.same s4
        obtain ⟨n', rfl⟩ : ∃ n', n = n' + 1 := ⟨n - 1, by omega⟩
        have eu1 : es' = ds.take i := by
          rw [eu, c3]
          rfl
        have wc := wts_cut hdi
        have wd := fd.wt
        have fi := fd.mem (List.mem_of_getElem? hdi)
        have fi : Fit di (wt di) n' := ⟨fi.sh, Nat.le_refl _, fi.dp⟩
        have fu' : Fits es' (wts es') (n' + D) := ⟨fu.sh, Nat.le_refl _, Nat.le_trans fu.dp (by omega)⟩
        refine ⟨_, rfl, _, rfl, _, rfl, a, xs, (i : Int), vi, rfl, rfl, .inl (rd_same ha3 s4).rd, atI_int (by omega) hvi, _, rfl, ?_⟩
        refine ⟨t, c, mn, vi, di, ms, es, k + 2, wt di, M, D, l + wt di, rfl, hT4, by omega, dqi.same s4, fi, lt_wt.mono (by omega), mt, s4 _ _ hm3, dm3.same s4, m0, fm, fun e he => (lts e he).mono (by omega), by omega, by omega, fun v' d' H5 hT5 hK5 dq' ft' _ => ?_⟩
        refine ⟨sz (by show 1 ≤ 1000; decide), fun c5 n5 => ?_⟩
        have s5 := same_upd (o := .tup [v']) n5
        obtain ⟨ct, _⟩ := hT5.ne n5
        have hT6 := hT5.same s5
        have hu5 := rd_same (rd_kp hu un hK5) s5
        subst eu1
        refine cat_things hu5 (.inl upd_same) un ct (feed_lst hT6) ((du.kp hK5).same s5) (.cons (dq'.same s5) .nil) fu' ft'.one (by omega) fun u3 us3 H7 s7 un3 hu3 du3 fu3 => ?_
        have k7 := ((k3.trans (.of_same s4)).trans hK5).trans (.of_same (s5.trans s7))
        have hT7 := hT6.same s7
        have ha7 := rd_same (rd_kp (rd_same ha3 s4) an hK5) (s5.trans s7)
        have da7 := ((da3.same s4).kp hK5).same (s5.trans s7)
        refine ⟨_, rfl, _, rfl, _, _, rfl, rfl, _, rfl, np_in ?_⟩
        refine sl_things (lo := some ((i : Int) + 1)) (hi := none) ha7 an (feed_lst hT7) da7 (fd.mono (Nat.le_refl _) (show n' + 1 - 1 ≤ n' + D by omega)) fun u4 us4 es4 H8 s8 un4 hu4 du4 fu4 eu4 => ?_
        have eu5 : es4 = ds.drop (i + 1) := by
          rw [eu4, c2]
          exact List.take_of_length_le (by rw [List.length_drop]; exact Nat.le_refl _)
        subst eu5
        have fu4' : Fits (ds.drop (i + 1)) (wts (ds.drop (i + 1))) (n' + D) := ⟨fu4.sh, Nat.le_refl _, fu4.dp⟩
        refine cat_things (rd_same hu3 s8) hu4 un3 un4 (feed_lst (hT7.same s8)) (du3.same s8) du4 fu3 fu4' (by omega) fun u5 us5 H9 s9 un5 hu5 du5 fu5 => ?_
        exact q _ _ H9 ((hT7.same (s8.trans s9)).mono (by omega)) (k7.trans (.of_same (s8.trans s9))) (dq_rd un5 hu5 du5) (fu5.tup.mono (by omega) (by omega)) (Ltd.tup (by simp only [List.length_append, List.length_cons, List.length_nil, List.length_take, List.length_drop]; omega))
theorem spoilt_all (T : Tx K mg) {fz : Bool} : ∀ n : Nat, FnOk P w K mg base CX0 (3 + n) T.f_w_spoilt T.d_w_spoilt ["_law_feed_here", "_law_thing", "_law_menu"] (spSpoilt fz n)
  | 0 => spoilt_step T (n := 0) (j := 2) (by decide) (T.F_w_spoilt.ok (k := 1) S_w_spoilt (fun vs H Q E h => h.elim) (fun cdv A outer s H vs Q E hr h => h.elim))
  | n + 1 => spoilt_step T (n := n + 1) (j := 3 + n) (by omega) (spoilt_all T n)
end
end L53

set_option Elab.async false
set_option linter.all false
set_option maxRecDepth 100000
set_option maxHeartbeats 2000000
namespace L53
open PySem PySem.Spec PyProof.Rows L2 My
section
variable {P : Program} {w : World} {K : PySem.W.Frag} {mg : Str → Option Value} {base : Heap}
/-- the data of a saying -/
def sayD (p : Str × Str) : PyData := .tuple [.str p.1, .str p.2]
open Classical in
/-- the thing is a saying of the names -/
noncomputable def isSay (zs : List Str) (d : PyData) : Bool := decide (∃ p, d = sayD p ∧ InP zs p)
open Classical in
/-- the thing is sayings of the names -/
noncomputable def isSays (zs : List Str) (d : PyData) : Bool := decide (∃ ps : List (Str × Str), d = .tuple (ps.map sayD) ∧ (∀ p ∈ ps, InP zs p) ∧ Rs (ps.map sayK))
theorem is_say {zs : List Str} {d : PyData} {p : Str × Str} (e : d = sayD p) (h : InP zs p) : isSay zs d = true := by
  unfold isSay
  classical exact decide_eq_true ⟨p, e, h⟩
theorem is_say_no {zs : List Str} {d : PyData} (h : ∀ p, d = sayD p → ¬ InP zs p) : isSay zs d = false := by
  unfold isSay
  classical exact decide_eq_false fun ⟨p, e, i⟩ => h p e i
theorem in_text {zs : List Str} {d : PyData} (h : inT zs d = true) : ∃ z ∈ zs, d = .str z := by
  obtain ⟨z, hz, e⟩ := List.any_eq_true.mp h
  cases d with
  | str y => exact ⟨z, hz, by rw [eq_of_beq (show (z == y) = true from e)]⟩
  | none => cases e
  | bool b => cases e
  | int i => cases e
  | tuple l => cases e
  | list l => cases e
  | dict l => cases e
theorem in_of {zs : List Str} {z : Str} (h : z ∈ zs) : inT zs (.str z) = true := List.any_eq_true.mpr ⟨z, h, beq_self_eq_true z⟩
theorem dqs_pair {fz : Bool} {t : Addr} {H : Hp} {xs : List V} {ds : List PyData} (h : DqAll fz t H xs ds) (n : xs.length = 2) : ∃ x y d e, xs = [x, y] ∧ ds = [d, e] ∧ Dq fz t H x d ∧ Dq fz t H y e := by
  cases h with
  | nil => cases n
  | cons h1 h =>
    cases h with
    | nil => cases n
    | cons h2 h =>
      cases h with
      | nil => exact ⟨_, _, _, _, rfl, rfl, h1, h2⟩
      | cons _ _ => simp at n
def spIs : Sp := fun vs H Q _ => ∃ (fz : Bool) (t n : Addr) (v : V) (d : PyData) (zs : List Str), vs = [.ref n, v] ∧ H n = some (.tup (zs.map V.str)) ∧ Dq fz t H v d ∧ Q (.bl (isSay zs d)) H
theorem ok_iss (T : Tx K mg) : FnOk P w K mg base CX0 1 T.f_is_saying T.d_is_saying ["names", "thing"] (spIs) := by
  refine T.F_is_saying.ok S_is_saying (fun vs H Q E h => ?_) (fun cdv A outer s H vs Q E hr h => ?_)
  · obtain ⟨fz, t, n, v, d, zs, rfl, _⟩ := h
    rfl
  · obtain ⟨fz, t, n, v, d, zs, rfl, hn, dq, q⟩ := h
    refine ⟨_, (pss_cons (ps_if (PW.pt (pw_or (pt_not (pt_val (pe_callB call_isi (by rfl) T.m_isinstance (by decide +kernel) (pa_cons (pv 1) (pa_cons (pe_bltn (v := .ty "tuple") (by rfl) T.m_tuple (by decide +kernel) rfl) pa_nil))))) (pw_or1 (pt_cmpR op_ne (pe_callB call_len_seq (by rfl) T.m_len PySem.boot_len (pa_cons (pv 1) pa_nil)) pe_int (nomark _))))) (pss_one (ps_ret pe_bl)) pss_nil)
      (pss_one (ps_ret (pe_and (pe_cmpR (op_inQT (un64 hr)) (pe_ix ix_tup (pv 1) pe_int (fun _ _ => rfl)) (pv 0) (by rfl)) (pe_and (pe_cmpR (op_inQT (un64 hr)) (pe_ix ix_tup (pv 1) pe_int (fun _ _ => rfl)) (pv 0) (by rfl)) (pe_one (pe_cmpR op_ne (pe_ix ix_tup (pv 1) pe_int (fun _ _ => rfl)) (pe_ix ix_tup (pv 1) pe_int (fun _ _ => rfl)) (nomark _)))))))), ?_⟩
    obtain ⟨u, ty, ki⟩ := dq_kind (K := K) (n := "tuple") (.inr (.inr (.inr rfl))) dq
    refine ⟨_, rfl, _, _, u, _, _, rfl, .ty _, ty, ki, _, rfl, ?_⟩
    by_cases kq : kindQ "tuple" d = true
    · obtain ⟨ds, rfl⟩ := kind_tuple kq
      obtain ⟨a, xs, rfl, an, ha, da⟩ := dq_tuple_at dq
      rw [kq]
      refine iteF ?_
      have ld := da.length
      refine ⟨_, rfl, a, _, rfl, .inr (.inl ha.rd), rfl, _, rfl, ite2 (fun e => ?_) (fun e => ?_)⟩
      · rw [is_say_no fun p z => ?_] at q
        · exact q
        · cases z
          rw [ld] at e
          exact absurd e (by simp)
      · obtain ⟨x, y, d1, d2, rfl, rfl, q1, q2⟩ := dqs_pair da (by
          have e : (xs.length : Int) = 2 := by simpa using e
          omega)
        refine ⟨_, rfl, a, _, 0, x, rfl, rfl, .inl ha.rd, rfl, _, rfl, fz, t, n, zs, d1, rfl, .inr (.inl (.inl hn)), q1, _, rfl, ite2 (fun e1 => ?_) (fun e1 => ?_)⟩
        · refine ⟨_, rfl, a, _, 1, y, rfl, rfl, .inl ha.rd, rfl, _, rfl, fz, t, n, zs, d2, rfl, .inr (.inl (.inl hn)), q2, _, rfl, ite2 (fun e2 => ?_) (fun e2 => ?_)⟩
          · obtain ⟨z1, m1, rfl⟩ := in_text e1
            obtain ⟨z2, m2, rfl⟩ := in_text e2
            cases q1
            cases q2
            refine ⟨_, rfl, a, _, 0, .str z1, rfl, rfl, .inl ha.rd, rfl, _, rfl, a, _, 1, .str z2, rfl, rfl, .inl ha.rd, rfl, rfl, ?_⟩
            by_cases zz : z1 = z2
            · rw [is_say_no fun p z hp => ?_] at q
              · rw [zz, decide_eq_true rfl]
                exact q
              · cases z
                exact hp.2.2 zz
            · rw [show isSay zs (.tuple [.str z1, .str z2]) = true from is_say (p := (z1, z2)) rfl ⟨m1, m2, zz⟩] at q
              rw [decide_eq_false fun z => zz (V.str.inj z)]
              exact q
          · rw [is_say_no fun p z hp => ?_] at q
            · exact q
            · cases z
              exact e2 (in_of hp.2.1)
        · rw [is_say_no fun p z hp => ?_] at q
          · exact q
          · cases z
            exact e1 (in_of hp.1)
    · rw [Bool.eq_false_iff.mpr kq]
      rw [is_say_no fun p z => ?_] at q
      · exact iteT q
      · subst z
        exact absurd rfl kq
theorem ok_wiss (T : Tx K mg) : FnOk P w K mg base CX0 1 T.f_w_is_saying T.d_w_is_saying ["_law_names_here", "_law_thing"] (spIs) := by
  refine T.F_w_is_saying.ok S_w_is_saying (fun vs H Q E h => ?_) (fun cdv A outer s H vs Q E hr h => ?_)
  · obtain ⟨fz, t, n, v, d, zs, rfl, _⟩ := h
    rfl
  · obtain ⟨fz, t, n, v, d, zs, rfl, hn, dq, q⟩ := h
    refine ⟨_, (pss_cons (ps_if (PW.pt (pw_or (pt_not (pt_val (pe_callB call_isi (by rfl) T.m_isinstance (by decide +kernel) (pa_cons (pv 1) (pa_cons (pe_bltn (v := .ty "tuple") (by rfl) T.m_tuple (by decide +kernel) rfl) pa_nil))))) (pw_or1 (pt_cmpR op_ne (pe_callB call_len_seq (by rfl) T.m_len PySem.boot_len (pa_cons (pv 1) pa_nil)) pe_int (nomark _))))) (pss_one (ps_ret pe_bl)) pss_nil)
      (pss_one (ps_ret (pe_and (pe_cmpR (op_inQT (un64 hr)) (pe_ix ix_tup (pv 1) pe_int (fun _ _ => rfl)) (pv 0) (by rfl)) (pe_and (pe_cmpR (op_inQT (un64 hr)) (pe_ix ix_tup (pv 1) pe_int (fun _ _ => rfl)) (pv 0) (by rfl)) (pe_one (pe_cmpR op_ne (pe_ix ix_tup (pv 1) pe_int (fun _ _ => rfl)) (pe_ix ix_tup (pv 1) pe_int (fun _ _ => rfl)) (nomark _)))))))), ?_⟩
    obtain ⟨u, ty, ki⟩ := dq_kind (K := K) (n := "tuple") (.inr (.inr (.inr rfl))) dq
    refine ⟨_, rfl, _, _, u, _, _, rfl, .ty _, ty, ki, _, rfl, ?_⟩
    by_cases kq : kindQ "tuple" d = true
    · obtain ⟨ds, rfl⟩ := kind_tuple kq
      obtain ⟨a, xs, rfl, an, ha, da⟩ := dq_tuple_at dq
      rw [kq]
      refine iteF ?_
      have ld := da.length
      refine ⟨_, rfl, a, _, rfl, .inr (.inl ha.rd), rfl, _, rfl, ite2 (fun e => ?_) (fun e => ?_)⟩
      · rw [is_say_no fun p z => ?_] at q
        · exact q
        · cases z
          rw [ld] at e
          exact absurd e (by simp)
      · obtain ⟨x, y, d1, d2, rfl, rfl, q1, q2⟩ := dqs_pair da (by
          have e : (xs.length : Int) = 2 := by simpa using e
          omega)
        refine ⟨_, rfl, a, _, 0, x, rfl, rfl, .inl ha.rd, rfl, _, rfl, fz, t, n, zs, d1, rfl, .inr (.inl (.inl hn)), q1, _, rfl, ite2 (fun e1 => ?_) (fun e1 => ?_)⟩
        · refine ⟨_, rfl, a, _, 1, y, rfl, rfl, .inl ha.rd, rfl, _, rfl, fz, t, n, zs, d2, rfl, .inr (.inl (.inl hn)), q2, _, rfl, ite2 (fun e2 => ?_) (fun e2 => ?_)⟩
          · obtain ⟨z1, m1, rfl⟩ := in_text e1
            obtain ⟨z2, m2, rfl⟩ := in_text e2
            cases q1
            cases q2
            refine ⟨_, rfl, a, _, 0, .str z1, rfl, rfl, .inl ha.rd, rfl, _, rfl, a, _, 1, .str z2, rfl, rfl, .inl ha.rd, rfl, rfl, ?_⟩
            by_cases zz : z1 = z2
            · rw [is_say_no fun p z hp => ?_] at q
              · rw [zz, decide_eq_true rfl]
                exact q
              · cases z
                exact hp.2.2 zz
            · rw [show isSay zs (.tuple [.str z1, .str z2]) = true from is_say (p := (z1, z2)) rfl ⟨m1, m2, zz⟩] at q
              rw [decide_eq_false fun z => zz (V.str.inj z)]
              exact q
          · rw [is_say_no fun p z hp => ?_] at q
            · exact q
            · cases z
              exact e2 (in_of hp.2.1)
        · rw [is_say_no fun p z hp => ?_] at q
          · exact q
          · cases z
            exact e1 (in_of hp.1)
    · rw [Bool.eq_false_iff.mpr kq]
      rw [is_say_no fun p z => ?_] at q
      · exact iteT q
      · subst z
        exact absurd rfl kq
end
end L53

set_option Elab.async false
set_option linter.all false
set_option maxRecDepth 100000
set_option maxHeartbeats 4000000
/-! set(t) of a tuple. -/
namespace My
open PySem PySem.Spec PyProof.Rows L2 PySem.SeqAt
section
variable {P : Program} {w : World} {A : Around} {E : Value → Shared → Prop} {s : Shared}
theorem callGT {l : Addr} {items : Array Value} {Q : Value → Shared → Prop} {T : Nat → Heap → Prop} (hh : A.handled = none) (hl : s.heap.IsTuple l items)
    (D : Adds P w A.in1.in1.in1 s.heap.objs.size [s.heap.objs.size + 1] items.size (fun i v => items[i]? = some v) T)
    (t0 : ∀ h : Heap, h.get? s.heap.objs.size = some (freshSet w) → (∀ b o, s.heap.get? b = some o → h.get? b = some o) → T 0 h)
    (q : ∀ (h' : Heap) (tk : Nat), T items.size h' → (∀ b o, s.heap.get? b = some o → h'.get? b = some o) → Q (.ref s.heap.objs.size) { s with heap := h', toks := tk }) :
    wpAny (model P w) A (call (.type "set") [.ref l]) Q E s := by
  obtain ⟨c, tl, f1⟩ := PySem.F.called_set.mro
  have f2 := PySem.F.called_set.made
  have f3 := PySem.F.called_set.sub
  refine wpAny_call (codeAny_of_tree (?_ : wpAny _ _ (callAny (.type "set") _) _ _ _))
  refine wpAny_pure ⟨Code.quiet_builtin _ (by decide +kernel), codeAny_builtin PySem.F.entry_type_call ?_⟩
  rw [Around.under_plain (weight_type_call_type "set" [.ref l] []) rfl]
  have f4 := PySem.F.called_set.notType
  have f5 := PySem.F.called_set.canCreate
  have f6 := F.typeCall_set_1 (.ref l)
  repeat (any_goals (first | assumption | wp_step))
  refine codeAny_mono (code_set_led1 (.ref l) (E := E) (Q₁ := fun v now => v = .ref s.heap.objs.size ∧ now = { s with heap := s.heap.push (freshSet w) }) ⟨rfl, rfl⟩) fun r now hr => ?_
  match r, hr with
  | .error e, hr => exact hr
  | .ok (.ret v), hr =>
    obtain ⟨rfl, rfl⟩ := hr
    have hS : (s.heap.push (freshSet w)).get? s.heap.objs.size = some (freshSet w) := Heap.get?_push_size _ rfl
    have hT : Shared.TypeIs { s with heap := s.heap.push (freshSet w) } (.ref s.heap.objs.size) "set" := ⟨_, hS, rfl⟩
    have f7 := F.called_set.init.lookup
    have f8 := F.called_set.init.bind (.ref s.heap.objs.size)
    repeat (any_goals (first | assumption | wp_step))
    refine codeAny_mono (codeAny_call_builtin (R := wants (fun r s₂ => r = .none ∧ ∃ h' tk, s₂ = { s with heap := h', toks := tk } ∧ T items.size h' ∧ ∀ b o, s.heap.get? b = some o → h'.get? b = some o) E) F.called_set.init.plain F.entry_set_init (check_set_init_1 hT ?_)) fun r₂ s₂ hr₂ => ?_
    · obtain ⟨⟨ocls, odict, odata, oslots⟩, o1, o2, nl, o3⟩ := hl
      simp only at o2 o3
      subst o2 o3
      have o4 : (s.heap.push (freshSet w)).get? l = some { cls := .type "tuple", dict := odict, data := .seq items nl, slots := oslots } := Heap.get?_push_of_some _ o1
      have f9 := F.sub_tuple_set
      have f10 := F.sub_tuple_frozenset
      have f11 : (Value.type "tuple" == Value.type "dict") = false := by decide
      have hl1 : (s.heap.push (freshSet w)).IsTuple l items := ⟨_, o4, rfl, nl, rfl⟩
      have lS : l < s.heap.objs.size := Heap.lt_size o1
      have z1 : (s.heap.push (freshSet w)).objs.size = s.heap.objs.size + 1 := Heap.size_push ..
      unfold Builtin.«set.__init__» noKeywords Builtin.Frozenset.updateFrom
      generalize hPI : pyIter = PI
      wp_walk
      subst hPI
      refine wpAny_pyIter_tuple hl1 (wpAny_bind (wpAny_runValue ?_))
      have ne1 : l ≠ (s.heap.push (freshSet w)).objs.size := by rw [z1]; exact Nat.ne_of_lt (Nat.lt_succ_of_lt lS)
      have D2 := D
      rw [← z1] at D2
      refine updateG ((Walks.tuple (by simp [hh]) _ l ne1 items).toS) (S := s.heap.objs.size) (by rw [z1]; simp only [List.mem_cons, List.not_mem_nil, or_false, not_or]; exact ⟨Nat.ne_of_lt (Nat.lt_succ_self _), (Nat.ne_of_lt lS).symm⟩) D2 (items.size - 0) 0 _ rfl (Nat.zero_le _) ⟨⟨_, Heap.get?_push_size _ rfl, rfl, rfl⟩, hl1.push _⟩ (t0 _ (Heap.get?_push_of_some _ hS) fun b o e => Heap.get?_push_of_some _ (Heap.get?_push_of_some _ e)) fun s' m t1 => ?_
      obtain ⟨h', g', d', tk', os'⟩ := s'
      have eg : g' = s.gens := m.gens
      have ed : d' = s.drawn := m.drawn
      have eo : os' = s.os := m.os
      subst eg ed eo
      refine wpAny_pure (wpAny_pure ⟨rfl, h', tk', rfl, t1, fun b o e => ?_⟩)
      have lt := Heap.lt_size e
      refine m.heap b o ?_ (Heap.get?_push_of_some _ (Heap.get?_push_of_some _ e))
      rw [z1]
      simp only [List.mem_cons, List.not_mem_nil, or_false, not_or]
      exact ⟨Nat.ne_of_lt lt, Nat.ne_of_lt (Nat.lt_succ_of_lt lt)⟩
    · match r₂, hr₂ with
      | .error e, hr₂ => exact hr₂
      | .ok (.ret r), hr₂ =>
        obtain ⟨rfl, h', tk, rfl, t1, kp⟩ := hr₂
        repeat (any_goals (first | assumption | wp_step))
        exact q _ _ t1 kp
end
section
variable {X : Cx}
def rSetNT (K : PySem.W.Frag) (w : World) : List V → Hp → VK → Prop := fun xs H Q => ∃ (l : Addr) (ks : List Ent), xs = [V.ref l] ∧ SqT K H l (ks.map fun p => V.ref p.1) ∧ (∀ p ∈ ks, Nk H (.ref p.1) p.2 ∧ p.2.depth ≤ 8) ∧ ks.length ≤ 76 ∧
  ∀ a M, H a = none → (∀ p ∈ M, p ∈ ks) → (∀ p ∈ ks, p.2 ∈ M.map (·.2)) → (M.map (·.2)).Nodup → Q (.ref a) (upd H a (SetO w a M))
theorem cr_setNT (hc : X.calm = true) (hu : X.A.units + 64 < cLine) : CallR X (.type "set") (rSetNT X.K X.w) := by
  intro pins s σ H xs us Q I r h
  obtain ⟨l, ks, rfl, hl, hk, few, q⟩ := h
  rw [Vals.ref1 r]
  obtain ⟨its, rv, pl, hz⟩ := I.tuple hl
  have ei := vals_ref rv
  have non : ∀ b, s.heap.objs.size ≤ b → s.heap.get? b = none := fun b lb => by
    cases e : s.heap.get? b with
    | none => rfl
    | some o => exact absurd (Nat.lt_of_lt_of_le (Heap.lt_size e) lb) (Nat.lt_irrefl _)
  refine callGT (P := X.prog) (w := X.w) (items := its.toArray) (I.ok.hd hc) pl (addsN (h0 := s.heap) (ks := ks) (by rw [List.size_toArray, ei, List.length_map]) few (fun i v e => ?_) (fun p hp => (hk p hp).1.keyAt I (hk p hp).2) (non _ (Nat.le_refl _)) (fun b hb => ?_) ?_ (by show X.A.units + 1 + 1 + 1 + 8 < cLine; omega))
    (fun h g kp => ⟨⟨[], _, _, _, fresh_set g, .none ks⟩, kp⟩) fun h' tk t1 kp => ?_
  · rw [List.getElem?_toArray, ei, List.getElem?_map] at e
    cases e2 : ks[i]? with
    | none => rw [e2] at e; cases e
    | some p => rw [e2] at e; exact ⟨p, rfl, (Option.some.inj e).symm⟩
  · rw [List.mem_singleton.mp hb]; exact non _ (Nat.le_succ _)
  · intro z
    exact Nat.ne_of_lt (Nat.lt_succ_self _) (List.mem_singleton.mp z)
  · obtain ⟨⟨M, es, ep, t, Z, g⟩, _⟩ := t1
    rw [List.size_toArray, ei, List.length_map] at g
    refine ⟨.ref s.heap.objs.size, upd H s.heap.objs.size (SetO X.w s.heap.objs.size M), I.laid (t' := tk) kp (Nat.le_refl _) (setO_new Z.w), rfl, q _ M (I.hok.fresh (Nat.le_refl _)) (fun p hp => List.mem_of_mem_take (g.sub p hp)) (fun p hp => g.all p (by rw [List.take_length]; exact hp)) Z.nd⟩
end
end My

set_option Elab.async false
set_option linter.all false
set_option maxRecDepth 100000
set_option maxHeartbeats 2000000
namespace L53
open PySem PySem.Spec PyProof.Rows L2 My
section
variable {P : Program} {w : World} {K : PySem.W.Frag} {mg : Str → Option Value} {base : Heap}
theorem rs_of_near : ∀ {ls : List NestedKey}, (∀ (k : Nat) (a b : NestedKey), ls[k]? = some a → ls[k + 1]? = some b → befK a b = true) → Rs ls
  | [], _ => .nil
  | [a], _ => List.pairwise_cons.mpr ⟨fun c hc => (by cases hc), .nil⟩
  | a :: b :: l, h => by
    have r := rs_of_near (ls := b :: l) fun k x y e1 e2 => h (k + 1) x y e1 e2
    refine List.pairwise_cons.mpr ⟨fun c hc => ?_, r⟩
    rcases List.mem_cons.mp hc with rfl | m
    · exact h 0 a c rfl rfl
    · exact lex_trans _ _ _ (h 0 a b rfl rfl) ((List.pairwise_cons.mp r).1 c m)
theorem rs_near {ls : List NestedKey} (h : Rs ls) {k : Nat} {a b : NestedKey} (e1 : ls[k]? = some a) (e2 : ls[k + 1]? = some b) : befK a b = true := by
  obtain ⟨l1, e1⟩ := List.getElem?_eq_some_iff.mp e1
  obtain ⟨l2, e2⟩ := List.getElem?_eq_some_iff.mp e2
  have := List.pairwise_iff_getElem.mp h k (k + 1) l1 l2 (by omega)
  rw [e1, e2] at this
  exact this
open Classical in
noncomputable def rsB (ls : List NestedKey) : Bool := decide (Rs ls)
theorem rsB_true {ls : List NestedKey} (h : Rs ls) : rsB ls = true := by
  unfold rsB
  classical exact decide_eq_true h
theorem rsB_false {ls : List NestedKey} (h : ¬ Rs ls) : rsB ls = false := by
  unfold rsB
  classical exact decide_eq_false h
def spRise (T : Tx K mg) : Sp := fun vs H Q _ => ∃ (q : Addr) (ys : List V) (ls : List NestedKey), vs = [.ref q] ∧ H q = some (.tup ys) ∧ NkAll H ys ls ∧ (∀ k ∈ ls, ∃ p, k = sayK p) ∧ ys.length ≤ 75 ∧ Tbs (tbs T) H ∧ ∀ H', Gk (tbs T) H H' → Q (.bl (rsB ls)) H'
theorem ok_rise (T : Tx K mg) (B : Tb T base) : FnOk P w K mg base CX0 2 T.f_is_rising T.d_is_rising ["things"] (spRise T) := by
  refine T.F_is_rising.ok S_is_rising (fun vs H Q E h => ?_) (fun A outer s H vs Q E hr h => ?_)
  · obtain ⟨q, ys, ls, rfl, _⟩ := h
    rfl
  · obtain ⟨a, ys, ls, rfl, ha, nk, sy, ly, hB, q⟩ := h
    refine ⟨_, (pss_one (ps_ret (GE.pe_allG (own := [("k", 1)]) (g := gName 1) (tt := tYes) (by rfl) S_is_rising.nd hr (by rfl) T.m_all B.b_is_rising rfl ⟨blkOk_by (own := [("k", 1)]) (N := N_is_rising) (sc := defScope s_is_rising) (by decide +kernel), rfl, (by decide +kernel), (by decide +kernel)⟩ (pi_range1 (by rfl) T.m_range (pa_cons (pe_op op_sub (pe_callB call_len_seq (by rfl) T.m_len PySem.boot_len (pa_cons (pv 0) pa_nil)) pe_int) pa_nil)) (fun _ _ _ _ _ _ hr => (pg_name (i := 1) S_is_rising.nd rfl (.inl rfl))) (fun _ _ _ _ _ _ hr => pts_nil) (fun _ _ _ _ _ _ hr => (pe_cmpR (op_ltN (un64 hr)) (pe_ix (r := rIxT K) ix_tup (pv 0) (pv 1) (fun _ _ => rfl)) (pe_ix (r := rIxT K) ix_tup (pv 0) (pe_op op_add (pv 1) pe_int) (fun _ _ => rfl)) (nomark _)))))), ?_⟩
    have hl := nk.length
    refine ⟨_, rfl, a, _, rfl, .inr (.inl (.inl ha)), _, _, rfl, rfl, _, rfl, by omega, by omega, hB _ (by simp [tbs]), fun H2 tab => ?_⟩
    have tk : Tk (tbs T) H H2 := .of hB (by simp [tbs]) tab
    have g2 := tk.gk hB
    have ha2 := g2.tup ha
    have nk2 := nk.at (Tups.gk g2)
    refine GE.ag_it walk_range (fun i H' => H' = H2 ∧ ∀ (k : Nat) (x y : NestedKey), k < i → ls[k]? = some x → ls[k + 1]? = some y → befK x y = true) ⟨rfl, fun k x y hk => by omega⟩ (fun _ _ _ _ => trivial) ?_ ?_
    · rintro i x H3 H4 hi ⟨rfl, hp⟩ ⟨rfl, rfl⟩
      have h1 : i < ys.length := by omega
      have h2 : i + 1 < ys.length := by omega
      obtain ⟨k1, hk1, n1⟩ := nk2.get (List.getElem?_eq_getElem h1)
      obtain ⟨k2, hk2, n2⟩ := nk2.get (List.getElem?_eq_getElem h2)
      obtain ⟨p1, rfl⟩ := sy k1 (List.mem_of_getElem? hk1)
      obtain ⟨p2, rfl⟩ := sy k2 (List.mem_of_getElem? hk2)
      refine ⟨rfl, tYesT ?_⟩
      refine ⟨_, rfl, _, rfl, a, _, _, ys[i], rfl, rfl, .inl (.inl ha2), at_of (j := i) (by omega) (List.getElem?_eq_getElem h1), ?_⟩
      refine ⟨_, rfl, _, rfl, _, _, rfl, rfl, a, _, _, ys[i + 1], rfl, rfl, .inl (.inl ha2), at_of (j := i + 1) (by omega) (List.getElem?_eq_getElem h2), ?_⟩
      refine ⟨sayK p1, sayK p2, _, n1, n2, Nat.le_trans (say_depth p1) (by decide), bef_lt p1 p2, _, rfl, fun e => ?_, fun e => ⟨rfl, fun k x y hk e1 e2 => ?_⟩⟩
      · have := q H4 g2
        rw [rsB_false fun z => ?_] at this
        · exact this
        · rw [rs_near z hk1 hk2] at e
          cases e
      · by_cases z : k = i
        · subst z
          rw [hk1] at e1
          rw [hk2] at e2
          cases e1
          cases e2
          simpa using e
        · exact hp k x y (by omega) e1 e2
    · rintro H3 ⟨rfl, hp⟩
      have := q _ g2
      rw [rsB_true (rs_of_near fun k x y e1 e2 => hp k x y (by have := (List.getElem?_eq_some_iff.mp e2).1; omega) e1 e2)] at this
      exact this
theorem isays_yes {zs : List Str} {ps : List (Str × Str)} (a : ∀ p ∈ ps, InP zs p) (r : Rs (ps.map sayK)) : isSays zs (.tuple (ps.map sayD)) = true := by
  unfold isSays
  classical exact decide_eq_true ⟨ps, rfl, a, r⟩
theorem isays_no {zs : List Str} {d : PyData} (h : ∀ ps : List (Str × Str), d = .tuple (ps.map sayD) → (∀ p ∈ ps, InP zs p) → ¬ Rs (ps.map sayK)) : isSays zs d = false := by
  unfold isSays
  classical exact decide_eq_false fun ⟨ps, e, a, r⟩ => h ps e a r
theorem sayD_inj {p q : Str × Str} (e : sayD p = sayD q) : p = q := by
  unfold sayD at e
  injection e with e
  injection e with e1 e2
  injection e1 with e1
  injection e2 with e2 e3
  injection e2 with e2
  exact Prod.ext e1 e2
theorem sayDs_inj : ∀ {ps qs : List (Str × Str)}, ps.map sayD = qs.map sayD → ps = qs
  | [], [], _ => rfl
  | [], _ :: _, e => by cases e
  | _ :: _, [], e => by cases e
  | p :: ps, q :: qs, e => by
    rw [List.map_cons, List.map_cons] at e
    injection e with e1 e2
    rw [sayD_inj e1, sayDs_inj e2]
theorem isays_rs {zs : List Str} {ps : List (Str × Str)} (a : ∀ p ∈ ps, InP zs p) : isSays zs (.tuple (ps.map sayD)) = rsB (ps.map sayK) := by
  by_cases r : Rs (ps.map sayK)
  · rw [rsB_true r, isays_yes a r]
  · rw [rsB_false r]
    refine isays_no fun qs e _ => ?_
    injection e with e
    rwa [← sayDs_inj e]
/-- all of them sayings: which ones -/
theorem all_says {zs : List Str} : ∀ {ds : List PyData}, (∀ (k : Nat) (d : PyData), ds[k]? = some d → isSay zs d = true) → ∃ ps : List (Str × Str), ds = ps.map sayD ∧ ∀ p ∈ ps, InP zs p
  | [], _ => ⟨[], rfl, fun p hp => by cases hp⟩
  | d :: ds, h => by
    obtain ⟨ps, e, a⟩ := all_says (ds := ds) fun k x hx => h (k + 1) x hx
    have := h 0 d rfl
    unfold isSay at this
    obtain ⟨p, rfl, hp⟩ := @of_decide_eq_true _ (_) this
    exact ⟨p :: ps, by rw [List.map_cons, e], fun x hx => (List.mem_cons.mp hx).elim (fun e => by rw [e]; exact hp) (a x)⟩
theorem is_say_of {zs : List Str} {d : PyData} (h : ¬ isSay zs d = true) (p : Str × Str) (e : d = sayD p) : ¬ InP zs p := fun i => h (is_say e i)
theorem dq_say {t : Addr} {H : Hp} {v : V} {p : Str × Str} (h : Dq false t H v (sayD p)) : Nk H v (sayK p) := by
  unfold sayD at h
  cases h with
  | tup n e q =>
    cases q with
    | cons q1 q =>
      cases q with
      | cons q2 q =>
        cases q
        cases q1
        cases q2
        exact nk_say e
  | frz f _ _ _ => cases f
theorem dqs_of_says {t : Addr} {H : Hp} : ∀ {ps : List (Str × Str)} {vs : List V}, DqAll false t H vs (ps.map sayD) → ∃ es : List Ent, vs = es.map (fun p => V.ref p.1) ∧ es.map (·.2) = ps.map sayK
  | [], _, .nil => ⟨[], rfl, rfl⟩
  | p :: ps, _, .cons a h => by
    obtain ⟨es, rfl, e⟩ := dqs_of_says h
    obtain ⟨q, rfl, _⟩ := say_nk (dq_say a)
    exact ⟨(q, sayK p) :: es, rfl, by rw [List.map_cons, List.map_cons, e]⟩
theorem dqs_say {t : Addr} {H : Hp} : ∀ {ps : List (Str × Str)} {vs : List V}, DqAll false t H vs (ps.map sayD) → NkAll H vs (ps.map sayK)
  | [], _, .nil => .nil
  | _ :: _, _, .cons a h => .cons (dq_say a) (dqs_say h)
theorem DqAll.gk {fz : Bool} {t : Addr} {H H' : Hp} {Ts : List Addr} {vs : List V} {ds : List PyData} (h : DqAll fz t H vs ds) (g : Gk Ts H H') : DqAll fz t H' vs ds := h.keep fun b o _ n e => g.1 b o e n
theorem Dq.gk {fz : Bool} {t : Addr} {H H' : Hp} {Ts : List Addr} {v : V} {d : PyData} (h : Dq fz t H v d) (g : Gk Ts H H') : Dq fz t H' v d := h.keep fun b o _ n e => g.1 b o e n
def spIsSs (T : Tx K mg) : Sp := fun vs H Q _ => ∃ (t n : Addr) (v : V) (d : PyData) (zs : List Str), vs = [.ref n, v] ∧ H n = some (.tup (zs.map V.str)) ∧ Dq false t H v d ∧ (∀ ds, d = .tuple ds → ds.length ≤ 74) ∧ Tbs (tbs T) H ∧ ∀ H', Gk (tbs T) H H' → Q (.bl (isSays zs d)) H'
theorem ok_isss (T : Tx K mg) (B : Tb T base) : FnOk P w K mg base CX0 4 T.f_is_sayings T.d_is_sayings ["names", "thing"] (spIsSs T) := by
  have G_is_saying : FnOk P w K mg base CX0 1 T.f_is_saying T.d_is_saying ["names", "thing"] (spIs) := ok_iss T
  have G_is_rising : FnOk P w K mg base CX0 2 T.f_is_rising T.d_is_rising ["things"] (spRise T) := ok_rise T B
  refine T.F_is_sayings.ok S_is_sayings (fun vs H Q E h => ?_) (fun A outer s H vs Q E hr h => ?_)
  · obtain ⟨t, n, v, d, zs, rfl, _⟩ := h
    rfl
  · obtain ⟨t, n, v, d, zs, rfl, hn, dq, few, hB, q⟩ := h
    refine ⟨_, (pss_cons (ps_if (pt_not (pt_val (pe_callB call_isi (by rfl) T.m_isinstance (by decide +kernel) (pa_cons (pv 1) (pa_cons (pe_bltn (v := .ty "tuple") (by rfl) T.m_tuple (by decide +kernel) rfl) pa_nil))))) (pss_one (ps_ret pe_bl)) pss_nil)
      (pss_one (ps_ret (pe_and (GE.pe_allG (own := [("part", 2)]) (g := gName 2) (tt := tYes) (by rfl) S_is_sayings.nd hr (by rfl) T.m_all B.b_is_sayings rfl ⟨blkOk_by (own := [("part", 2)]) (N := N_is_sayings) (sc := defScope s_is_sayings) (by decide +kernel), rfl, (by decide +kernel), (by decide +kernel)⟩ (pi_tup (pv 1)) (fun _ _ _ _ _ _ hr => (pg_name (i := 2) S_is_sayings.nd rfl (.inl rfl))) (fun _ _ _ _ _ _ hr => pts_nil) (fun _ _ _ _ _ _ hr => (pe_call G_is_saying (hr.mono (by decide)) (by rfl) T.g_is_saying T.F_is_saying.kp T.b_is_saying .nil pass0 (pa_cons (pv 0) (pa_cons (pv 2) pa_nil))))) (pe_one (pe_call G_is_rising (hr.mono (by decide)) (by rfl) T.g_is_rising T.F_is_rising.kp T.b_is_rising .nil pass0 (pa_cons (pv 1) pa_nil))))))), ?_⟩
    obtain ⟨u, ty, ki⟩ := dq_kind (K := K) (n := "tuple") (.inr (.inr (.inr rfl))) dq
    refine ⟨_, rfl, _, _, u, _, _, rfl, .ty _, ty, ki, _, rfl, ?_⟩
    by_cases kq : kindQ "tuple" d = true
    · obtain ⟨ds, rfl⟩ := kind_tuple kq
      obtain ⟨a, xs, rfl, an, ha, da⟩ := dq_tuple_at dq
      have ha : H a = some (.tup xs) := ha.elim id fun ⟨f, _⟩ => by cases f
      rw [kq]
      refine iteF ?_
      have ld := da.length
      refine ⟨_, rfl, a, rfl, ⟨_, .inl (.inl ha)⟩, hB _ (by simp [tbs]), fun H2 tab => ?_⟩
      have g2 := (Tk.of hB (by simp [tbs]) tab).gk hB
      have ha2 := g2.tup ha
      have hn2 := g2.tup hn
      have da2 := DqAll.gk da g2
      refine GE.ag_it (walk_tup (xs := xs)) (fun i H' => H' = H2 ∧ ∀ (k : Nat) (d : PyData), k < i → ds[k]? = some d → isSay zs d = true) ⟨rfl, fun k d hk => by omega⟩ (fun i Hx _ e => by rw [e.1]; exact .inl (.inl ha2)) ?_ ?_
      · rintro i x H3 H4 hi ⟨rfl, hp⟩ ⟨rfl, hx⟩
        obtain ⟨d, hd, dx⟩ := da2.get hx
        refine ⟨rfl, tYesT ?_⟩
        refine ⟨_, rfl, _, rfl, false, t, n, x, d, zs, rfl, hn2, dx, _, rfl, fun e => ?_, fun e => ⟨rfl, fun k y hk ey => ?_⟩⟩
        · have := q H4 g2
          rw [isays_no fun ps e2 a _ => ?_] at this
          · exact ⟨_, rfl, iteF this⟩
          · injection e2 with e2
            rw [e2, List.getElem?_map] at hd
            cases e3 : ps[i]? with
            | none => rw [e3] at hd; cases hd
            | some p =>
              rw [e3] at hd
              rw [is_say (Option.some.inj hd).symm (a p (List.mem_of_getElem? e3))] at e
              cases e
        · by_cases z : k = i
          · subst z
            rw [hd] at ey
            cases ey
            simpa using e
          · exact hp k y (by omega) ey
      · rintro H3 ⟨rfl, hp⟩
        obtain ⟨ps, rfl, ap⟩ := all_says fun k d e => hp k d (by have := (List.getElem?_eq_some_iff.mp e).1; omega) e
        have l70 := few _ rfl
        refine ⟨_, rfl, iteT ⟨_, rfl, a, xs, ps.map sayK, rfl, ha2, dqs_say da2, fun k hk => ?_, by omega, g2.2, fun H4 g4 => ?_⟩⟩
        · obtain ⟨p, _, e⟩ := List.mem_map.mp hk
          exact ⟨p, e.symm⟩
        · have := q H4 (g2.trans g4)
          rw [isays_rs ap] at this
          exact this
    · rw [Bool.eq_false_iff.mpr kq]
      have := q H (.refl hB)
      rw [isays_no fun ps e => ?_] at this
      · exact iteT this
      · subst e
        exact absurd rfl kq
theorem fine_texts : ∀ {L : List Str}, (∀ z ∈ L, Plain z) → FineAll (L.map PyData.str) (1006 * L.length) ∧ PyData.depthAll (L.map PyData.str) = 0
  | [], _ => ⟨.nil, by rw [List.map_nil, PyData.depthAll]⟩
  | z :: L, h => by
    obtain ⟨c, d⟩ := fine_texts fun y hy => h y (.tail _ hy)
    have t := FineAll.cons (fine_text (h z (.head _))) c
    rw [List.map_cons]
    exact ⟨⟨t.sh, by have := t.cost; rw [List.length_cons]; omega, t.lay, t.deep⟩, by rw [PyData.depthAll, d, PyData.depth]; rfl⟩
theorem fine_tup {ds : List PyData} {c e : Nat} (f : FineAll ds c) (d : PyData.depthAll ds ≤ e) (e2 : e ≤ 2) : Fine (.tuple ds) (c + 10) ∧ (PyData.tuple ds).depth ≤ e + 1 := by
  have dp : (PyData.tuple ds).depth ≤ e + 1 := by rw [PyData.depth]; omega
  exact ⟨⟨f.sh, by rw [GU.cost]; have := f.cost; omega, by rw [PyData.canLay0]; exact f.lay, by omega⟩, dp⟩
theorem fine_pairs : ∀ {ps : List (Str × Str)}, (∀ p ∈ ps, Plain p.1 ∧ Plain p.2) → FineAll (NestedKey.datas (ps.map sayK)) (2030 * ps.length) ∧ PyData.depthAll (NestedKey.datas (ps.map sayK)) ≤ 1
  | [], _ => ⟨by rw [List.map_nil, NestedKey.datas]; exact .nil, by rw [List.map_nil, NestedKey.datas, PyData.depthAll]; omega⟩
  | p :: ps, h => by
    obtain ⟨c, d⟩ := fine_pairs fun y hy => h y (.tail _ hy)
    obtain ⟨p1, p2⟩ := h p (.head _)
    obtain ⟨t1, t2⟩ := fine_texts (L := [p.1, p.2]) fun z hz => by
      rcases List.mem_cons.mp hz with rfl | hz
      · exact p1
      · rw [List.mem_singleton.mp hz]; exact p2
    obtain ⟨f, fd⟩ := fine_tup (e := 0) t1 (by rw [t2]; exact Nat.le_refl _) (by decide)
    have e : (sayK p).data = .tuple [.str p.1, .str p.2] := by unfold sayK; simp [NestedKey.data, NestedKey.datas]
    have f : Fine (.tuple [.str p.1, .str p.2]) (1006 * 2 + 10) := f
    have t := FineAll.cons f c
    rw [List.map_cons, NestedKey.datas, e]
    refine ⟨⟨t.sh, by have := t.cost; rw [List.length_cons]; omega, t.lay, t.deep⟩, ?_⟩
    rw [PyData.depthAll]
    have fd : (PyData.tuple [.str p.1, .str p.2]).depth ≤ 1 := fd
    omega
theorem two_shown {a b : PyData} {c d : Nat} (fa : Fine a c) (fb : Fine b d) (h : c + d ≤ 4000000) : GU.Sh (.tuple [a, b]) ∧ (PyData.tuple [a, b]).depth ≤ 50 ∧ GU.cost (.tuple [a, b]) ≤ sizeLine := by
  have t := FineAll.cons fa (FineAll.cons fb .nil)
  refine ⟨t.sh, by rw [PyData.depth]; have := t.deep; omega, ?_⟩
  rw [GU.cost]
  have := t.cost
  exact Nat.le_trans (show _ ≤ 4000403 by omega) (by decide)
theorem dp_texts {H : Hp} : ∀ (L : List Str), DpAll K H (L.map V.str) (L.map PyData.str)
  | [] => .nil
  | _ :: L => .cons (.str _) (dp_texts L)
theorem shaped_says {ps : List (Str × Str)} (h : ∀ p ∈ ps, Plain p.1 ∧ Plain p.2) : SeqAt.shaped (.list (NestedKey.datas (ps.map sayK))) = true := by
  obtain ⟨f, fd⟩ := fine_pairs h
  unfold SeqAt.shaped
  rw [Bool.and_eq_true, PyData.canLay0, PyData.depth]
  exact ⟨f.lay, decide_eq_true (by omega)⟩
def spWIsSs : Sp := fun vs H Q _ => ∃ (t n : Addr) (v : V) (d : PyData) (zs : List Str), vs = [.ref n, v] ∧ H n = some (.tup (zs.map V.str)) ∧ (∀ z ∈ zs, Plain z) ∧ Dq false t H v d ∧ (∀ ds, d = .tuple ds → ds.length ≤ 74) ∧ (∃ ys, H t = some (.lst ys)) ∧ ∀ H', Same H H' → Q (.bl (isSays zs d)) H'
theorem ok_wisss (T : Tx K mg) : FnOk P w K mg base CX0 2 T.f_w_is_sayings T.d_w_is_sayings ["_law_names_here", "_law_thing"] (spWIsSs) := by
  have G_w_is_saying : FnOk P w K mg base CX0 1 T.f_w_is_saying T.d_w_is_saying ["_law_names_here", "_law_thing"] (spIs) := ok_wiss T
  refine T.F_w_is_sayings.ok S_w_is_sayings (fun vs H Q E h => ?_) (fun cdv A outer s H vs Q E hr h => ?_)
  · obtain ⟨t, n, v, d, zs, rfl, _⟩ := h
    rfl
  · obtain ⟨t, n, v, d, zs, rfl, hn, pz, dq, few, _, q⟩ := h
    refine ⟨_, (pss_cons (ps_if (PW.pt (pw_or (pt_not (pt_val (pe_callB call_isi (by rfl) T.m_isinstance (by decide +kernel) (pa_cons (pv 1) (pa_cons (pe_bltn (v := .ty "tuple") (by rfl) T.m_tuple (by decide +kernel) rfl) pa_nil))))) (pw_or1 (pt_cmpR (op_neE (hu_of hr)) (pe_lc (own := [("_law_one", 2)]) (g := gName 2) (by rfl) S_w_is_sayings.nd (pi_tup (pv 1)) (blkOk_by (own := [("_law_one", 2)]) (N := N_w_is_sayings) (sc := defScope s_w_is_sayings) (by decide +kernel)) (fun _ _ _ _ _ => (pg_name (i := 2) S_w_is_sayings.nd rfl (.inl rfl))) (fun _ _ _ _ _ => (pts_one (pt_not (pt_val (pe_call G_w_is_saying hr (by rfl) T.g_w_is_saying T.F_w_is_saying.kp T.b_w_is_saying .nil pass0 (pa_cons (pv 0) (pa_cons (pv 2) pa_nil))))))) (fun _ _ _ _ _ => (pv 2))) (pe_lst pa_nil) (nomark _))))) (pss_one (ps_ret pe_bl)) pss_nil)
      (pss_one (ps_ret (pe_cmpR (op_eqD hr.units) (pe_callTy call_list_of (by rfl) T.m_list (by decide +kernel) (pa_cons (pv 1) pa_nil)) (pe_callB (cr_sortS (by rfl) (un64 hr)) (by rfl) T.m_sorted (by decide +kernel) (pa_cons (pe_callTy (cr_setNT (by rfl) (un64 hr)) (by rfl) T.m_set (by decide +kernel) (pa_cons (pv 1) pa_nil)) pa_nil)) (nomark _))))), ?_⟩
    obtain ⟨u, ty, ki⟩ := dq_kind (K := K) (n := "tuple") (.inr (.inr (.inr rfl))) dq
    refine ⟨_, rfl, _, _, u, _, _, rfl, .ty _, ty, ki, _, rfl, ?_⟩
    by_cases kq : kindQ "tuple" d = true
    · obtain ⟨ds, rfl⟩ := kind_tuple kq
      obtain ⟨a, xs, rfl, an, ha, da⟩ := dq_tuple_at dq
      have ha : H a = some (.tup xs) := ha.elim id fun ⟨f, _⟩ => by cases f
      have l70 := few _ rfl
      rw [kq]
      refine iteF ?_
      have ld := da.length
      refine ⟨_, rfl, a, rfl, ⟨_, .inl (.inl ha)⟩, fun D nD => ?_⟩
      refine lc_tup (xs := xs) (fun j Hx => ∃ acc, Hx = upd H D (.lst acc) ∧ acc.length ≤ j ∧ (acc = [] ↔ ∀ (k : Nat) (d : PyData), k < j → ds[k]? = some d → isSay zs d = true)) ⟨[], rfl, Nat.le_refl _, fun _ k d hk => by omega, fun _ => rfl⟩ (fun j Hx hj ⟨acc, e, _⟩ => by rw [e]; exact .inl (.inl (same_upd nD _ _ ha))) ?_ ?_
      · rintro j x Hx hx ⟨acc, rfl, la, iff⟩
        have hj := (List.getElem?_eq_some_iff.mp hx).1
        have s1 := same_upd (o := .lst acc) nD
        obtain ⟨d, hd, dx⟩ := (da.same s1).get hx
        refine ⟨rfl, _, rfl, _, rfl, false, t, n, x, d, zs, rfl, s1 _ _ hn, dx, _, rfl, ite2 (fun e => ?_) (fun e => ?_)⟩
        · refine ⟨_, rfl, acc, upd_same, small1000 (by omega), acc ++ [x], upd_upd', by rw [List.length_append]; exact Nat.succ_le_succ la, fun z => absurd z (by simp), fun z => ?_⟩
          have := z j d (Nat.lt_succ_self _) hd
          rw [this] at e
          cases e
        · refine ⟨acc, rfl, by omega, fun z k y hk ey => ?_, fun z => iff.mpr fun k y hk ey => z k y (by omega) ey⟩
          by_cases w : k = j
          · subst w
            rw [hd] at ey
            cases ey
            simpa using e
          · exact iff.mp z k y (by omega) ey
      · rintro Hx ⟨acc, rfl, la, iff⟩
        have s1 := same_upd (o := .lst acc) nD
        refine ⟨sz (by show 0 ≤ 1000; decide), fun c2 n2 => ?_⟩
        have s2 := same_upd (o := .lst []) n2
        refine ⟨D, c2, acc, rfl, rfl, .inl (.inl (s2 _ _ upd_same)), .inl (.inl upd_same), _, rfl, ite2 (fun e => ?_) (fun e => ?_)⟩
        · have := q _ (s1.trans s2)
          rw [isays_no fun ps e2 ap _ => ?_] at this
          · exact this
          · injection e2 with e2
            have en : acc = [] := iff.mpr fun k d hk hd => by
              rw [e2, List.getElem?_map] at hd
              cases e3 : ps[k]? with
              | none => rw [e3] at hd; cases hd
              | some p =>
                rw [e3] at hd
                exact is_say (Option.some.inj hd).symm (ap p (List.mem_of_getElem? e3))
            rw [en] at e
            cases e
        · have en : acc = [] := by
            cases acc with
            | nil => rfl
            | cons x l => exact absurd rfl e
          obtain ⟨ps, rfl, ap⟩ := all_says fun k d hd => iff.mp en k d (by have := (List.getElem?_eq_some_iff.mp hd).1; omega) hd
          obtain ⟨es, rfl, ek⟩ := dqs_of_says da
          have sA := s1.trans s2
          generalize upd (upd H D (.lst acc)) c2 (.lst []) = H0 at sA
          have haA := sA _ _ ha
          have nkA := dqs_say (da.same sA)
          refine ⟨_, rfl, a, _, rfl, .inr (.inl (.inl haA)), fun L nL => ?_⟩
          have s3 := same_upd (o := .lst (es.map fun p => V.ref p.1)) nL
          have nk3 := nkA.at (.same s3)
          have nke : ∀ x ∈ es, Nk (upd H0 L (.lst (es.map fun p => V.ref p.1))) (.ref x.1) x.2 := ents_nk (by rw [ek]; exact nk3)
          have sye : ∀ x ∈ es, ∃ q ∈ ps, x.2 = sayK q := fun x hx => by
            have : x.2 ∈ ps.map sayK := by rw [← ek]; exact List.mem_map_of_mem hx
            obtain ⟨q, hq, e⟩ := List.mem_map.mp this
            exact ⟨q, hq, e.symm⟩
          have le : es.length = ps.length := by have := congrArg List.length ek; rw [List.length_map, List.length_map] at this; exact this
          have lp : ps.length ≤ 74 := by rw [List.length_map] at l70; exact l70
          refine ⟨_, rfl, a, es, rfl, .inl (.inl (s3 _ _ haA)), fun x hx => ⟨nke x hx, by obtain ⟨q, _, e⟩ := sye x hx; rw [e]; exact say_depth q⟩, by omega, fun S2 M nS2 m1 m2 ndM => ?_⟩
          have t3 := same_upd (o := My.SetO w S2 M) nS2
          refine ⟨S2, M, rfl, upd_same, fun x hx => ⟨(nke x (m1 x hx)).at (.same t3), by obtain ⟨q, _, e⟩ := sye x (m1 x hx); rw [e]; exact say_depth q⟩, say_sbl (fun k hk => by obtain ⟨x, hx, rfl⟩ := List.mem_map.mp hk; obtain ⟨q, _, e⟩ := sye x (m1 x hx); exact ⟨q, e⟩), fun M' b pm2 nb => ?_⟩
          have mm2 : ∀ x ∈ M', x ∈ M := fun x hx => pm2.mem_iff.mp hx
          have t4 := same_upd (o := .lst ((srt (M'.map fun q => V.ref q.1) (M'.map (·.2))).map Prod.fst)) nb
          have s4 := t3.trans t4
          obtain ⟨ls2, k1, k2', k3', k4⟩ := srt_ok (M := M') (fun x hx => (nke x (m1 x (mm2 x hx))).at (.same s4)) (fun x hx => by obtain ⟨q, _, e⟩ := sye x (m1 x (mm2 x hx)); exact ⟨q, e⟩) ((pm2.map (·.2)).nodup_iff.mpr ndM)
          have each : ∀ k ∈ ls2, ∃ q ∈ ps, k = sayK q := fun k hk => by
            obtain ⟨x, hx, rfl⟩ := List.mem_map.mp ((k3' k).mp hk)
            exact sye x (m1 x (mm2 x hx))
          obtain ⟨qs, rfl, inq⟩ := says_of each
          have lq : (qs.map sayK).length ≤ 74 := by
            have lM : M.length ≤ es.length := by
              have := nodup_len (l := M.map (·.2)) (m := es.map (·.2)) ndM fun k hk => by obtain ⟨x, hx, rfl⟩ := List.mem_map.mp hk; exact List.mem_map_of_mem (m1 x hx)
              rwa [List.length_map, List.length_map] at this
            rw [k4, pm2.length_eq]
            omega
          have nk4 := nk3.at (.same s4)
          refine ⟨.list (NestedKey.datas (ps.map sayK)), .list (NestedKey.datas (qs.map sayK)), .lst (.inl (.inl (s4 _ _ upd_same))) (NkAll.dp nk4), .lst (.inl (.inl upd_same)) (NkAll.dp k1), ?_, ?_, ?_⟩
          · exact shaped_says fun p hp => ⟨pz _ (ap p hp).1, pz _ (ap p hp).2.1⟩
          · exact shaped_says fun p hp => ⟨pz _ (ap p (inq p hp)).1, pz _ (ap p (inq p hp)).2.1⟩
          · have := q _ (sA.trans (s3.trans s4))
            rw [isays_rs ap] at this
            have e2 : PyData.eqv (.list (NestedKey.datas (ps.map sayK))) (.list (NestedKey.datas (qs.map sayK))) = rsB (ps.map sayK) := by
              rw [PyData.eqv, eqv_keys]
              by_cases r : Rs (ps.map sayK)
              · have : ps.map sayK = qs.map sayK := rs_unique r k2' fun k => by
                  rw [k3' k]
                  constructor
                  · intro hk
                    rw [← ek] at hk
                    obtain ⟨x, hx, rfl⟩ := List.mem_map.mp hk
                    have := (pm2.map (·.2)).mem_iff.mpr (m2 x hx)
                    exact this
                  · intro hk
                    obtain ⟨x, hx, rfl⟩ := List.mem_map.mp hk
                    rw [← ek]
                    exact List.mem_map_of_mem (m1 x (mm2 x hx))
                rw [rsB_true r, ← this]
                exact NestedKey.beqAll_self _
              · rw [rsB_false r]
                cases z : NestedKey.beqAll (ps.map sayK) (qs.map sayK) with
                | false => rfl
                | true => exact absurd (by rw [NestedKey.eq_of_beqAll _ _ z]; exact k2') r
            rw [e2]
            exact this
    · rw [Bool.eq_false_iff.mpr kq]
      have := q H (fun _ _ e => e)
      rw [isays_no fun ps e => ?_] at this
      · exact iteT (iteT this)
      · subst e
        exact absurd rfl kq
end
end L53

set_option Elab.async false
set_option linter.all false
set_option maxRecDepth 100000
set_option maxHeartbeats 2000000
/-! l * n, l a list, n none or one. -/
namespace My
open PySem PySem.Spec PyProof.Rows L2
theorem mul_places (i : Int) (h : i = 0 ∨ i = 1) : i.toNat ≤ 1 := by omega
section
open PySem.SeqAt
open PySem.AutoSeq1 (wpAny_loadPart')
open PySem.MeetsSeq PySem.MeetsSeq2 PySem.MeetsSeq3
theorem l_mul_int (l : Addr) (items : Array Value) (n : Nat) (d : Option Addr) (sl : Array (Option Value)) (x : Int) (u : Tok) (hc0 : ¬(!Builtin.List.listFitsIndex x) = true)
    (hc1 : ¬items.size * x.toNat > (2 ^ 63 - 1) / 8) (hc2 : ¬Builtin.List.listTooLong (items.size * x.toNat) = true) :
    Meets (Builtin.«list.__mul__» ⟨[.ref l, .int x u], []⟩) (fun _ R s => s.heap.get? l = some { cls := .type "list", dict := d, data := .seq items n, slots := sl } ∧ R (.ok (.ret (Value.ref s.heap.objs.size))) { s with heap := s.heap.push { cls := Value.type "list", data := Data.seq (List.foldl (fun x1 x2 => x1 ++ x2) #[] (List.replicate (if items.isEmpty = true then 0 else x.toNat) items)) }, toks := s.toks }) :=
  .of_wp fun prog w A R s h => by
    obtain ⟨hp, g, dd, tk, os⟩ := s; obtain ⟨hl, h⟩ := h
    have hsz := AutoListH.joined_fits hc2
    wp_walk; refine wpAny_ite_false (decide_eq_false (Nat.not_lt.mpr hsz)) ?_; wp_walk; exact ⟨_, rfl, h⟩
theorem l_rmul_int (x : Int) (u : Tok) (l : Addr) (items : Array Value) (n : Nat) (d : Option Addr) (sl : Array (Option Value)) :
    Meets (Builtin.«int.__rmul__» ⟨[.int x u, .ref l], []⟩) (fun _ R s => s.heap.get? l = some { cls := .type "list", dict := d, data := .seq items n, slots := sl } ∧ R (.ok (.ret Value.notImplemented)) s) :=
  .of_wp fun prog w A R s h => by obtain ⟨hp, g, dd, tk, os⟩ := s; obtain ⟨hl, h⟩ := h; wp_walk; exact ⟨_, rfl, h⟩
end
section
variable {X : Cx}
theorem op_mul_li : OpR X (binaryOp .Mult) (fun x y H Q => ∃ a xs i, x = V.ref a ∧ y = V.int i ∧ SqL X.K H a xs ∧ (i = 0 ∨ i = 1) ∧ ∀ p, H p = none → Q (.ref p) (upd H p (.lst (if i = 1 then xs else [])))) := by
  intro pins s σ H x y v u Q I rx ry h
  obtain ⟨a, xs, i, rfl, rfl, hs, h01, q⟩ := h
  obtain rfl : v = Value.ref a := rx
  obtain ⟨tk, rfl⟩ : ∃ tk, u = Value.int i tk := ry
  obtain ⟨its, rv, ⟨⟨cls, dd, data, sl⟩, n, ho, hc, hdn, hd⟩, hlen⟩ := I.list hs
  have hc1 : cls = Value.type "list" := hc
  have hd1 : data = Data.seq its.toArray n := hd
  subst hc1 hd1
  have hz : its.length ≤ sizeLine := by rw [← rv.length]; exact hlen
  have hsl := sizeLine_eq
  have hk := mul_places i h01
  have hm : its.toArray.size * i.toNat ≤ its.length := by
    rw [List.size_toArray]
    exact Nat.le_trans (Nat.mul_le_mul_left _ hk) (Nat.le_of_eq (Nat.mul_one _))
  refine wpAny_binaryOp_repeat_ref (T := "list") (U := "int") (by decide) ⟨_, ho, rfl⟩ (fun s' => typeIs_int s' i tk) noFill_list_mul F.fills_int_mul F.slot_int_rmul repeat_list F.slot_int_index.lookup
    (call_meets F.slot_int_rmul (typeIs_int s i tk) F.entry_int_rmul (F.args_int_rmul_2 _ _) (l_rmul_int i tk a its.toArray n dd sl)
      ⟨ho, rfl, ⟨_, ho, rfl⟩, call_meets F.slot_list_mul ⟨_, ho, rfl⟩ F.entry_list_mul (F.args_list_mul_2 _ _)
        (l_mul_int a its.toArray n dd sl i tk (by rcases h01 with rfl | rfl <;> decide) (by omega) (by simp only [Builtin.List.listTooLong, decide_eq_true_eq]; omega))
        ⟨ho, ?_⟩⟩)
  have e : List.foldl (fun x1 x2 => x1 ++ x2) #[] (List.replicate (if its.toArray.isEmpty = true then 0 else i.toNat) its.toArray) = (if i = 1 then its else []).toArray := by
    rw [listMul_foldl_if]
    rcases h01 with rfl | rfl <;> simp
  rw [e]
  refine ⟨.ref s.heap.objs.size, upd H s.heap.objs.size (.lst (if i = 1 then xs else [])), I.laid (t' := s.toks) (fun b o e => Heap.get?_push_of_some _ e) (Nat.le_refl _) ⟨?_, _, 0, ?_, Heap.get?_push_size _ rfl⟩, rfl, q _ (I.hok.fresh (Nat.le_refl _))⟩
  · rcases h01 with rfl | rfl
    · exact Nat.zero_le _
    · exact hlen
  · rcases h01 with rfl | rfl
    · exact .nil
    · exact rv
end
end My

set_option Elab.async false
set_option linter.all false
set_option maxRecDepth 100000
set_option maxHeartbeats 2000000
/-! xs != ys, two lists of the same texts. -/
namespace My
open PySem PySem.Spec PyProof.Rows L2 PySem.SeqAt
def rNeS (K : PySem.W.Frag) : R2 := fun x y H Q => ∃ (p q : Addr) (L : List Str), x = .ref p ∧ y = .ref q ∧ SqL K H p (L.map V.str) ∧ SqL K H q (L.map V.str) ∧ Q (.bl false) H
theorem op_neS {X : Cx} (hu : X.A.units + 1 < cLine) : OpR X (compareOp .NotEq) (rNeS X.K) := by
  intro pins s σ H x y v u Q I rx ry h
  obtain ⟨p, q, L, rfl, rfl, hp, hq, h⟩ := h
  cases (show v = Value.ref p from rx)
  cases (show u = Value.ref q from ry)
  obtain ⟨us, r1, p1, _⟩ := I.list hp
  obtain ⟨ws, r2, p2, _⟩ := I.list hq
  have e1 := r1.length
  have e2 := r2.length
  rw [List.length_map] at e1 e2
  have N := RcNeAt.lists (A := X.A) (e := fun _ => true) p1.isList p2.isList (by rw [List.size_toArray, List.size_toArray]; omega) (by omega) (fun j h1 h2 => by
    rw [List.size_toArray] at h1 h2
    have lj : j < L.length := by omega
    obtain ⟨a, ha, ra⟩ := r1.get (i := j) (x := .str L[j]) (by rw [List.getElem?_map, List.getElem?_eq_getElem lj]; rfl)
    obtain ⟨b, hb, rb⟩ := r2.get (i := j) (x := .str L[j]) (by rw [List.getElem?_map, List.getElem?_eq_getElem lj]; rfl)
    have ea := (List.getElem?_eq_some_iff.mp ha).2
    have eb := (List.getElem?_eq_some_iff.mp hb).2
    rw [List.getElem_toArray, List.getElem_toArray, ea, eb]
    exact eqAt_same ra rb rfl)
  rw [show (!(List.range us.toArray.size).all fun _ => true) = false from by rw [List.all_eq_true.mpr fun _ _ => rfl]; rfl] at N
  exact N X.prog X.w _ _ ⟨.bl false, H, I, rfl, h⟩
end My

set_option Elab.async false
set_option linter.all false
set_option maxRecDepth 100000
set_option maxHeartbeats 2000000
namespace L53
open PySem PySem.Spec PyProof.Rows L2 My
section
variable {P : Program} {w : World} {K : PySem.W.Frag} {mg : Str → Option Value} {base : Heap}
def spAlongT : Sp := fun vs H Q _ => ∃ (l : Addr) (zs : List Str), vs = [.ref l] ∧ H l = some (.tup (zs.map V.str)) ∧ zs.length ≤ 9 ∧
  ∀ p ys H', Same H H' → H p = none → H' p = some (.lst ys) → NkAll H' ys ((alongK zs zs.length).map sayK) → Q (.ref p) H'
theorem ok_alongT (T : Tx K mg) : FnOk P w K mg base CX0 1 T.f_w_along T.d_w_along ["_law_order"] (spAlongT) := by
  refine T.F_w_along.ok S_w_along (fun vs H Q E h => ?_) (fun cdv A outer s H vs Q E hr h => ?_)
  · obtain ⟨l, zs, rfl, _⟩ := h
    rfl
  · obtain ⟨l, zs, rfl, hl, l9, q⟩ := h
    refine ⟨_, (pss_cons (ps_set (i := 1) S_w_along.nd rfl (.inl rfl) (pe_lst pa_nil))
      (pss_cons (ps_for PassesOwn.never rfl (pi_range1 (by rfl) T.m_range (pa_cons (pe_callB call_len_seq (by rfl) T.m_len PySem.boot_len (pa_cons (pv 0) pa_nil)) pa_nil)) (pg_name (i := 2) S_w_along.nd rfl (.inr rfl))
      (pss_one (ps_set (i := 1) S_w_along.nd rfl (.inl rfl) (pe_op op_cat (pv 1) (pe_lc (own := [("_law_other", 3)]) (g := gName 3) (tt := tYes) (by rfl) S_w_along.nd (pi_tup (pe_slice sl_tupA (pv 0) (po_some (pe_op op_add (pv 2) pe_int)) po_none)) (blkOk_by (own := [("_law_other", 3)]) (N := N_w_along) (sc := defScope s_w_along) (by decide +kernel)) (fun _ _ _ _ _ => (pg_name (i := 3) S_w_along.nd rfl (.inl rfl))) (fun _ _ _ _ _ => pts_nil) (fun _ _ _ _ _ => (pe_tup (pa_cons (pe_ix (r := rIxT K) ix_tup (pv 0) (pv 2) (fun _ _ => rfl)) (pa_cons (pv 3) pa_nil)))))))))
      (pss_one (ps_ret (pv 1))))), ?_⟩
    refine ⟨sz (by show 0 ≤ 1000; decide), fun p0 n0 => ?_⟩
    have s0 := same_upd (o := .lst []) n0
    refine ⟨_, rfl, l, _, rfl, .inr (.inl (.inl (s0 _ _ hl))), zs.length, by rw [List.length_map], by omega, by omega, ?_⟩
    refine for_range (lo := 0) (n := zs.length) (fun i σ Hx => ∃ (y2 y3 : Option V) (p : Addr) (ys : List V), σ = [some (.ref l), some (.ref p), y2, y3] ∧ Same H Hx ∧ H p = none ∧ Hx p = some (.lst ys) ∧ NkAll Hx ys ((alongK zs i).map sayK)) ⟨_, _, p0, [], rfl, s0, n0, upd_same, .nil⟩ ?_ ?_
    · rintro i σ Hx hi ⟨y2, y3, p, ys, rfl, sx, np, hp, nk⟩
      have hlx := sx _ _ hl
      have al := along_len l9 i (by omega)
      have lys : ys.length = (alongK zs i).length := by have := nk.length; rw [List.length_map] at this; exact this
      have hz : zs[i]? = some zs[i] := List.getElem?_eq_getElem hi
      have az : atI (zs.map V.str) (0 + (i : Int)) = some (.str zs[i]) := by
        rw [Int.zero_add]
        exact atI_nat (by rw [List.getElem?_map, hz]; rfl)
      refine ⟨_, rfl, _, rfl, _, rfl, _, _, rfl, rfl, _, rfl, l, _, rfl, .inl (.inl hlx), fun wh => ?_, fun _ C nC => ?_⟩
      · have := wh.1
        rw [show (0 + (i : Int) + 1) = ((i + 1 : Nat) : Int) by omega, HT.sIx_nat, List.length_map] at this
        omega
      have ec : cutV (zs.map V.str) (some (0 + (i : Int) + 1)) none = (zs.drop (i + 1)).map V.str := by
        have e1 : (0 + (i : Int) + 1) = ((i + 1 : Nat) : Int) := by omega
        unfold cutV
        rw [HT.sIx_none, e1, show HT.sIx (zs.map V.str).length 0 (some ((i + 1 : Nat) : Int)) = min (i + 1) (zs.map V.str).length from HT.sIx_nat _ _ (i + 1), List.length_map, Nat.min_eq_left (by omega), List.take_of_length_le (by rw [List.length_drop, List.length_map]; omega), List.map_drop]
      rw [ec]
      have sC := same_upd (o := .tup ((zs.drop (i + 1)).map V.str)) nC
      have hC := upd_same (H := Hx) (a := C) (o := .tup ((zs.drop (i + 1)).map V.str))
      generalize upd Hx C (.tup ((zs.drop (i + 1)).map V.str)) = H1 at sC hC ⊢
      refine ⟨C, rfl, ⟨_, .inl (.inl hC)⟩, fun D nD => ?_⟩
      refine lc_tup (xs := (zs.drop (i + 1)).map V.str) (fun j H' => ∃ us, H' D = some (.lst us) ∧ Same H1 H' ∧ NkAll H' us ((((zs.drop (i + 1)).take j).map fun y => (zs[i], y)).map sayK)) ⟨[], upd_same, same_upd nD, .nil⟩ (fun j H' hj h => by obtain ⟨_, _, k, _⟩ := h; exact .inl (.inl (k _ _ hC))) ?_ ?_
      · rintro j x H' hx ⟨us, hD, sD, nu⟩
        obtain ⟨y, hy, rfl⟩ : ∃ y, (zs.drop (i + 1))[j]? = some y ∧ x = V.str y := by
          rw [List.getElem?_map] at hx
          cases e : (zs.drop (i + 1))[j]? with
          | none => rw [e] at hx; cases hx
          | some y => rw [e] at hx; exact ⟨y, rfl, (Option.some.inj hx).symm⟩
        have hj := (List.getElem?_eq_some_iff.mp hy).1
        rw [List.length_drop] at hj
        have lu : us.length ≤ j := by
          have := nu.length
          rw [List.length_map, List.length_map, List.length_take] at this
          omega
        refine ⟨rfl, tYesT ⟨_, rfl, _, rfl, l, _, _, .str zs[i], rfl, rfl, .inl (.inl (sD _ _ (sC _ _ hlx))), az, _, rfl, sz (by show 2 ≤ 1000; decide), fun c3 n3 => ?_⟩⟩
        have s3 := same_upd (o := .tup [.str zs[i], .str y]) n3
        have hD3 := s3 _ _ hD
        have tD := tups_lst (o := .lst (us ++ [.ref c3])) hD3
        refine ⟨us, hD3, small1000 (by omega), us ++ [.ref c3], upd_same, same_fresh nD (sD.trans s3), ?_⟩
        rw [List.take_add_one, hy, List.map_append, List.map_append]
        exact ((nu.at (.same s3)).app (.cons (nk_say upd_same) .nil)).at tD
      · rintro H3 ⟨us, hD, sD, nu⟩
        rw [List.length_map, List.take_of_length_le (Nat.le_refl _)] at nu
        have lu := nu.length
        rw [List.length_map, List.length_map, List.length_drop] at lu
        have hp3 := sD _ _ (sC _ _ hp)
        refine ⟨p, D, _, _, rfl, rfl, hp3, hD, sz (by omega), fun p' np' => ?_⟩
        have sp := same_upd (o := .lst (ys ++ us)) np'
        refine ⟨_, _, p', ys ++ us, rfl, ((sx.trans sC).trans sD).trans sp, ?_, upd_same, ?_⟩
        · cases e : H p' with
          | none => rfl
          | some o => rw [sD _ _ (sC _ _ (sx _ _ e))] at np'; cases np'
        · rw [along_next hz, List.map_append]
          exact ((nk.at (.same (sC.trans sD))).app nu).at (.same sp)
    · rintro σ Hx ⟨y2, y3, p, ys, rfl, sx, np, hp, nk⟩
      exact ⟨_, rfl, q p ys Hx sx np hp nk⟩
@[elab_as_elim] theorem fresh_fin {G : Hp → Prop} {H : Hp} {p : Addr} (o : HO) (n : H p = none) (k : ∀ H', Same H H' → H' p = some o → G H') : G (upd H p o) := k _ (same_upd n) upd_same
theorem join_mem : ∀ {zs : List Str} {c : Nat}, c ∈ TL.tl (Str.join "" zs) → ∃ z ∈ zs, c ∈ TL.tl z
  | [], c, h => by cases h
  | [z], c, h => ⟨z, .head _, h⟩
  | z :: y :: r, c, h => by
    have h : c ∈ TL.tl (z ++ "" ++ Str.join "" (y :: r)) := h
    rw [TL.tl_append, TL.tl_append] at h
    rcases List.mem_append.mp h with h | h
    · rcases List.mem_append.mp h with h | h
      · exact ⟨z, .head _, h⟩
      · cases h
    · obtain ⟨x, hx, m⟩ := join_mem h
      exact ⟨x, .tail _ hx, m⟩
theorem cut_len8 {z : Str} : (cutS z none (some 8) ++ ("q" : Str)).length ≤ 9 := by
  rw [TL.len_tl, TL.tl_append, List.length_append]
  unfold cutS
  have : ((z.cps.toList.drop 0).take (HT.sIx z.length z.length (some 8) - 0)).length ≤ 8 := by
    rw [List.length_take, show (8 : Int) = ((8 : Nat) : Int) from rfl, HT.sIx_nat]
    omega
  exact Nat.succ_le_succ this
theorem cut_plain {zs : List Str} (h : ∀ z ∈ zs, Plain z) : ∀ c ∈ (cutS (Txt.join "" zs) none (some 8) ++ ("q" : Str)).cps.toList, c < 128 := fun c hc => by
  have hc : c ∈ TL.tl (cutS (Txt.join "" zs) none (some 8) ++ ("q" : Str)) := hc
  rw [TL.tl_append] at hc
  rcases List.mem_append.mp hc with hc | hc
  · have hc : c ∈ TL.tl (Txt.join "" zs) := List.mem_of_mem_drop (List.mem_of_mem_take hc)
    rw [TL.join_eq] at hc
    obtain ⟨z, hz, m⟩ := join_mem hc
    exact (h z hz).2 c m
  · have hc : c ∈ [113] := hc
    have : c = 113 := by simpa using hc
    omega
theorem cut_len1 {z : Str} : (cutS z none (some 8) ++ ("q" : Str)).length = (cutS z none (some 8)).length + 1 := by
  rw [TL.len_tl, TL.tl_append, List.length_append, TL.len_tl]
  rfl
theorem names_sum : ∀ {zs : List Str}, (∀ z ∈ zs, z.length ≤ 8) → (zs.map (·.length)).sum ≤ 8 * zs.length
  | [], _ => Nat.le_refl _
  | z :: zs, h => by
    rw [List.map_cons, List.sum_cons, List.length_cons]
    have a := h z (.head _)
    have b := names_sum fun y hy => h y (.tail _ hy)
    omega
theorem names_few {zs : List Str} (l : zs.length ≤ 9) (h : ∀ z ∈ zs, z.length ≤ 8) : (zs.map (·.length)).sum + zs.length * ("" : Str).length ≤ 16777216 := by
  have a := names_sum h
  rw [show ("" : Str).length = 0 from rfl]
  omega
theorem join_len : ∀ {zs : List Str}, (∀ z ∈ zs, z.length ≤ 8) → (TL.tl (Str.join "" zs)).length ≤ 8 * zs.length
  | [], _ => Nat.le_refl _
  | [z], h => by
    have := h z (.head _)
    rw [TL.len_tl] at this
    exact this
  | z :: y :: r, h => by
    show (TL.tl (z ++ "" ++ Str.join "" (y :: r))).length ≤ _
    rw [TL.tl_append, TL.tl_append, List.length_append, List.length_append]
    have a := h z (.head _)
    rw [TL.len_tl] at a
    have b := join_len (zs := y :: r) fun x hx => h x (.tail _ hx)
    have c : (TL.tl ("" : Str)).length = 0 := rfl
    rw [c, List.length_cons]
    omega
theorem join_few {zs : List Str} (l : zs.length ≤ 9) (h : ∀ z ∈ zs, z.length ≤ 8) : (Txt.join "" zs).length ≤ sizeLine := by
  rw [TL.join_eq, TL.len_tl]
  exact Nat.le_trans (join_len h) (Nat.le_trans (show _ ≤ 72 by omega) (by decide))
theorem tbs_kp {Ts : List Addr} {H H' : Hp} {t c : Addr} {n : Nat} (h : Tbs Ts H) (f : FeedC H t c n) (k : Kp t H H') : Tbs Ts H' := fun b hb => by
  obtain ⟨ps, e, q⟩ := h b hb
  refine ⟨ps, k _ _ (fun z => ?_) e, q⟩
  obtain ⟨ns, sp, re, ca, e1, _⟩ := f
  rw [z, e1] at e
  cases e
theorem fit_text {z : Str} {n : Nat} (l : z.length ≤ n) (h : ∀ c ∈ z.cps.toList, c < 128) : Fit (.str z) (10 * n + 4) 0 :=
  ⟨fun c hc => Nat.lt_of_lt_of_le (h c hc) (by decide), by rw [My.wt]; omega, by rw [PyData.depth]; exact Nat.le_refl _⟩
theorem fit_name {z : Str} (h : Nm z) : Fit (.str z) 84 0 := fit_text h.2.1 h.plain.2
theorem Fits.cons {d : PyData} {ds : List PyData} {a b n : Nat} (h : Fit d a n) (t : Fits ds b n) : Fits (d :: ds) (a + 2 + b) n := Fits.app h.one t
theorem Fit.cons {d : PyData} {ds : List PyData} {a b n : Nat} (h : Fit d a n) (t : Fits ds b n) : Fits (d :: ds) (a + 2 + b) n := Fits.app h.one t
theorem fits_names : ∀ {zs : List Str} {n : Nat}, (∀ z ∈ zs, Nm z) → Fits (zs.map PyData.str) (86 * zs.length) n
  | [], n, _ => fits_nil
  | z :: zs, n, h => by
    have := Fits.cons ((fit_name (h z (.head _))).mono (Nat.le_refl _) (Nat.zero_le n)) (fits_names (n := n) fun y hy => h y (.tail _ hy))
    exact this.mono (by rw [List.length_cons]; omega) (Nat.le_refl _)
theorem fit_say {p : Str × Str} (a : Nm p.1) (b : Nm p.2) : Fit (sayD p) 175 1 := by
  have := (Fits.cons (fit_name a) (Fits.cons (fit_name b) fits_nil)).tup
  exact this.mono (by omega) (by omega)
theorem fits_says : ∀ {ps : List (Str × Str)}, (∀ p ∈ ps, Nm p.1 ∧ Nm p.2) → Fits (ps.map sayD) (177 * ps.length) 1
  | [], _ => fits_nil
  | p :: ps, h => by
    have := Fits.cons (fit_say (h p (.head _)).1 (h p (.head _)).2) (fits_says fun y hy => h y (.tail _ hy))
    exact this.mono (by rw [List.length_cons]; omega) (Nat.le_refl _)
def tri : Nat → Nat
  | 0 => 0
  | k + 1 => tri k + (8 - k)
theorem fal_len {zs : List Str} (l9 : zs.length ≤ 9) : ∀ k, k ≤ zs.length → (alongK zs k).length ≤ tri k
  | 0, _ => Nat.le_refl _
  | k + 1, h => by
    have ih := fal_len l9 k (by omega)
    rw [along_next (List.getElem?_eq_getElem (show k < zs.length by omega)), List.length_append, List.length_map, List.length_drop, tri]
    omega
theorem tri_36 {n : Nat} (h : n ≤ 9) : tri n ≤ 36 := by
  have : n = 0 ∨ n = 1 ∨ n = 2 ∨ n = 3 ∨ n = 4 ∨ n = 5 ∨ n = 6 ∨ n = 7 ∨ n = 8 ∨ n = 9 := by omega
  rcases this with rfl | rfl | rfl | rfl | rfl | rfl | rfl | rfl | rfl | rfl <;> decide
theorem fal_36 {zs : List Str} (l9 : zs.length ≤ 9) : (alongK zs zs.length).length ≤ 36 := Nat.le_trans (fal_len l9 zs.length (Nat.le_refl _)) (tri_36 l9)
theorem feed_tup {H : Hp} {t c a : Addr} {n : Nat} {xs : List V} (h : FeedC H t c n) (e : H a = some (.tup xs)) : a ≠ t := fun z => by
  obtain ⟨ys, y⟩ := feed_lst h
  rw [z, y] at e
  cases e
theorem nk_dqs {H : Hp} {t : Addr} (ht : ∃ ys, H t = some (.lst ys)) : ∀ {ps : List (Str × Str)} {vs : List V}, NkAll H vs (ps.map sayK) → DqAll false t H vs (ps.map sayD)
  | [], _, .nil => .nil
  | p :: ps, _, .cons a h => by
    obtain ⟨q, rfl, hq⟩ := say_nk a
    refine .cons (.tup (fun z => ?_) hq (.cons (.str _) (.cons (.str _) .nil))) (nk_dqs ht h)
    obtain ⟨ys, y⟩ := ht
    rw [z, y] at hq
    cases hq
/-- the list of things that a bent one takes from -/
def MenuAt (W L : Nat) (t : Addr) (H : Hp) (mn : Addr) : Prop := ∃ (ms : List V) (es : List PyData), mn ≠ t ∧ H mn = some (.lst ms) ∧ DqAll false t H ms es ∧ 0 < ms.length ∧ Fits es W 1 ∧ (∀ e ∈ es, Ltd 20 e) ∧ ms.length ≤ L
theorem MenuAt.same {W L : Nat} {t mn : Addr} {H H' : Hp} (h : MenuAt W L t H mn) (s : Same H H') : MenuAt W L t H' mn := by
  obtain ⟨ms, es, a, b, c, d⟩ := h
  exact ⟨ms, es, a, s _ _ b, c.same s, d⟩
theorem MenuAt.kp {W L : Nat} {t mn : Addr} {H H' : Hp} (h : MenuAt W L t H mn) (s : Kp t H H') : MenuAt W L t H' mn := by
  obtain ⟨ms, es, a, b, c, d⟩ := h
  exact ⟨ms, es, a, s _ _ a b, c.kp s, d⟩
/-- a thing that is asked about -/
def Tg (t : Addr) (H : Hp) (v : V) : Prop := ∃ d, Dq false t H v d ∧ Fit d 60000 8 ∧ Ltd 74 d
theorem Tg.same {t : Addr} {H H' : Hp} {v : V} (h : Tg t H v) (s : Same H H') : Tg t H' v := h.imp fun d ⟨a, b⟩ => ⟨a.same s, b⟩
theorem Tg.kp {t : Addr} {H H' : Hp} {v : V} (h : Tg t H v) (s : Kp t H H') : Tg t H' v := h.imp fun d ⟨a, b⟩ => ⟨a.kp s, b⟩
theorem Tg.gk {t : Addr} {H H' : Hp} {Ts : List Addr} {v : V} (h : Tg t H v) (s : Gk Ts H H') : Tg t H' v := h.imp fun d ⟨a, b⟩ => ⟨Dq.gk a s, b⟩
theorem at_end {xs : List V} {v : V} {i : Nat} (h : xs[i]? = some v) (e : i + 1 = xs.length) : atI xs (-1) = some v := by
  have : xs = xs.take i ++ [v] := by
    have := List.take_add_one (l := xs) (i := i)
    rw [h, e, List.take_of_length_le (Nat.le_refl _)] at this
    exact this
  rw [this]
  exact atI_last _ _
theorem ends_of {zs : List Str} (h : zs ≠ []) : ∃ a ∈ zs, ∃ b ∈ zs, atI (zs.map V.str) 0 = some (.str a) ∧ atI (zs.map V.str) (-1) = some (.str b) := by
  have l : 0 < zs.length := List.length_pos_iff.mpr h
  refine ⟨zs[0], List.getElem_mem _, zs[zs.length - 1], List.getElem_mem _, ?_, ?_⟩
  · exact at_of (j := 0) rfl (by rw [List.getElem?_map, List.getElem?_eq_getElem l]; rfl)
  · exact at_end (i := zs.length - 1) (by rw [List.getElem?_map, List.getElem?_eq_getElem (by omega)]; rfl) (by rw [List.length_map]; omega)
theorem int_truth {b : Bool} : (if b = true then (1 : Int) else 0) = 0 ∨ (if b = true then (1 : Int) else 0) = 1 := by cases b <;> simp
theorem one_few (v : V) (b : Bool) : (if (if b = true then (1 : Int) else 0) = 1 then [v] else []).length ≤ 1 := by cases b <;> simp
theorem one_mem {v w : V} {b : Bool} (h : w ∈ (if (if b = true then (1 : Int) else 0) = 1 then [v] else [])) : w = v := by
  cases b
  · simp at h
  · simpa using h
theorem gk_fresh {Ts : List Addr} {H H1 : Hp} {p : Addr} {o u : HO} (hp : H p = none) (g : Gk Ts H H1) (e : H1 p = some u) (n : ∀ ps, u ≠ .tbl ps) : Gk Ts H (upd H1 p o) := ⟨fun b x h hn => by
  rw [upd_ne (ne_of_none h hp)]
  exact g.1 b x h hn, fun b hb => by
  obtain ⟨ps, e2, q⟩ := g.2 b hb
  exact ⟨ps, by rw [upd_ne (fun z => by rw [z, e] at e2; exact n ps (Option.some.inj e2))]; exact e2, q⟩⟩
def spSpl : Sp := fun vs H Q E => ∃ m, m ≤ 3 ∧ spSpoilt false m vs H Q E
theorem ok_spl (T : Tx K mg) : FnOk P w K mg base CX0 6 T.f_w_spoilt T.d_w_spoilt ["_law_feed_here", "_law_thing", "_law_menu"] (spSpl) := by
  refine ⟨fun vs H Q E ⟨m, hm, h⟩ => (spoilt_all (P := P) (w := w) (base := base) T m).len vs H Q E h, fun A outer s H args us vs Q E hr env bd rv ⟨m, hm, h⟩ => ?_⟩
  exact (spoilt_all T m).run A outer s H args us vs Q E (hr.mono (by show 3 + m ≤ 6; omega)) env bd rv h
def spLaw {K : PySem.W.Frag} {mg : Str → Option Value} (T : Tx K mg) : Sp := fun vs H Q _ => ∃ (a : Addr) (ns : List Int), vs = [.ref a] ∧ SqL K H a (ns.map V.int) ∧ ns.length ≤ 63 ∧ (∀ P ∈ tbs T, GxR.TabG H P) ∧ ∀ H', Q (.bl true) H'
theorem ok_law (T : Tx K mg) (B : Tb T base) : GU.FnG P w K mg base CX0 7 T.f_law T.d_law ["_law_script"] (spLaw T) := by
  have G_w_feed : FnOk P w K mg base CX0 1 T.f_w_feed T.d_w_feed ["_law_script"] (spFeed K) := ok_feed T
  have G_w_draw : FnOk P w K mg base CX0 1 T.f_w_draw T.d_w_draw ["_law_feed_here", "_law_many"] (spDraw) := ok_draw T
  have G_w_names : FnOk P w K mg base CX0 2 T.f_w_names T.d_w_names ["_law_feed_here", "_law_many"] (spFNm) := ok_fnm T
  have G_w_sayings : FnOk P w K mg base CX0 3 T.f_w_sayings T.d_w_sayings ["_law_feed_here", "_law_names_here", "_law_most"] (spSays) := ok_says T
  have G_w_along : FnOk P w K mg base CX0 1 T.f_w_along T.d_w_along ["_law_order"] (spAlongT) := ok_alongT T
  have G_w_spoilt : FnOk P w K mg base CX0 6 T.f_w_spoilt T.d_w_spoilt ["_law_feed_here", "_law_thing", "_law_menu"] (spSpl) := ok_spl T
  have G_w_is_sayings : FnOk P w K mg base CX0 2 T.f_w_is_sayings T.d_w_is_sayings ["_law_names_here", "_law_thing"] (spWIsSs) := ok_wisss T
  have G_is_sayings : FnOk P w K mg base CX0 4 T.f_is_sayings T.d_is_sayings ["names", "thing"] (spIsSs T) := ok_isss T B
  refine GU.okG T.F_law S_law (fun vs H Q E h => ?_) (fun cdv A outer s H vs Q E gd hr h => ?_)
  · obtain ⟨a, ns, rfl, _⟩ := h
    rfl
  · obtain ⟨a, ns, rfl, hS, hlen, hB, q⟩ := h
    have hB : Tbs (tbs T) H := hB
    refine ⟨_, (pss_cons (ps_set (i := 1) S_law.nd rfl (.inl rfl) (pe_call G_w_feed (hr.mono (by decide)) (by rfl) T.g_w_feed T.F_w_feed.kp T.b_w_feed .nil pass0 (pa_cons (pv 0) pa_nil)))
      (pss_cons (ps_set (i := 2) S_law.nd rfl (.inr rfl) (pe_call G_w_names (hr.mono (by decide)) (by rfl) T.g_w_names T.F_w_names.kp T.b_w_names .nil pass0 (pa_cons (pv 1) (pa_cons (pe_ix ix_list (pe_lst (pa_cons pe_int (pa_cons pe_int (pa_cons pe_int (pa_cons pe_int (pa_cons pe_int (pa_cons pe_int (pa_cons pe_int (pa_cons pe_int pa_nil))))))))) (pe_call G_w_draw (hr.mono (by decide)) (by rfl) T.g_w_draw T.F_w_draw.kp T.b_w_draw .nil pass0 (pa_cons (pv 1) (pa_cons pe_int pa_nil))) (fun _ _ => rfl)) pa_nil))))
      (pss_cons (ps_set (i := 3) S_law.nd rfl (.inl rfl) (pe_call G_w_sayings (hr.mono (by decide)) (by rfl) T.g_w_sayings T.F_w_sayings.kp T.b_w_sayings .nil pass0 (pa_cons (pv 1) (pa_cons (pv 2) (pa_cons pe_int pa_nil)))))
      (pss_cons (ps_set (i := 4) S_law.nd rfl (.inl rfl) (pe_op op_add_str (pe_slice sl_str (pe_join pe_str (pe_lc (own := [("_law_name", 13)]) (g := gName 13) (tt := tYes) (by rfl) S_law.nd (pi_tup (pv 2)) (blkOk_by (own := [("_law_name", 13)]) (N := N_law) (sc := defScope s_law) (by decide +kernel)) (fun _ _ _ _ _ => (pg_name (i := 13) S_law.nd rfl (.inl rfl))) (fun _ _ _ _ _ => pts_nil) (fun _ _ _ _ _ => (pv 13)))) po_none (po_some pe_int)) pe_str))
      (pss_cons (ps_set (i := 5) S_law.nd rfl (.inl rfl) (pe_op op_cat (pe_op op_cat (pe_callTy call_list_of (by rfl) T.m_list (by decide +kernel) (pa_cons (pv 2) pa_nil)) (pe_callTy call_list_of (by rfl) T.m_list (by decide +kernel) (pa_cons (pe_slice sl_tupA (pv 3) po_none (po_some pe_int)) pa_nil))) (pe_lst (pa_cons (pv 4) (pa_cons pe_non (pa_cons pe_bl (pa_cons pe_int (pa_cons pe_str (pa_cons (pe_tup pa_nil) (pa_cons (pe_lst pa_nil) (pa_cons pe_dnewK (pa_cons (pe_tup (pa_cons pe_str (pa_cons pe_str pa_nil))) (pa_cons (pv 2) pa_nil)))))))))))))
      (pss_cons (ps_if (pt_cmpR (op_neTE (hu_of hr)) (pv 2) (pe_tup pa_nil) (nomark _)) (pss_one (ps_set (i := 5) S_law.nd rfl (.inl rfl) (pe_op op_cat (pv 5) (pe_lst (pa_cons (pe_tup (pa_cons (pe_ix ix_tup (pv 2) pe_int (fun _ _ => rfl)) (pa_cons (pe_ix ix_tup (pv 2) pe_int (fun _ _ => rfl)) pa_nil))) (pa_cons (pe_tup (pa_cons (pe_ix ix_tup (pv 2) (pe_un un_neg pe_int) (fun _ _ => rfl)) (pa_cons (pe_ix ix_tup (pv 2) pe_int (fun _ _ => rfl)) (pa_cons (pe_ix ix_tup (pv 2) (pe_un un_neg pe_int) (fun _ _ => rfl)) pa_nil)))) (pa_cons (pe_lst (pa_cons (pe_ix ix_tup (pv 2) pe_int (fun _ _ => rfl)) (pa_cons (pe_ix ix_tup (pv 2) (pe_un un_neg pe_int) (fun _ _ => rfl)) pa_nil))) pa_nil))))))) pss_nil)
      (pss_cons (ps_set (i := 6) S_law.nd rfl (.inl rfl) (pe_lst (pa_cons (pv 3) (pa_cons (pe_revA (K1 := K) rfl (pv 3)) (pa_cons (pe_op op_catA (pv 3) (pe_slice sl_tupA (pv 3) (po_some (pe_un un_neg pe_int)) po_none)) (pa_cons (pe_op op_catA (pe_slice sl_tupA (pv 3) (po_some (pe_un un_neg pe_int)) po_none) (pe_slice sl_tupA (pv 3) po_none (po_some (pe_un un_neg pe_int)))) (pa_cons (pe_tup pa_nil) (pa_cons (pv 2) (pa_cons (pe_callTy call_list_of (by rfl) T.m_list (by decide +kernel) (pa_cons (pv 3) pa_nil)) (pa_cons pe_non (pa_cons pe_bl (pa_cons pe_str pa_nil))))))))))))
      (pss_cons (ps_set (i := 7) S_law.nd rfl (.inl rfl) (pe_callTy call_tuple_of (by rfl) T.m_tuple (by decide +kernel) (pa_cons (pe_call G_w_along (hr.mono (by decide)) (by rfl) T.g_w_along T.F_w_along.kp T.b_w_along .nil pass0 (pa_cons (pv 2) pa_nil)) pa_nil)))
      (pss_cons (ps_set (i := 6) S_law.nd rfl (.inl rfl) (pe_op op_cat (pv 6) (pe_lst (pa_cons (pv 7) (pa_cons (pe_op op_catA (pe_slice sl_tupA (pv 7) (po_some pe_int) po_none) (pe_slice sl_tupA (pv 7) po_none (po_some pe_int))) pa_nil)))))
      (pss_cons (ps_for PassesOwn.never rfl (pi_range1 (by rfl) T.m_range (pa_cons pe_int pa_nil)) (pg_name (i := 8) S_law.nd rfl (.inl rfl))
      (pss_cons (ps_set (i := 9) S_law.nd rfl (.inl rfl) (pe_call G_w_spoilt hr (by rfl) T.g_w_spoilt T.F_w_spoilt.kp T.b_w_spoilt .nil pass0 (pa_cons (pv 1) (pa_cons (pv 3) (pa_cons (pv 5) pa_nil)))))
      (pss_one (ps_set (i := 6) S_law.nd rfl (.inl rfl) (pe_op op_cat (pe_op op_cat (pv 6) (pe_lst (pa_cons (pv 9) pa_nil))) (pe_op op_mul_li (pe_lst (pa_cons (pe_call G_w_spoilt hr (by rfl) T.g_w_spoilt T.F_w_spoilt.kp T.b_w_spoilt .nil pass0 (pa_cons (pv 1) (pa_cons (pv 9) (pa_cons (pv 5) pa_nil)))) pa_nil)) (pe_callTy call_int1 (by rfl) T.m_int (by decide +kernel) (pa_cons (pe_cmpR op_gt (pv 8) pe_int (nomark _)) pa_nil))))))))
      (pss_cons (ps_for PassesOwn.never rfl (pi_list (pe_op op_cat (pv 6) (pe_slice sl_list (pv 6) po_none (po_some pe_int)))) (pg_name (i := 10) S_law.nd rfl (.inr rfl))
      (pss_cons (ps_set (i := 11) S_law.nd rfl (.inl rfl) (pe_callB (call_reprQ gd hr) (by rfl) T.m_repr (by decide +kernel) (pa_cons (pe_tup (pa_cons (pv 2) (pa_cons (pv 10) pa_nil))) pa_nil)))
      (pss_cons (ps_set (i := 12) S_law.nd rfl (.inl rfl) (pe_callB (call_reprQ gd hr) (by rfl) T.m_repr (by decide +kernel) (pa_cons (pe_call G_w_is_sayings (hr.mono (by decide)) (by rfl) T.g_w_is_sayings T.F_w_is_sayings.kp T.b_w_is_sayings .nil pass0 (pa_cons (pv 2) (pa_cons (pv 10) pa_nil))) pa_nil)))
      (pss_one (ps_if (PW.pt (pw_or (pt_cmpR (op_neS (hu_of hr)) (pe_lc (own := [("_law_turn", 14)]) (g := gName 14) (tt := tYes) (by rfl) S_law.nd (pi_range1 (by rfl) T.m_range (pa_cons pe_int pa_nil)) (blkOk_by (own := [("_law_turn", 14)]) (N := N_law) (sc := defScope s_law) (by decide +kernel)) (fun _ _ _ _ _ => (pg_name (i := 14) S_law.nd rfl (.inl rfl))) (fun _ _ _ _ _ => pts_nil) (fun _ _ _ _ _ => (pe_callB (call_reprQ gd hr) (by rfl) T.m_repr (by decide +kernel) (pa_cons (pe_call G_is_sayings (hr.mono (by decide)) (by rfl) T.g_is_sayings T.F_is_sayings.kp T.b_is_sayings .nil pass0 (pa_cons (pv 2) (pa_cons (pv 10) pa_nil))) pa_nil)))) (pe_lst (pa_cons (pv 12) (pa_cons (pv 12) pa_nil))) (nomark _)) (pw_or1 (pt_cmpR op_ne (pe_callB (call_reprQ gd hr) (by rfl) T.m_repr (by decide +kernel) (pa_cons (pe_tup (pa_cons (pv 2) (pa_cons (pv 10) pa_nil))) pa_nil)) (pv 11) (nomark _))))) (pss_one (ps_ret pe_bl)) pss_nil)))))
      (pss_one (ps_ret pe_bl))))))))))))), ?_⟩
    refine ⟨_, rfl, a, ns, rfl, hS, fun t c H1 s1 n1 hT1 => ?_⟩
    have hB1 := hB.same s1
    refine ⟨_, rfl, sz (by show 8 ≤ 1000; decide), fun p2 n2 => ?_⟩
    have e2 := same_upd (o := .lst [.int 4, .int 3, .int 2, .int 5, .int 6, .int 9, .int 1, .int 0]) n2
    refine ⟨_, rfl, t, 8, 0, c, rfl, by decide, by decide, hT1.same e2, by omega, fun u H3 u0 u1 hT3 hK3 => ?_⟩
    have hp2 := hK3 _ _ (hT1.ne n2).1 upd_same
    have man : ∃ m : Nat, atI [V.int 4, .int 3, .int 2, .int 5, .int 6, .int 9, .int 1, .int 0] u = some (.int m) ∧ m ≤ 9 := by
      have h8 : u = 0 ∨ u = 1 ∨ u = 2 ∨ u = 3 ∨ u = 4 ∨ u = 5 ∨ u = 6 ∨ u = 7 := by omega
      rcases h8 with rfl | rfl | rfl | rfl | rfl | rfl | rfl | rfl
      · exact ⟨4, rfl, by decide⟩
      · exact ⟨3, rfl, by decide⟩
      · exact ⟨2, rfl, by decide⟩
      · exact ⟨5, rfl, by decide⟩
      · exact ⟨6, rfl, by decide⟩
      · exact ⟨9, rfl, by decide⟩
      · exact ⟨1, rfl, by decide⟩
      · exact ⟨0, rfl, by decide⟩
    obtain ⟨m, hm, m9⟩ := man
    have hB3 := tbs_kp hB1 (hT1) ((Kp.of_same e2).trans hK3)
    refine ⟨p2, _, u, .int m, rfl, rfl, .inl (.inl hp2), hm, t, c, m, 1, rfl, m9, hT3, by omega, fun nA zs H4 hN lz nm nd so hT4 hK4 fN => ?_⟩
    have hB4 := tbs_kp hB3 hT3 hK4
    refine ⟨_, rfl, _, rfl, t, c, nA, zs, 18, 1 + 8 + m, rfl, hN, by omega, nd, by omega, hT4, by omega, fun bA ys ps H5 hb nk rs inp lp hT5 hK5 => ?_⟩
    have hB5 := tbs_kp hB4 hT4 hK5
    have hN5 := tups_kp hT4 hK5 _ _ hN
    clear hp2 hm hK3 e2 n2 hB1 hB3 hB4 hK4 hK5 hN
    refine ⟨⟨_, rfl⟩, _, rfl, nA, rfl, ⟨_, .inl (.inl hN5)⟩, fun D nD => ?_⟩
    refine lc_tup (xs := zs.map V.str) (fun j Hx => Hx = upd H5 D (.lst ((zs.take j).map V.str))) rfl (fun j Hx hj e => by rw [e]; exact .inl (.inl (same_upd nD _ _ hN5))) ?_ ?_
    · rintro j x Hx hx rfl
      obtain ⟨z, hz, rfl⟩ : ∃ z, zs[j]? = some z ∧ x = .str z := by
        rw [List.getElem?_map] at hx
        cases e : zs[j]? with
        | none => rw [e] at hx; cases hx
        | some z => rw [e] at hx; exact ⟨z, rfl, (Option.some.inj hx).symm⟩
      refine ⟨rfl, _, rfl, (zs.take j).map V.str, upd_same, small1000 (by rw [List.length_map, List.length_take]; omega), ?_⟩
      rw [upd_upd', List.take_add_one, hz, List.map_append]
      rfl
    rintro Hx rfl
    have s6 := same_upd (o := .lst ((zs.take (zs.map V.str).length).map V.str)) nD
    have hD := upd_same (H := H5) (a := D) (o := .lst ((zs.take (zs.map V.str).length).map V.str))
    rw [List.length_map, List.take_of_length_le (Nat.le_refl _)] at s6 hD ⊢
    generalize upd H5 D (.lst (zs.map V.str)) = H6 at s6 hD ⊢
    obtain ⟨oth, eo, lo, co⟩ : ∃ oth : Str, cutS (Txt.join "" zs) none (some 8) ++ "q" = oth ∧ oth.length ≤ 9 ∧ ∀ c ∈ oth.cps.toList, c < 128 := ⟨_, rfl, cut_len8, cut_plain fun z hz => (nm z hz).plain⟩
    refine ⟨"", D, zs, rfl, rfl, .inl (.inl (.inl hD)), names_few (by omega) fun z hz => (nm z hz).2.1, 8, rfl, _, rfl, join_few (by omega) fun z hz => (nm z hz).2.1, _, _, rfl, rfl, Nat.le_trans (show _ + 1 ≤ 20 from Nat.le_trans (by rw [← cut_len1]; exact cut_len8) (by decide)) (by decide), ?_⟩
    rw [eo]
    have hT6 := hT5.same s6
    have hB6 := hB5.same s6
    have hN6 := s6 _ _ hN5
    have hb6 := s6 _ _ hb
    have nk6 := nk.at (.same s6)
    have nn : nA ≠ t := feed_tup hT6 hN6
    have bt : bA ≠ t := feed_tup hT6 hb6
    have dS := nk_dqs (feed_lst hT6) nk6
    have nps : ∀ p ∈ ps, Nm p.1 ∧ Nm p.2 := fun p hp => ⟨nm _ (inp p hp).1, nm _ (inp p hp).2.1⟩
    have fS := fits_says nps
    have lys : ys.length = ps.length := by have := nk.length; rw [List.length_map] at this; exact this
    clear eo s6 hD hT5 hB5 hN5 hb nk nD
    refine ⟨_, rfl, nA, _, rfl, .inr (.inl (.inl hN6)), fun L1 m1 => ?_⟩
    refine fresh_fin (.lst (zs.map V.str)) m1 fun H7 s7 h7 => ?_
    have hT7 := hT6.same s7
    refine ⟨_, rfl, 4, rfl, sl_things (lo := none) (hi := some 4) (.inl (s7 _ _ hb6)) bt (feed_lst hT7) (dS.same s7) fS fun u us es H8 s8 un hu du _ eu => ?_⟩
    have es4 : es = (ps.take 4).map sayD := by
      rw [eu, List.map_take]
      rw [show (4 : Int) = ((4 : Nat) : Int) from rfl, HT.sIx_nat]
      show (List.drop 0 _).take (min 4 _ - 0) = _
      rw [List.drop_zero, Nat.sub_zero, Nat.min_def]
      split
      · rfl
      · rw [List.take_of_length_le (Nat.le_refl _), List.take_of_length_le (by omega)]
    have lus := du.length
    subst es4
    rw [List.length_map, List.length_take] at lus
    refine ⟨u, us, rfl, .inr (.inl hu.rd), fun L2 m2 => ?_⟩
    refine fresh_fin (.lst us) m2 fun H9 s9 h9 => ?_
    refine ⟨L1, L2, _, _, rfl, rfl, s9 _ _ (s8 _ _ h7), h9, sz (by rw [List.length_map]; omega), fun L3 m3 => ?_⟩
    refine fresh_fin (.lst (zs.map V.str ++ us)) m3 fun H10 s10 h10 => ?_
    have hT10 := ((hT7.same s8).same s9).same s10
    refine ⟨_, rfl, sz (by show 0 ≤ 1000; decide), fun q1 o1 => ?_⟩
    refine fresh_fin (.tup []) o1 fun H11 s11 h11 => ?_
    have hT11 := hT10.same s11
    refine ⟨sz (by show 0 ≤ 1000; decide), fun q2 o2 => ?_⟩
    refine fresh_fin (.lst []) o2 fun H12 s12 h12 q3 o3 => ?_
    have hT12 := hT11.same s12
    refine fresh_fin (.dK []) o3 fun H13 s13 h13 => ?_
    have hT13 := hT12.same s13
    refine ⟨sz (by show 2 ≤ 1000; decide), fun q4 o4 => ?_⟩
    refine fresh_fin (.tup [.str "a", .str "a"]) o4 fun H14 s14 h14 => ?_
    have hT14 := hT13.same s14
    refine ⟨_, rfl, sz (by show 10 ≤ 1000; decide), fun q5 o5 => ?_⟩
    refine fresh_fin (.lst [.str oth, .non, .bl true, .int 0, .str "", .ref q1, .ref q2, .ref q3, .ref q4, .ref nA]) o5 fun H15 s15 h15 => ?_
    have hT15 := hT14.same s15
    have a14 := s14.trans s15
    have a13 := s13.trans a14
    have a12 := s12.trans a13
    have a11 := s11.trans a12
    refine ⟨L3, q5, _, _, rfl, rfl, a11 _ _ h10, h15, sz (by rw [List.length_append, List.length_map]; show _ + 10 ≤ 1000; omega), fun mn om => ?_⟩
    refine fresh_fin (.lst (List.map V.str zs ++ us ++ [V.str oth, V.non, V.bl true, V.int 0, V.str (Str.ofString ""), V.ref q1, V.ref q2, V.ref q3, V.ref q4, V.ref nA])) om fun H16 s16 h16 => ?_
    have sA : Same H6 H16 := s7.trans (s8.trans (s9.trans (s10.trans (a11.trans s16))))
    have M0 : MenuAt 5000 900 t H16 mn := by
      refine ⟨_, (zs.map PyData.str ++ (ps.take 4).map sayD) ++ [.str oth, .none, .bool true, .int 0, .str "", .tuple [], .list [], .dict [], .tuple [.str "a", .str "a"], .tuple (zs.map PyData.str)], (hT15.ne om).1, h16, ?_, ?_, ?_, ?_, ?_⟩
      · refine ((dq_texts zs).app ((((du.same s9).same s10).same a11).same s16)).app ?_
        refine .cons (.str _) (.cons .non (.cons (.bl _) (.cons (.int _) (.cons (.str _) (.cons (.tup (hT10.ne o1).1 (s16 _ _ (a12 _ _ h11)) .nil) (.cons (.lst (hT11.ne o2).1 (s16 _ _ (a13 _ _ h12)) .nil) (.cons (.dct (hT12.ne o3).1 (s16 _ _ (a14 _ _ h13))) (.cons (.tup (hT13.ne o4).1 (s16 _ _ (s15 _ _ h14)) (.cons (.str _) (.cons (.str _) .nil))) (.cons (.tup nn (sA _ _ hN6) (dq_texts zs)) .nil)))))))))
      · rw [List.length_append]
        exact Nat.lt_of_lt_of_le (show 0 < 10 by decide) (Nat.le_add_left _ _)
      · have f1 : Fits (zs.map PyData.str) 774 1 := (fits_names nm).mono (by omega) (Nat.le_refl _)
        have f2 : Fits ((ps.take 4).map sayD) 708 1 := (fits_says fun p hp => nps p (List.mem_of_mem_take hp)).mono (by rw [List.length_take]; omega) (Nat.le_refl _)
        have fo : Fit (.str oth) 94 1 := (fit_text lo co).mono (by omega) (by omega)
        have fa : Fit (.tuple [.str "a", .str "a"]) 35 1 := (Fits.cons (fit_text (z := "a") (n := 1) (by decide) (by decide)) (Fits.cons (fit_text (z := "a") (n := 1) (by decide) (by decide)) (fits_nil (n := 0)))).tup.mono (by omega) (by omega)
        have ft : Fit (.tuple (zs.map PyData.str)) 777 1 := (fits_names (n := 0) nm).tup.mono (by omega) (by omega)
        have fn : Fit .none 4 1 := ⟨trivial, by rw [My.wt]; exact Nat.le_refl _, by rw [PyData.depth]; omega⟩
        have fb : Fit (.bool true) 5 1 := ⟨trivial, by rw [My.wt]; exact Nat.le_refl _, by rw [PyData.depth]; omega⟩
        have fi : Fit (.int 0) 1921 1 := ⟨by show Nat.log2 0 < 1920; decide +kernel, by rw [My.wt]; exact Nat.le_refl _, by rw [PyData.depth]; omega⟩
        have fe : Fit (.str "") 4 1 := (fit_text (n := 0) (by decide) (by decide)).mono (by omega) (by omega)
        have f0 : Fit (.tuple []) 3 1 := (fits_nil (n := 0)).tup
        have fl : Fit (.list []) 3 1 := (fits_nil (n := 0)).lst
        have fd : Fit (.dict []) 2 1 := ⟨rfl, by rw [My.wt]; exact Nat.le_refl _, by decide +kernel⟩
        exact ((f1.app f2).app (fo.cons (fn.cons (fb.cons (fi.cons (fe.cons (f0.cons (fl.cons (fd.cons (fa.cons (ft.cons fits_nil))))))))))).mono (by omega) (Nat.le_refl _)
      · intro e he
        rcases List.mem_append.mp he with he | he
        · rcases List.mem_append.mp he with he | he
          · obtain ⟨z, _, rfl⟩ := List.mem_map.mp he
            exact fun _ z => by cases z
          · obtain ⟨p, _, rfl⟩ := List.mem_map.mp he
            exact Ltd.tup (by show 2 ≤ 20; decide)
        · simp only [List.mem_cons, List.not_mem_nil, or_false] at he
          rcases he with rfl | rfl | rfl | rfl | rfl | rfl | rfl | rfl | rfl | rfl
          · exact fun _ z => by cases z
          · exact fun _ z => by cases z
          · exact fun _ z => by cases z
          · exact fun _ z => by cases z
          · exact fun _ z => by cases z
          · exact Ltd.tup (by show 0 ≤ 20; decide)
          · exact fun _ z => by cases z
          · exact fun _ z => by cases z
          · exact Ltd.tup (by show 2 ≤ 20; decide)
          · exact Ltd.tup (by rw [List.length_map]; omega)
      · rw [List.length_append, List.length_append, List.length_map]
        show _ + 10 ≤ 900
        omega
    clear s7 s8 s9 s10 s11 s12 s13 s14 s15 s16 a11 a12 a13 a14 h7 h9 h10 h11 h12 h13 h14 h15 h16 hT7 hT10 hT11 hT12 hT13 hT14 hT15 om o1 o2 o3 o4 o5 m1 m2 m3 du hu
    apply mrg2 (C := fun Hx (mx : Addr) => Same H6 Hx ∧ MenuAt 6000 1000 t Hx mx)
    · intro tail
      refine ⟨_, rfl, sz (by show 0 ≤ 1000; decide), fun c0 n0 => ?_⟩
      refine fresh_fin (.tup []) n0 fun H17 s17 h17 => ?_
      have sB := sA.trans s17
      refine ⟨nA, c0, zs.map V.str, rfl, rfl, .inl (.inl (sB _ _ hN6)), .inl (.inl h17), _, rfl, ite2 (fun e => ?_) (fun e => ?_)⟩
      · obtain ⟨ms, es, mt, hm, dm, m0, fm, tm, lm⟩ := M0.same s17
        obtain ⟨z0, in0, z1, in1, at0, at1⟩ := ends_of (zs := zs) fun z => by rw [z] at e; cases e
        have hT17 := (hT6.same sA).same s17
        have n17 := sB _ _ hN6
        refine ⟨_, rfl, _, rfl, nA, _, 0, .str z0, rfl, rfl, .inl (.inl n17), at0, _, rfl, nA, _, 0, .str z0, rfl, rfl, .inl (.inl n17), at0, sz (by show 2 ≤ 1000; decide), fun d1 o1 => ?_⟩
        refine fresh_fin (.tup [V.str z0, V.str z0]) o1 fun H18 s18 h18 => ?_
        have n18 := s18 _ _ n17
        have hT18 := hT17.same s18
        refine ⟨_, rfl, _, rfl, nA, _, -1, .str z1, rfl, rfl, .inl (.inl n18), at1, _, rfl, nA, _, 0, .str z0, rfl, rfl, .inl (.inl n18), at0, _, rfl, _, rfl, nA, _, -1, .str z1, rfl, rfl, .inl (.inl n18), at1, sz (by show 3 ≤ 1000; decide), fun d2 o2 => ?_⟩
        refine fresh_fin (.tup [V.str z1, V.str z0, V.str z1]) o2 fun H19 s19 h19 => ?_
        have n19 := s19 _ _ n18
        have hT19 := hT18.same s19
        refine ⟨_, rfl, nA, _, 0, .str z0, rfl, rfl, .inl (.inl n19), at0, _, rfl, _, rfl, nA, _, -1, .str z1, rfl, rfl, .inl (.inl n19), at1, sz (by show 2 ≤ 1000; decide), fun d3 o3 => ?_⟩
        refine fresh_fin (.lst [V.str z0, V.str z1]) o3 fun H20 s20 h20 => ?_
        have hT20 := hT19.same s20
        refine ⟨sz (by show 3 ≤ 1000; decide), fun d4 o4 => ?_⟩
        refine fresh_fin (.lst [V.ref d1, V.ref d2, V.ref d3]) o4 fun H21 s21 h21 => ?_
        have hT21 := hT20.same s21
        have b20 := s20.trans s21
        have b19 := s19.trans b20
        have b18 := s18.trans b19
        refine ⟨mn, d4, _, _, rfl, rfl, b18 _ _ hm, h21, sz (show ms.length + 3 ≤ 1000 by omega), fun mx o5 => ?_⟩
        refine fresh_fin (.lst (ms ++ [V.ref d1, V.ref d2, V.ref d3])) o5 fun H22 s22 h22 => ?_
        refine tail H22 mx ⟨sB.trans (b18.trans s22), _, es ++ [.tuple [.str z0, .str z0], .tuple [.str z1, .str z0, .str z1], .list [.str z0, .str z1]], (hT21.ne o5).1, h22, ?_, ?_, ?_, ?_, ?_⟩
        · refine ((dm.same b18).same s22).app ?_
          exact .cons (.tup (hT17.ne o1).1 (s22 _ _ (b19 _ _ h18)) (.cons (.str _) (.cons (.str _) .nil))) (.cons (.tup (hT18.ne o2).1 (s22 _ _ (b20 _ _ h19)) (.cons (.str _) (.cons (.str _) (.cons (.str _) .nil)))) (.cons (.lst (hT19.ne o3).1 (s22 _ _ (s21 _ _ h20)) (.cons (.str _) (.cons (.str _) .nil))) .nil))
        · rw [List.length_append]
          exact Nat.lt_of_lt_of_le m0 (Nat.le_add_right _ _)
        · have g0 := fit_name (nm z0 in0)
          have g1 := fit_name (nm z1 in1)
          have p1 := (Fit.cons g0 (Fit.cons g0 fits_nil)).tup
          have p2 := (Fit.cons g1 (Fit.cons g0 (Fit.cons g1 fits_nil))).tup
          have p3 := (Fit.cons g0 (Fit.cons g1 fits_nil)).lst
          exact (fm.app (p1.cons (p2.cons (p3.cons fits_nil)))).mono (by omega) (Nat.le_refl _)
        · intro e he
          rcases List.mem_append.mp he with he | he
          · exact tm e he
          · simp only [List.mem_cons, List.not_mem_nil, or_false] at he
            rcases he with rfl | rfl | rfl
            · exact Ltd.tup (by show 2 ≤ 20; decide)
            · exact Ltd.tup (by show 3 ≤ 20; decide)
            · exact fun _ z => by cases z
        · rw [List.length_append]
          show _ + 3 ≤ 1000
          omega
      · obtain ⟨ms, es, mt, hm, dm, m0, fm, tm, lm⟩ := M0.same s17
        exact tail H17 mn ⟨sB, ms, es, mt, hm, dm, m0, fm.mono (by omega) (Nat.le_refl _), tm, by omega⟩
    · rintro H17 mx ⟨sB, M1⟩
      clear sA M0
      have hN7 := sB _ _ hN6
      have hb7 := sB _ _ hb6
      have hT7 := hT6.same sB
      have dS7 := dS.same sB
      have hB7 := hB6.same sB
      clear hN6 hb6 hT6 dS hB6 nk6 sB
      refine ⟨_, rfl, _, rfl, bA, ys, rfl, .inl (.inl hb7), fun r1 o1 => ?_⟩
      refine fresh_fin (.tup ys.reverse) o1 fun H18 s18 h18 => ?_
      have hb18 := s18 _ _ hb7
      refine ⟨_, rfl, _, rfl, _, rfl, -1, rfl, np_in ?_⟩
      refine sl_things (lo := some (-1)) (hi := none) (.inl hb18) bt (feed_lst (hT7.same s18)) (dS7.same s18) fS fun u1 us1 es1 H19 s19 un1 hu1 du1 fu1 eu1 => ?_
      have t19 := s18.trans s19
      refine cat_things (.inl (t19 _ _ hb7)) hu1 bt un1 (feed_lst (hT7.same t19)) (dS7.same t19) du1 fS fu1 (by omega) fun u2 us2 H20 s20 un2 hu2 du2 fu2 => ?_
      have t20 := t19.trans s20
      refine ⟨_, rfl, _, rfl, -1, rfl, np_in ?_⟩
      refine sl_things (lo := some (-1)) (hi := none) (.inl (t20 _ _ hb7)) bt (feed_lst (hT7.same t20)) (dS7.same t20) fS fun u3 us3 es3 H21 s21 un3 hu3 du3 fu3 eu3 => ?_
      have t21 := t20.trans s21
      refine ⟨_, rfl, _, rfl, -1, rfl, ?_⟩
      refine sl_things (lo := none) (hi := some (-1)) (.inl (t21 _ _ hb7)) bt (feed_lst (hT7.same t21)) (dS7.same t21) fS fun u4 us4 es4 H22 s22 un4 hu4 du4 fu4 eu4 => ?_
      have t22 := t21.trans s22
      refine cat_things (rd_same hu3 s22) hu4 un3 un4 (feed_lst (hT7.same t22)) (du3.same s22) du4 fu3 fu4 (by omega) fun u5 us5 H23 s23 un5 hu5 du5 fu5 => ?_
      have t23 := t22.trans s23
      refine ⟨sz (by show 0 ≤ 1000; decide), fun q1 o2 => ?_⟩
      refine fresh_fin (.tup []) o2 fun H24 s24 h24 => ?_
      have t24 := t23.trans s24
      refine ⟨_, rfl, _, rfl, bA, ys, rfl, .inr (.inl (.inl (t24 _ _ hb7))), fun L1 o3 => ?_⟩
      refine fresh_fin (.lst ys) o3 fun H25 s25 h25 => ?_
      have t25 := t24.trans s25
      refine ⟨sz (by show 10 ≤ 1000; decide), fun th o4 => ?_⟩
      refine fresh_fin (.lst [V.ref bA, V.ref r1, V.ref u2, V.ref u5, V.ref q1, V.ref nA, V.ref L1, V.non, V.bl true, V.str (Str.ofString "")]) o4 fun H26 s26 h26 => ?_
      have t26 := t25.trans s26
      have hT26 := hT7.same t26
      have hB26 := hB7.same t26
      have things : ∀ v ∈ [V.ref bA, V.ref r1, V.ref u2, V.ref u5, V.ref q1, V.ref nA, V.ref L1, V.non, V.bl true, V.str (Str.ofString "")], Tg t H26 v := by
        have e19 := s19.trans (s20.trans (s21.trans (s22.trans (s23.trans (s24.trans (s25.trans s26))))))
        have e21 := s21.trans (s22.trans (s23.trans (s24.trans (s25.trans s26))))
        have e24 := s24.trans (s25.trans s26)
        have e25 := s25.trans s26
        have lsome : (ps.map sayD).length ≤ 20 := by rw [List.length_map]; omega
        have lu1 : es1.length ≤ 20 := by rw [eu1, List.length_take, List.length_drop]; omega
        have lu3 : es3.length ≤ 20 := by rw [eu3, List.length_take, List.length_drop]; omega
        have lu4 : es4.length ≤ 20 := by rw [eu4, List.length_take, List.length_drop]; omega
        intro v hv
        simp only [List.mem_cons, List.not_mem_nil, or_false] at hv
        rcases hv with rfl | rfl | rfl | rfl | rfl | rfl | rfl | rfl | rfl | rfl
        · exact ⟨_, .tup bt (t26 _ _ hb7) (dS7.same t26), fS.tup.mono (by omega) (by omega), Ltd.tup (by omega)⟩
        · refine ⟨.tuple (ps.map sayD).reverse, .tup (hT7.ne o1).1 (e19 _ _ h18) ((dS7.same t26).rev), ?_, Ltd.tup (by rw [List.length_reverse]; omega)⟩
          have := (fits_says (ps := ps.reverse) fun p hp => nps p (List.mem_reverse.mp hp)).tup
          rw [List.map_reverse, List.length_reverse] at this
          exact this.mono (by omega) (by omega)
        · exact ⟨_, dq_rd un2 (rd_same hu2 e21) (du2.same e21), fu2.tup.mono (by omega) (by omega), Ltd.tup (by rw [List.length_append]; omega)⟩
        · exact ⟨_, dq_rd un5 (rd_same hu5 e24) (du5.same e24), fu5.tup.mono (by omega) (by omega), Ltd.tup (by rw [List.length_append]; omega)⟩
        · exact ⟨_, .tup ((hT7.same t23).ne o2).1 (e25 _ _ h24) .nil, (fits_nil (n := 0)).tup.mono (by omega) (by omega), Ltd.tup (by show 0 ≤ 74; decide)⟩
        · exact ⟨_, .tup nn (t26 _ _ hN7) (dq_texts zs), (fits_names (n := 0) nm).tup.mono (by omega) (by omega), Ltd.tup (by rw [List.length_map]; omega)⟩
        · exact ⟨_, .lst ((hT7.same t24).ne o3).1 (s26 _ _ h25) (dS7.same t26), fS.lst.mono (by omega) (by omega), fun _ z => by cases z⟩
        · exact ⟨_, .non, ⟨trivial, by rw [My.wt]; omega, by rw [PyData.depth]; omega⟩, fun _ z => by cases z⟩
        · exact ⟨_, .bl _, ⟨trivial, by rw [My.wt]; omega, by rw [PyData.depth]; omega⟩, fun _ z => by cases z⟩
        · exact ⟨_, .str _, (fit_text (n := 0) (by decide) (by decide)).mono (by omega) (by omega), fun _ z => by cases z⟩
      obtain ⟨TH, h26, things, lTH⟩ : ∃ TH, H26 th = some (.lst TH) ∧ (∀ v ∈ TH, Tg t H26 v) ∧ TH.length = 10 := ⟨_, h26, things, rfl⟩
      have M26 := M1.same t26
      have tt := (hT7.same t25).ne o4
      have dS26 := dS7.same t26
      have hN26 := t26 _ _ hN7
      have hb26 := t26 _ _ hb7
      clear s18 s19 s20 s21 s22 s23 s24 s25 s26 t19 t20 t21 t22 t23 t24 t25 t26 M1 hT7 dS7 hN7 hb7 hB7 du1 du2 du3 du4 du5 hu1 hu2 hu3 hu4 hu5 o1 o2 o3 o4 h18 h24 h25 fu1 fu2 fu3 fu4 fu5 eu1 eu3 eu4
      refine ⟨_, rfl, nA, zs, rfl, hN26, by omega, fun pA yA H27 s27 nA2 hpA nkA => ?_⟩
      refine ⟨pA, yA, rfl, .inl ⟨.inl (.inl hpA), fun al oA => ?_⟩⟩
      refine fresh_fin (.tup yA) oA fun H28 s28 h28 => ?_
      have t28 := s27.trans s28
      have alt : al ≠ t := ((hT26.same s27).ne oA).1
      have hT28 := hT26.same t28
      have lal := fal_36 (zs := zs) (by omega)
      have nal : ∀ p ∈ alongK zs zs.length, Nm p.1 ∧ Nm p.2 := fun p hp => ⟨nm _ (along_rk nd hp).2.1, nm _ (along_rk nd hp).2.2⟩
      have dA := nk_dqs (feed_lst hT28) (nkA.at (.same s28))
      have fA := fits_says nal
      generalize alongK zs zs.length = al0 at dA fA lal
      have ldA := dA.length
      refine ⟨_, rfl, _, rfl, _, rfl, 1, rfl, np_in ?_⟩
      refine sl_things (lo := some 1) (hi := none) (.inl h28) alt (feed_lst hT28) dA fA fun u1 us1 es1 H29 s29 un1 hu1 du1 fu1 eu1 => ?_
      refine ⟨_, rfl, 1, rfl, ?_⟩
      refine sl_things (lo := none) (hi := some 1) (.inl (s29 _ _ h28)) alt (feed_lst (hT28.same s29)) (dA.same s29) fA fun u2 us2 es2 H30 s30 un2 hu2 du2 fu2 eu2 => ?_
      refine cat_things (rd_same hu1 s30) hu2 un1 un2 (feed_lst ((hT28.same s29).same s30)) (du1.same s30) du2 fu1 fu2 (by omega) fun u3 us3 H31 s31 un3 hu3 du3 fu3 => ?_
      have t31 := s29.trans (s30.trans s31)
      refine ⟨sz (by show 2 ≤ 1000; decide), fun q1 o1 => ?_⟩
      refine fresh_fin (.lst [V.ref al, V.ref u3]) o1 fun H32 s32 h32 => ?_
      have t32 := t28.trans (t31.trans s32)
      refine ⟨th, q1, _, _, rfl, rfl, t32 _ _ h26, h32, sz (show TH.length + 2 ≤ 1000 by omega), fun th2 o2 => ?_⟩
      refine fresh_fin (.lst (TH ++ [V.ref al, V.ref u3])) o2 fun H33 s33 h33 => ?_
      have t33 := t32.trans s33
      have hT33 := hT26.same t33
      have th2t := ((hT26.same t32).ne o2).1
      have things33 : ∀ v ∈ TH ++ [V.ref al, V.ref u3], Tg t H33 v := fun v hv => by
        rcases List.mem_append.mp hv with hv | hv
        · exact (things v hv).same t33
        · simp only [List.mem_cons, List.not_mem_nil, or_false] at hv
          have e32 := s32.trans s33
          have e29 := t31.trans e32
          have lu1 : es1.length ≤ 36 := by rw [eu1, List.length_take, List.length_drop, List.length_map]; omega
          have lu2 : es2.length ≤ 36 := by rw [eu2, List.length_take, List.length_drop, List.length_map]; omega
          rcases hv with rfl | rfl
          · exact ⟨_, .tup alt (e29 _ _ h28) (dA.same e29), fA.tup.mono (by omega) (by omega), Ltd.tup (by rw [List.length_map]; omega)⟩
          · exact ⟨_, dq_rd un3 (rd_same hu3 e32) (du3.same e32), fu3.tup.mono (by omega) (by omega), Ltd.tup (by rw [List.length_append]; omega)⟩
      obtain ⟨TH3, h33, things33, lTH3⟩ : ∃ TH, H33 th2 = some (.lst TH) ∧ (∀ v ∈ TH, Tg t H33 v) ∧ TH.length = 12 := ⟨_, h33, things33, by rw [List.length_append, lTH]; rfl⟩
      have M33 := M26.same t33
      have dS33 := dS26.same t33
      have hN33 := t33 _ _ hN26
      have hb33 := t33 _ _ hb26
      have hB33 := hB26.same t33
      clear things h26 s27 s28 s29 s30 s31 s32 s33 t28 t31 t32 t33 dA du1 du2 du3 hu1 hu2 hu3 fu1 fu2 fu3 eu1 eu2 hpA nkA oA o1 o2 h28 h32 hT28 hT26 M26 dS26 hN26 hb26 hB26
      refine ⟨9, rfl, by decide, by decide, ?_⟩
      refine for_range (lo := 0) (n := 9) (fun i σ Hx => (∃ th y8 y9 y10 y11 y12 y13 y14 vs, σ = [some (.ref a), some (.ref t), some (.ref nA), some (.ref bA), some (.str oth), some (.ref mx), some (.ref th), some (.ref al), y8, y9, y10, y11, y12, y13, y14] ∧ th ≠ t ∧ Hx th = some (.lst vs) ∧ (∀ v ∈ vs, Tg t Hx v) ∧ 12 ≤ vs.length ∧ vs.length ≤ 12 + 2 * i) ∧ FeedC Hx t c (1 + 8 + m + 60 + 40 * i) ∧ Kp t H33 Hx) ⟨⟨_, _, _, _, _, _, _, _, _, rfl, th2t, h33, things33, by omega, by omega⟩, hT33.mono (by omega), fun _ _ _ e => e⟩ ?_ ?_
      · rintro i σ Hx hi ⟨⟨th, y8, y9, y10, y11, y12, y13, y14, vs, rfl, tht, hth, tg, lv1, lv2⟩, hTx, hKx⟩
        obtain ⟨ms, es, mt, hm, dm, m0, fm, tm, lm⟩ := M33.kp hKx
        have dSx := dS33.kp hKx
        have hbx := hKx _ _ bt hb33
        have bhd : HO := .lst []
        have ltS : Ltd 20 (.tuple (ps.map sayD)) := Ltd.tup (by rw [List.length_map]; omega)
        refine ⟨_, rfl, _, rfl, _, rfl, 2, by decide, t, c, mx, .ref bA, .tuple (ps.map sayD), ms, es, _, 3543, 6000, 1, 20, rfl, hTx, by omega, .tup bt hbx dSx, fS.tup.mono (by omega) (by omega), ltS, mt, hm, dm, m0, fm, tm, by omega, lm, fun v1 d1 H1' hT1' hK1' dq1 ft1 lt1 => ?_⟩
        have hth1 := hK1' _ _ tht hth
        refine ⟨_, rfl, _, rfl, sz (by show 1 ≤ 1000; decide), fun p1 o1 => ?_⟩
        refine fresh_fin (.lst [v1]) o1 fun H34 s34 h34 => ?_
        refine ⟨th, p1, _, _, rfl, rfl, s34 _ _ hth1, h34, sz (show vs.length + 1 ≤ 1000 by omega), fun p2 o2 => ?_⟩
        refine fresh_fin (.lst (vs ++ [v1])) o2 fun H35 s35 h35 => ?_
        have t35 := s34.trans s35
        have hT35 := hT1'.same t35
        have p2t := ((hT1'.same s34).ne o2).1
        have k35 := hK1'.trans (.of_same t35)
        obtain ⟨ms, es, mt, hm, dm, m0, fm, tm, lm⟩ := (M33.kp hKx).kp k35
        refine ⟨_, rfl, _, rfl, _, rfl, 3, by decide, t, c, mx, v1, d1, ms, es, _, 16639, 6000, 1, 21, rfl, hT35, by omega, dq1.same t35, ft1.mono (by omega) (by omega), lt1, mt, hm, dm, m0, fm, fun e he => (tm e he).mono (by omega), by omega, lm, fun v2 d2 H36 hT36 hK36 dq2 ft2 lt2 => ?_⟩
        refine ⟨sz (by show 1 ≤ 1000; decide), fun p3 o3 => ?_⟩
        refine fresh_fin (.lst [v2]) o3 fun H37 s37 h37 => ?_
        refine ⟨_, rfl, _, _, rfl, rfl, .inr ⟨_, rfl, p3, [v2], _, rfl, rfl, .inl (.inl h37), int_truth, fun p4 o4 => ?_⟩⟩
        refine fresh_fin (.lst (if (if decide (4 < 0 + (i : Int)) = true then (1 : Int) else 0) = 1 then [v2] else [])) o4 fun H38 s38 h38 => ?_
        have t38 := s37.trans s38
        refine ⟨p2, p4, _, _, rfl, rfl, t38 _ _ (hK36 _ _ p2t h35), h38, sz ?_, fun p5 o5 => ?_⟩
        · rw [List.length_append]
          have := one_few v2 (decide (4 < 0 + (i : Int)))
          show vs.length + 1 + _ ≤ 1000
          omega
        · refine fresh_fin (.lst (vs ++ [v1] ++ (if (if decide (4 < 0 + (i : Int)) = true then (1 : Int) else 0) = 1 then [v2] else []))) o5 fun H39 s39 h39 => ?_
          have t39 := t38.trans s39
          have k39 := k35.trans (hK36.trans (.of_same t39))
          have one := one_few v2 (decide (4 < 0 + (i : Int)))
          refine ⟨⟨p5, _, _, _, _, _, _, _, _, rfl, ((hT36.same t38).ne o5).1, h39, fun v hv => ?_, ?_, ?_⟩, (hT36.same t39).mono (by omega), hKx.trans k39⟩
          · rcases List.mem_append.mp hv with hv | hv
            · rcases List.mem_append.mp hv with hv | hv
              · exact (tg v hv).kp k39
              · rw [List.mem_singleton.mp hv]
                exact ⟨d1, (dq1.same t35).kp (hK36.trans (.of_same t39)), ft1.mono (by omega) (by omega), lt1.mono (by omega)⟩
            · have e : v = v2 := one_mem hv
              rw [e]
              exact ⟨d2, dq2.same t39, ft2.mono (by omega) (by omega), lt2.mono (by omega)⟩
          · rw [List.length_append, List.length_append]
            omega
          · rw [List.length_append, List.length_append]
            show vs.length + 1 + _ ≤ _
            omega
      · rintro σ Hx ⟨⟨th, y8, y9, y10, y11, y12, y13, y14, vs, rfl, tht, hth, tg, lv1, lv2⟩, hTx, hKx⟩
        have hNx := hKx _ _ nn hN33
        have hBx := tbs_kp hB33 hT33 hKx
        refine ⟨_, rfl, _, rfl, 1, rfl, th, _, rfl, .inl (.inl hth), fun C1 o1 => ?_⟩
        refine fresh_fin (.lst (cutV vs none (some 1))) o1 fun H34 s34 h34 => ?_
        have mcut : ∀ v ∈ cutV vs none (some 1), v ∈ vs := fun v hv => by
          unfold cutV at hv
          exact List.mem_of_mem_drop (List.mem_of_mem_take hv)
        have lcut : (cutV vs none (some 1)).length ≤ vs.length := by unfold cutV; rw [List.length_take, List.length_drop]; omega
        generalize cutV vs none (some 1) = cs at h34 mcut lcut ⊢
        refine ⟨th, C1, _, _, rfl, rfl, s34 _ _ hth, h34, sz (show vs.length + cs.length ≤ 1000 by omega), fun L o2 => ?_⟩
        refine fresh_fin (.lst (vs ++ cs)) o2 fun H35 s35 h35 => ?_
        have t35 := s34.trans s35
        have tg5 : ∀ v ∈ vs ++ cs, Tg t H35 v := fun v hv => ((List.mem_append.mp hv).elim (tg v) fun h => tg v (mcut v h)).same t35
        have hN5 := t35 _ _ hNx
        have hT5 := hTx.same t35
        have hB5 := hBx.same t35
        generalize vs ++ cs = cc at h35 tg5 ⊢
        clear hth tg h34 mcut s34 s35 t35 hTx hKx hBx hNx o1 o2 hN33 hB33 hT33 h33 things33 hb33 dS33 M33
        refine ⟨L, rfl, ⟨_, .inl (.inl h35)⟩, ?_⟩
        refine for_list (xs := cc) (fun i σ Hx => (∃ th y8 y9 y10 y11 y12 y13 y14, σ = [some (.ref a), some (.ref t), some (.ref nA), some (.ref bA), some (.str oth), some (.ref mx), some (.ref th), some (.ref al), y8, y9, y10, y11, y12, y13, y14]) ∧ Gk (tbs T) H35 Hx) ⟨⟨_, _, _, _, _, _, _, _, rfl⟩, .refl hB5⟩ ?_ ?_ ?_
        · rintro i σ Hx hi ⟨_, gx⟩
          exact .inl (.inl (gx.1 _ _ h35 (fun ps z => by cases z)))
        · rintro i x σ Hx hx ⟨⟨th, y8, y9, y10, y11, y12, y13, y14, rfl⟩, gx⟩
          obtain ⟨d, dq, ft, ld⟩ := (tg5 x (List.mem_of_getElem? hx)).gk gx
          have hNx := gx.tup hN5
          have hTx := hT5.gk gx
          have fp := (Fit.cons (fits_names (n := 7) nm).tup (Fit.cons ft fits_nil)).tup
          refine ⟨_, rfl, _, rfl, sz (by show 2 ≤ 1000; decide), fun p1 o1 => ?_⟩
          refine fresh_fin (.tup [V.ref nA, x]) o1 fun H1' s1' h1' => ?_
          refine ⟨false, t, .ref p1, .tuple [.tuple (zs.map PyData.str), d], rfl, .tup (hTx.ne o1).1 h1' (.cons (.tup nn (s1' _ _ hNx) (dq_texts zs)) (.cons (dq.same s1') .nil)), fp.sh, Nat.le_trans fp.dp (by decide), Nat.le_trans fp.wt (by omega), ?_⟩
          have g1 := gx.trans (.of_same s1' gx.2)
          refine ⟨_, rfl, _, rfl, t, nA, x, d, zs, rfl, s1' _ _ hNx, fun z hz => (nm z hz).plain, dq.same s1', ld, feed_lst (hTx.same s1'), fun H2' s2' => ?_⟩
          have g2 := g1.trans (.of_same s2' g1.2)
          refine ⟨false, t, .bl _, .bool _, rfl, .bl _, trivial, by rw [PyData.depth]; decide, by rw [My.wt]; decide, ?_⟩
          have dq2 := Dq.gk dq (.trans (.of_same s1' gx.2) (.of_same s2' g1.2))
          generalize eS : (PyData.bool (isSays zs d)).shown = S
          refine ⟨2, rfl, by decide, by decide, fun D nD => ?_⟩
          refine lc_range (lo := 0) (n := 2) (fun j Hy => Gk (tbs T) H2' Hy ∧ Hy D = some (.lst ((List.replicate j S).map V.str))) ⟨.of_same (same_upd nD) g2.2, upd_same⟩ ?_ ?_
          · rintro j Hy hj ⟨gy, hD⟩
            refine ⟨rfl, _, rfl, _, rfl, t, nA, x, d, zs, rfl, gy.tup (s2' _ _ (s1' _ _ hNx)), Dq.gk dq2 gy, ld, gy.2, fun Hz gz => ?_⟩
            refine ⟨false, t, .bl _, .bool _, rfl, .bl _, trivial, by rw [PyData.depth]; decide, by rw [My.wt]; decide, _, gz.1 _ _ hD (fun ps z => by cases z), small1000 (by rw [List.length_map, List.length_replicate]; omega), gk_fresh nD (gy.trans gz) (gz.1 _ _ hD (fun ps z => by cases z)) (fun ps z => by cases z), ?_⟩
            rw [eS, upd_same, List.replicate_succ', List.map_append]
            rfl
          · rintro Hy ⟨gy, hD⟩
            refine ⟨_, rfl, _, rfl, sz (by show 2 ≤ 1000; decide), fun p3 o3 => ?_⟩
            refine fresh_fin (.lst [V.str S, V.str S]) o3 fun H4' s4' h4' => ?_
            refine ⟨D, p3, [S, S], rfl, rfl, .inl (.inl (s4' _ _ hD)), .inl (.inl h4'), _, rfl, iteF ?_⟩
            have g4 := (g2.trans gy).trans (.of_same s4' gy.2)
            have hN4 := g4.tup hN5
            have dq4 := (Dq.gk dq2 gy).same s4'
            refine ⟨_, rfl, _, rfl, sz (by show 2 ≤ 1000; decide), fun p5 o5 => ?_⟩
            have hT4 := hT5.gk g4
            refine fresh_fin (.tup [V.ref nA, x]) o5 fun H6' s6' h6' => ?_
            refine ⟨false, t, .ref p5, .tuple [.tuple (zs.map PyData.str), d], rfl, .tup (hT4.ne o5).1 h6' (.cons (.tup nn (s6' _ _ hN4) (dq_texts zs)) (.cons (dq4.same s6') .nil)), fp.sh, Nat.le_trans fp.dp (by decide), Nat.le_trans fp.wt (by omega), ?_⟩
            exact ⟨_, rfl, rfl, _, rfl, iteNS rfl ⟨⟨_, _, _, _, _, _, _, _, rfl⟩, g4.trans (.of_same s6' g4.2)⟩⟩
        · rintro σ Hx ⟨⟨th, y8, y9, y10, y11, y12, y13, y14, rfl⟩, gx⟩
          exact q _
end
end L53
set_option Elab.async false
set_option linter.all false
set_option maxRecDepth 100000
set_option maxHeartbeats 2000000
namespace L53
open PySem PySem.Spec PyProof.Rows L2 My
theorem all_mk {l : PySem.W.OpenLaw} {w : World} {K : PySem.W.Frag} {h : Heap} {mg : Str → Option Value} {fa : Addr} {q : Program} (X : K.In h) (G : h.Ns mainGlobals mg) (hfa : mg "law" = some (.ref fa)) (tabs : GE.TabsIn q K h)
    {f1 : Addr} {od1 an1 : Option Addr} {sl1 : Array (Option Value)} {oc1 kV1 dc1 pm1 cd1 ct1 : Value}
    {q1 P1 : Addr} {ge1 : Value} {gd1 : Option Addr} {gv1 : Array Value} {gs1 : Array (Option Value)}
    {f2 : Addr} {od2 an2 : Option Addr} {sl2 : Array (Option Value)} {oc2 kV2 dc2 pm2 cd2 ct2 : Value}
    {f3 : Addr} {od3 an3 : Option Addr} {sl3 : Array (Option Value)} {oc3 kV3 dc3 pm3 cd3 ct3 : Value}
    {q3 P3 : Addr} {ge3 : Value} {gd3 : Option Addr} {gv3 : Array Value} {gs3 : Array (Option Value)}
    {f4 : Addr} {od4 an4 : Option Addr} {sl4 : Array (Option Value)} {oc4 kV4 dc4 pm4 cd4 ct4 : Value}
    {f5 : Addr} {od5 an5 : Option Addr} {sl5 : Array (Option Value)} {oc5 kV5 dc5 pm5 cd5 ct5 : Value}
    {f6 : Addr} {od6 an6 : Option Addr} {sl6 : Array (Option Value)} {oc6 kV6 dc6 pm6 cd6 ct6 : Value}
    {f7 : Addr} {od7 an7 : Option Addr} {sl7 : Array (Option Value)} {oc7 kV7 dc7 pm7 cd7 ct7 : Value}
    {f8 : Addr} {od8 an8 : Option Addr} {sl8 : Array (Option Value)} {oc8 kV8 dc8 pm8 cd8 ct8 : Value}
    {f9 : Addr} {od9 an9 : Option Addr} {sl9 : Array (Option Value)} {oc9 kV9 dc9 pm9 cd9 ct9 : Value}
    {f10 : Addr} {od10 an10 : Option Addr} {sl10 : Array (Option Value)} {oc10 kV10 dc10 pm10 cd10 ct10 : Value}
    {f11 : Addr} {od11 an11 : Option Addr} {sl11 : Array (Option Value)} {oc11 kV11 dc11 pm11 cd11 ct11 : Value}
    {f12 : Addr} {od12 an12 : Option Addr} {sl12 : Array (Option Value)} {oc12 kV12 dc12 pm12 cd12 ct12 : Value}
    {f13 : Addr} {od13 an13 : Option Addr} {sl13 : Array (Option Value)} {oc13 kV13 dc13 pm13 cd13 ct13 : Value}
    {d1 : DefRec}
    {d3 : DefRec}
    (a1 : PySem.W.nsIn K mainGlobals "is_rising" = some (some (.ref f1))) (l1 : K.lookup f1 = some ⟨oc1, od1, .func (PySem.W.fnOf "is_rising" "is_rising" (defArgs s_is_rising) (defBody s_is_rising) (defScope s_is_rising) .none kV1 dc1 pm1 an1 cd1 ct1), sl1⟩) (c1 : PySem.W.codeIn K cd1 "is_rising" = true) (k1 : PySem.W.keepIn K (.ref f1) = true)
    (e1 : cd1 = .ref q1) (u1 : K.lookup q1 = some ⟨ge1, gd1, .fields gv1, gs1⟩) (v1t : gv1[11]? = some (.ref P1)) (n1 : K.lookup P1 = none)
    (a2 : PySem.W.nsIn K mainGlobals "is_saying" = some (some (.ref f2))) (l2 : K.lookup f2 = some ⟨oc2, od2, .func (PySem.W.fnOf "is_saying" "is_saying" (defArgs s_is_saying) (defBody s_is_saying) (defScope s_is_saying) .none kV2 dc2 pm2 an2 cd2 ct2), sl2⟩) (c2 : PySem.W.codeIn K cd2 "is_saying" = true) (k2 : PySem.W.keepIn K (.ref f2) = true)
    (a3 : PySem.W.nsIn K mainGlobals "is_sayings" = some (some (.ref f3))) (l3 : K.lookup f3 = some ⟨oc3, od3, .func (PySem.W.fnOf "is_sayings" "is_sayings" (defArgs s_is_sayings) (defBody s_is_sayings) (defScope s_is_sayings) .none kV3 dc3 pm3 an3 cd3 ct3), sl3⟩) (c3 : PySem.W.codeIn K cd3 "is_sayings" = true) (k3 : PySem.W.keepIn K (.ref f3) = true)
    (e3 : cd3 = .ref q3) (u3 : K.lookup q3 = some ⟨ge3, gd3, .fields gv3, gs3⟩) (v3t : gv3[11]? = some (.ref P3)) (n3 : K.lookup P3 = none)
    (a4 : PySem.W.nsIn K mainGlobals "_law_feed" = some (some (.ref f4))) (l4 : K.lookup f4 = some ⟨oc4, od4, .func (PySem.W.fnOf "_law_feed" "_law_feed" (defArgs s_w_feed) (defBody s_w_feed) (defScope s_w_feed) .none kV4 dc4 pm4 an4 cd4 ct4), sl4⟩) (c4 : PySem.W.codeIn K cd4 "_law_feed" = true) (k4 : PySem.W.keepIn K (.ref f4) = true)
    (a5 : PySem.W.nsIn K mainGlobals "_law_draw" = some (some (.ref f5))) (l5 : K.lookup f5 = some ⟨oc5, od5, .func (PySem.W.fnOf "_law_draw" "_law_draw" (defArgs s_w_draw) (defBody s_w_draw) (defScope s_w_draw) .none kV5 dc5 pm5 an5 cd5 ct5), sl5⟩) (c5 : PySem.W.codeIn K cd5 "_law_draw" = true) (k5 : PySem.W.keepIn K (.ref f5) = true)
    (a6 : PySem.W.nsIn K mainGlobals "_law_names" = some (some (.ref f6))) (l6 : K.lookup f6 = some ⟨oc6, od6, .func (PySem.W.fnOf "_law_names" "_law_names" (defArgs s_w_names) (defBody s_w_names) (defScope s_w_names) .none kV6 dc6 pm6 an6 cd6 ct6), sl6⟩) (c6 : PySem.W.codeIn K cd6 "_law_names" = true) (k6 : PySem.W.keepIn K (.ref f6) = true)
    (a7 : PySem.W.nsIn K mainGlobals "_law_along" = some (some (.ref f7))) (l7 : K.lookup f7 = some ⟨oc7, od7, .func (PySem.W.fnOf "_law_along" "_law_along" (defArgs s_w_along) (defBody s_w_along) (defScope s_w_along) .none kV7 dc7 pm7 an7 cd7 ct7), sl7⟩) (c7 : PySem.W.codeIn K cd7 "_law_along" = true) (k7 : PySem.W.keepIn K (.ref f7) = true)
    (a8 : PySem.W.nsIn K mainGlobals "_law_turned" = some (some (.ref f8))) (l8 : K.lookup f8 = some ⟨oc8, od8, .func (PySem.W.fnOf "_law_turned" "_law_turned" (defArgs s_w_turned) (defBody s_w_turned) (defScope s_w_turned) .none kV8 dc8 pm8 an8 cd8 ct8), sl8⟩) (c8 : PySem.W.codeIn K cd8 "_law_turned" = true) (k8 : PySem.W.keepIn K (.ref f8) = true)
    (a9 : PySem.W.nsIn K mainGlobals "_law_sayings" = some (some (.ref f9))) (l9 : K.lookup f9 = some ⟨oc9, od9, .func (PySem.W.fnOf "_law_sayings" "_law_sayings" (defArgs s_w_sayings) (defBody s_w_sayings) (defScope s_w_sayings) .none kV9 dc9 pm9 an9 cd9 ct9), sl9⟩) (c9 : PySem.W.codeIn K cd9 "_law_sayings" = true) (k9 : PySem.W.keepIn K (.ref f9) = true)
    (a10 : PySem.W.nsIn K mainGlobals "_law_spoilt" = some (some (.ref f10))) (l10 : K.lookup f10 = some ⟨oc10, od10, .func (PySem.W.fnOf "_law_spoilt" "_law_spoilt" (defArgs s_w_spoilt) (defBody s_w_spoilt) (defScope s_w_spoilt) .none kV10 dc10 pm10 an10 cd10 ct10), sl10⟩) (c10 : PySem.W.codeIn K cd10 "_law_spoilt" = true) (k10 : PySem.W.keepIn K (.ref f10) = true)
    (a11 : PySem.W.nsIn K mainGlobals "_law_is_saying" = some (some (.ref f11))) (l11 : K.lookup f11 = some ⟨oc11, od11, .func (PySem.W.fnOf "_law_is_saying" "_law_is_saying" (defArgs s_w_is_saying) (defBody s_w_is_saying) (defScope s_w_is_saying) .none kV11 dc11 pm11 an11 cd11 ct11), sl11⟩) (c11 : PySem.W.codeIn K cd11 "_law_is_saying" = true) (k11 : PySem.W.keepIn K (.ref f11) = true)
    (a12 : PySem.W.nsIn K mainGlobals "_law_is_sayings" = some (some (.ref f12))) (l12 : K.lookup f12 = some ⟨oc12, od12, .func (PySem.W.fnOf "_law_is_sayings" "_law_is_sayings" (defArgs s_w_is_sayings) (defBody s_w_is_sayings) (defScope s_w_is_sayings) .none kV12 dc12 pm12 an12 cd12 ct12), sl12⟩) (c12 : PySem.W.codeIn K cd12 "_law_is_sayings" = true) (k12 : PySem.W.keepIn K (.ref f12) = true)
    (a13 : PySem.W.nsIn K mainGlobals "law" = some (some (.ref f13))) (l13 : K.lookup f13 = some ⟨oc13, od13, .func (PySem.W.fnOf "law" "law" (defArgs s_law) (defBody s_law) (defScope s_law) .none kV13 dc13 pm13 an13 cd13 ct13), sl13⟩) (c13 : PySem.W.codeIn K cd13 "law" = true) (k13 : PySem.W.keepIn K (.ref f13) = true)
    (z1 : PySem.W.nsIn K mainGlobals "all" = some none)
    (z2 : PySem.W.nsIn K mainGlobals "int" = some none)
    (z3 : PySem.W.nsIn K mainGlobals "isinstance" = some none)
    (z4 : PySem.W.nsIn K mainGlobals "len" = some none)
    (z5 : PySem.W.nsIn K mainGlobals "list" = some none)
    (z6 : PySem.W.nsIn K mainGlobals "max" = some none)
    (z7 : PySem.W.nsIn K mainGlobals "min" = some none)
    (z8 : PySem.W.nsIn K mainGlobals "range" = some none)
    (z9 : PySem.W.nsIn K mainGlobals "repr" = some none)
    (z10 : PySem.W.nsIn K mainGlobals "set" = some none)
    (z11 : PySem.W.nsIn K mainGlobals "sorted" = some none)
    (z12 : PySem.W.nsIn K mainGlobals "tuple" = some none)
    (r1 : (recsOf q).find? (fun e => e.name == ("is_rising" : Str)) = some d1)
    (r3 : (recsOf q).find? (fun e => e.name == ("is_sayings" : Str)) = some d3) :
    GU.LawAtG l w K CX0 7 63 "_law_script" mg fa h := by
  have e := hfa.symm.trans (PySem.W.mg_of X G a13)
  cases e
  have F1 := GE.funC_mk (st := s_is_rising) l1 e1 c1 k1
  have F2 := fun_mk (st := s_is_saying) l2 c2 k2
  have F3 := GE.funC_mk (st := s_is_sayings) l3 e3 c3 k3
  have F4 := fun_mk (st := s_w_feed) l4 c4 k4
  have F5 := fun_mk (st := s_w_draw) l5 c5 k5
  have F6 := fun_mk (st := s_w_names) l6 c6 k6
  have F7 := fun_mk (st := s_w_along) l7 c7 k7
  have F8 := fun_mk (st := s_w_turned) l8 c8 k8
  have F9 := fun_mk (st := s_w_sayings) l9 c9 k9
  have F10 := fun_mk (st := s_w_spoilt) l10 c10 k10
  have F11 := fun_mk (st := s_w_is_saying) l11 c11 k11
  have F12 := fun_mk (st := s_w_is_sayings) l12 c12 k12
  have F13 := fun_mk (st := s_law) l13 c13 k13
  let T : Tx K mg := { k_is_rising := q1, P_is_rising := P1, f_is_rising := f1, d_is_rising := _, F_is_rising := F1, g_is_rising := PySem.W.mg_of X G a1, b_is_rising := (F1.toFun.binds fun _ _ _ _ _ _ us hl => match us, hl with | [_], _ => rfl), f_is_saying := f2, d_is_saying := _, F_is_saying := F2, g_is_saying := PySem.W.mg_of X G a2, b_is_saying := (F2.binds fun _ _ _ _ _ _ us hl => match us, hl with | [_, _], _ => rfl), k_is_sayings := q3, P_is_sayings := P3, f_is_sayings := f3, d_is_sayings := _, F_is_sayings := F3, g_is_sayings := PySem.W.mg_of X G a3, b_is_sayings := (F3.toFun.binds fun _ _ _ _ _ _ us hl => match us, hl with | [_, _], _ => rfl), f_w_feed := f4, d_w_feed := _, F_w_feed := F4, g_w_feed := PySem.W.mg_of X G a4, b_w_feed := (F4.binds fun _ _ _ _ _ _ us hl => match us, hl with | [_], _ => rfl), f_w_draw := f5, d_w_draw := _, F_w_draw := F5, g_w_draw := PySem.W.mg_of X G a5, b_w_draw := (F5.binds fun _ _ _ _ _ _ us hl => match us, hl with | [_, _], _ => rfl), f_w_names := f6, d_w_names := _, F_w_names := F6, g_w_names := PySem.W.mg_of X G a6, b_w_names := (F6.binds fun _ _ _ _ _ _ us hl => match us, hl with | [_, _], _ => rfl), f_w_along := f7, d_w_along := _, F_w_along := F7, g_w_along := PySem.W.mg_of X G a7, b_w_along := (F7.binds fun _ _ _ _ _ _ us hl => match us, hl with | [_], _ => rfl), f_w_turned := f8, d_w_turned := _, F_w_turned := F8, g_w_turned := PySem.W.mg_of X G a8, b_w_turned := (F8.binds fun _ _ _ _ _ _ us hl => match us, hl with | [_, _], _ => rfl), f_w_sayings := f9, d_w_sayings := _, F_w_sayings := F9, g_w_sayings := PySem.W.mg_of X G a9, b_w_sayings := (F9.binds fun _ _ _ _ _ _ us hl => match us, hl with | [_, _, _], _ => rfl), f_w_spoilt := f10, d_w_spoilt := _, F_w_spoilt := F10, g_w_spoilt := PySem.W.mg_of X G a10, b_w_spoilt := (F10.binds fun _ _ _ _ _ _ us hl => match us, hl with | [_, _, _], _ => rfl), f_w_is_saying := f11, d_w_is_saying := _, F_w_is_saying := F11, g_w_is_saying := PySem.W.mg_of X G a11, b_w_is_saying := (F11.binds fun _ _ _ _ _ _ us hl => match us, hl with | [_, _], _ => rfl), f_w_is_sayings := f12, d_w_is_sayings := _, F_w_is_sayings := F12, g_w_is_sayings := PySem.W.mg_of X G a12, b_w_is_sayings := (F12.binds fun _ _ _ _ _ _ us hl => match us, hl with | [_, _], _ => rfl), f_law := fa, d_law := _, F_law := F13, g_law := PySem.W.mg_of X G a13, b_law := (F13.binds fun _ _ _ _ _ _ us hl => match us, hl with | [_], _ => rfl), m_all := PySem.W.mg_none_of X G z1, m_int := PySem.W.mg_none_of X G z2, m_isinstance := PySem.W.mg_none_of X G z3, m_len := PySem.W.mg_none_of X G z4, m_list := PySem.W.mg_none_of X G z5, m_max := PySem.W.mg_none_of X G z6, m_min := PySem.W.mg_none_of X G z7, m_range := PySem.W.mg_none_of X G z8, m_repr := PySem.W.mg_none_of X G z9, m_set := PySem.W.mg_none_of X G z10, m_sorted := PySem.W.mg_none_of X G z11, m_tuple := PySem.W.mg_none_of X G z12 }
  have h1 := tabs "is_rising" _ _ _ r1 (GE.tabIn_of a1 l1 e1 u1 v1t)
  have h3 := tabs "is_sayings" _ _ _ r3 (GE.tabIn_of a3 l3 e3 u3 v3t)
  have B0 : ∀ base : Heap, (∀ p ∈ [(q1, P1), (q3, P3)], LamX.TabB base mg p.1 p.2) → Tb T base := fun base hb => ⟨GE.tabB (hb (q1, P1) (by simp)), GE.tabB (hb (q3, P3) (by simp))⟩
  refine ⟨_, [(q1, P1), (q3, P3)], spLaw T, fun p hp => by
      simp only [List.mem_cons, List.not_mem_nil, or_false] at hp
      rcases hp with rfl | rfl
      · exact h1.2
      · exact h3.2, fun p hp => by
      simp only [List.mem_cons, List.not_mem_nil, or_false] at hp
      rcases hp with rfl | rfl
      · exact n1
      · exact n3, fun p hp => by
      simp only [List.mem_cons, List.not_mem_nil, or_false] at hp
      rcases hp with rfl | rfl
      · exact h1.1
      · exact h3.1, fun s v => .of_eq rfl, fun H a ns hl hH hS => ⟨a, ns, rfl, hS, hl, fun p hp => ⟨#[], ?_, ?_⟩, fun _ => rfl⟩, fun base _ _ hb => ok_law T (B0 base hb)⟩
  · have hp : p ∈ ([(q1, P1), (q3, P3)]).map (·.2) := hp
    obtain ⟨z, hz, e⟩ := List.mem_map.mp hp
    rw [← e]; exact hH z hz
  · exact True.intro
end L53
open PySem PySem.W PyProof.Rows
set_option maxHeartbeats 0 in
theorem PySem.Challenge.cw_cardsback_k53_sayings_by_kind_holds : PySem.Challenge.rw_cardsback_k53_sayings_by_kind.Holds := by
  w_on; o_law; k_head; (case hw => w_witness2)
  k_fill
  refine GU.walk_G (l := PySem.Challenge.rw_cardsback_k53_sayings_by_kind) (n := 63) (k := 7) (x := "_law_script") (CX := fun _ => L2.CX0) rfl (by decide) rfl ⟨rfl, by decide, by decide⟩ (fun w h Y => PySem.W.kIn_of Y) ?F (fun _ _ _ _ _ h => h)
  case F =>
    intro w mg fa h KX G hmg tabs
    refine' L53.all_mk KX G hmg tabs ?a1 ?l1 ?c1 ?k1 ?e1 ?u1 ?v1t ?n1 ?a2 ?l2 ?c2 ?k2 ?a3 ?l3 ?c3 ?k3 ?e3 ?u3 ?v3t ?n3 ?a4 ?l4 ?c4 ?k4 ?a5 ?l5 ?c5 ?k5 ?a6 ?l6 ?c6 ?k6 ?a7 ?l7 ?c7 ?k7 ?a8 ?l8 ?c8 ?k8 ?a9 ?l9 ?c9 ?k9 ?a10 ?l10 ?c10 ?k10 ?a11 ?l11 ?c11 ?k11 ?a12 ?l12 ?c12 ?k12 ?a13 ?l13 ?c13 ?k13 ?z1 ?z2 ?z3 ?z4 ?z5 ?z6 ?z7 ?z8 ?z9 ?z10 ?z11 ?z12 ?r1 ?r3
    (case a1 => k_is); (case l1 => k_is); (case c1 => k_is); (case k1 => k_is); (case e1 => rfl); (case u1 => k_is); (case v1t => rfl); (case n1 => first | kernel_rfl | rfl | with_unfolding_all rfl); (case a2 => k_is); (case l2 => k_is); (case c2 => k_is); (case k2 => k_is); (case a3 => k_is); (case l3 => k_is); (case c3 => k_is); (case k3 => k_is); (case e3 => rfl); (case u3 => k_is); (case v3t => rfl); (case n3 => first | kernel_rfl | rfl | with_unfolding_all rfl); (case a4 => k_is); (case l4 => k_is); (case c4 => k_is); (case k4 => k_is); (case a5 => k_is); (case l5 => k_is); (case c5 => k_is); (case k5 => k_is); (case a6 => k_is); (case l6 => k_is); (case c6 => k_is); (case k6 => k_is); (case a7 => k_is); (case l7 => k_is); (case c7 => k_is); (case k7 => k_is); (case a8 => k_is); (case l8 => k_is); (case c8 => k_is); (case k8 => k_is); (case a9 => k_is); (case l9 => k_is); (case c9 => k_is); (case k9 => k_is); (case a10 => k_is); (case l10 => k_is); (case c10 => k_is); (case k10 => k_is); (case a11 => k_is); (case l11 => k_is); (case c11 => k_is); (case k11 => k_is); (case a12 => k_is); (case l12 => k_is); (case c12 => k_is); (case k12 => k_is); (case a13 => k_is); (case l13 => k_is); (case c13 => k_is); (case k13 => k_is); (case z1 => k_is); (case z2 => k_is); (case z3 => k_is); (case z4 => k_is); (case z5 => k_is); (case z6 => k_is); (case z7 => k_is); (case z8 => k_is); (case z9 => k_is); (case z10 => k_is); (case z11 => k_is); (case z12 => k_is); (case r1 => rfl); (case r3 => rfl)
