import PyProof.Rows.All
import Wide.All
import OpenK.AllK
import Wide.FinOn
import HandS.ForMost
import HandS.IsInst
import HandS.TupLe
import HandS.Flow
import HandS.GenList
import HandS.AnyAll
import HandS.EndTab
import HandS.Walk
import HandS.TupAny
import HandS.Rev
import HandS.Zip
import HandS.More
import KE.KeyNested
import KE.KDictKeyed
import KE.LtData
import KE.SortKeyHeap
import HandS.SortKw
import HandS.Keys
import KE.KDictWalk
import KE.KDictSum
import HandS.DictComp
import HandS.Lambda
import HandS.ExcInit
import HandS.ExcField
import HandS.ExcIs
import HandS.ExcOwn
import HandS.WordsExc
import HandS.Strs
import HandS.Style
import PyProof.NeKinds
import HandS.TupSets
import KE.SortCalls
import PyProof.Rows.SortKeyStr
import HandS.SetBool
import HandS.Replace
import HandS.Text
import PySem.Challenge.RW_cardsback_k45_let_go_told
import HandS.DeepEq
import KE.GoesMore
import KE.SortData
import HandS.SetFor
import HandS.TryOnly
set_option Elab.async false
set_option linter.all false
set_option maxRecDepth 100000
/-! My own words for these laws: the tap, kept heaps, repr of flat things. -/
namespace My
open PySem PySem.Spec PyProof.Rows L2
/-! ### heaps -/
/-- all but t is as it was -/
def Kp (t : Addr) (H H' : Hp) : Prop := ∀ b o, b ≠ t → H b = some o → H' b = some o
theorem Kp.refl (t : Addr) (H : Hp) : Kp t H H := fun _ _ _ h => h
theorem Kp.trans {t : Addr} {H H1 H2 : Hp} (a : Kp t H H1) (b : Kp t H1 H2) : Kp t H H2 := fun c o n h => b c o n (a c o n h)
theorem Kp.own {t : Addr} {H H1 : Hp} {o : HO} (a : Kp t H H1) : Kp t H (upd H1 t o) := fun b x n h => by rw [upd_ne n]; exact a b x n h
theorem Kp.new {t p : Addr} {H H1 : Hp} {o : HO} (a : Kp t H H1) (hp : H1 p = none) : Kp t H (upd H1 p o) := fun b x n h => by
  have h1 := a b x n h
  rw [upd_ne (ne_of_none h1 hp)]
  exact h1
theorem Kp.of_same {t : Addr} {H H1 : Hp} (a : Same H H1) : Kp t H H1 := fun b o _ h => a b o h
theorem same_upd {H : Hp} {p : Addr} {o : HO} (h : H p = none) : Same H (upd H p o) := fun b x e => by
  rw [upd_ne (ne_of_none e h)]
  exact e
theorem upd_upd' {H : Hp} {p : Addr} {a b : HO} : upd (upd H p a) p b = upd H p b := by
  funext x
  unfold upd
  by_cases h : x = p <;> simp [h]
theorem upd_comm' {H : Hp} {p r : Addr} {a b : HO} (n : p ≠ r) : upd (upd H p a) r b = upd (upd H r b) p a := by
  funext x
  unfold upd
  by_cases h : x = p
  · by_cases k : x = r
    · exact absurd (h.symm.trans k) n
    · simp [h, n]
  · by_cases k : x = r
    · simp [k, n.symm]
    · simp [h, k]
theorem upd_free {H : Hp} {p x : Addr} {o : HO} (e : upd H p o x = none) : x ≠ p ∧ H x = none := by
  by_cases h : x = p
  · rw [h, upd_same] at e
    cases e
  · rw [upd_ne h] at e
    exact ⟨h, e⟩
theorem sz {n : Nat} (h : n ≤ 1000) : n ≤ sizeLine := Nat.le_of_lt (small1000 h)
theorem tYesT {σ : L2.St} {H : Hp} {A B : Hp → Prop} (h : A H) : tYes σ H (fun b H3 => if b = true then A H3 else B H3) := by
  show if true = true then A H else B H
  exact iteT h
/-! ### the tap -/
def kt (c s r n : V) : List (Key × V) := [(.inr "cells", c), (.inr "spot", s), (.inr "rest", r), (.inr "calls", n)]
theorem kt_cells (c s r n : V) : valV (kt c s r n) (.inr "cells") = some c := rfl
theorem kt_spot (c s r n : V) : valV (kt c s r n) (.inr "spot") = some s := rfl
theorem kt_rest (c s r n : V) : valV (kt c s r n) (.inr "rest") = some r := rfl
theorem kt_calls (c s r n : V) : valV (kt c s r n) (.inr "calls") = some n := rfl
theorem put_spot (c s r n v : V) : putK (kt c s r n) (.inr "spot") v = kt c v r n := rfl
theorem put_rest (c s r n v : V) : putK (kt c s r n) (.inr "rest") v = kt c s v n := rfl
theorem put_calls (c s r n v : V) : putK (kt c s r n) (.inr "calls") v = kt c s r v := rfl
theorem kt_len (c s r n : V) : (kt c s r n).length < sizeLine := small1000 (by show 4 ≤ 1000; decide)
theorem g_cells {H : Hp} {t : Addr} {c s r n : V} (h : H t = some (.dK (kt c s r n))) : DGet H t (.str "cells") (some c) := DGet.k (k := .inr "cells") h
theorem g_spot {H : Hp} {t : Addr} {c s r n : V} (h : H t = some (.dK (kt c s r n))) : DGet H t (.str "spot") (some s) := DGet.k (k := .inr "spot") h
theorem g_rest {H : Hp} {t : Addr} {c s r n : V} (h : H t = some (.dK (kt c s r n))) : DGet H t (.str "rest") (some r) := DGet.k (k := .inr "rest") h
theorem g_calls {H : Hp} {t : Addr} {c s r n : V} (h : H t = some (.dK (kt c s r n))) : DGet H t (.str "calls") (some n) := DGet.k (k := .inr "calls") h
theorem p_spot {H : Hp} {t : Addr} {c s r n v : V} (h : H t = some (.dK (kt c s r n))) : DPut H t (.str "spot") v (upd H t (.dK (kt c v r n))) := DPut.k (k := .inr "spot") h (kt_len _ _ _ _)
theorem p_rest {H : Hp} {t : Addr} {c s r n v : V} (h : H t = some (.dK (kt c s r n))) : DPut H t (.str "rest") v (upd H t (.dK (kt c s v n))) := DPut.k (k := .inr "rest") h (kt_len _ _ _ _)
theorem p_calls {H : Hp} {t : Addr} {c s r n v : V} (h : H t = some (.dK (kt c s r n))) : DPut H t (.str "calls") v (upd H t (.dK (kt c s r v))) := DPut.k (k := .inr "calls") h (kt_len _ _ _ _)
/-- a tap at t that was asked at most n times -/
def Tap (H : Hp) (t : Addr) (n : Nat) : Prop := ∃ (c : Addr) (ns : List Int) (sp re ca : Int),
  H t = some (.dK (kt (.ref c) (.int sp) (.int re) (.int ca))) ∧ H c = some (.lst (ns.map V.int)) ∧ ns.length ≤ 63 ∧ 0 ≤ sp ∧ 0 ≤ re ∧ 0 ≤ ca ∧ ca ≤ n
theorem Tap.mono {H : Hp} {t : Addr} {n m : Nat} (h : Tap H t n) (le : n ≤ m) : Tap H t m := by
  obtain ⟨c, ns, sp, re, ca, h1, h2, h3, h4, h5, h6, h7⟩ := h
  exact ⟨c, ns, sp, re, ca, h1, h2, h3, h4, h5, h6, by omega⟩
theorem Tap.same {H H' : Hp} {t : Addr} {n : Nat} (h : Tap H t n) (s : Same H H') : Tap H' t n := by
  obtain ⟨c, ns, sp, re, ca, h1, h2, h3⟩ := h
  exact ⟨c, ns, sp, re, ca, s _ _ h1, s _ _ h2, h3⟩
theorem Tap.new {H : Hp} {t p : Addr} {o : HO} {n : Nat} (h : Tap H t n) (hp : H p = none) : Tap (upd H p o) t n := h.same (same_upd hp)
theorem Tap.ne {H : Hp} {t p : Addr} {n : Nat} (h : Tap H t n) (hp : H p = none) : p ≠ t := fun z => by
  obtain ⟨c, ns, sp, re, ca, h1, _⟩ := h
  rw [z, h1] at hp
  cases hp
theorem Tap.upd_other {H : Hp} {t p : Addr} {o o' : HO} {n : Nat} (h : Tap H t n) (hp : H p = some o) (h1 : ∀ x, o ≠ .dK x) (h2 : ∀ x : List Int, o ≠ .lst (x.map V.int)) : Tap (upd H p o') t n := by
  obtain ⟨c, ns, sp, re, ca, e1, e2, h3⟩ := h
  refine ⟨c, ns, sp, re, ca, ?_, ?_, h3⟩
  · rw [upd_ne]
    · exact e1
    · intro z
      rw [z, hp] at e1
      exact h1 _ (Option.some.inj e1)
  · rw [upd_ne]
    · exact e2
    · intro z
      rw [z, hp] at e2
      exact h2 _ (Option.some.inj e2)
/-- the promise of the tap's draw -/
def spTake : Sp := fun vs H Q _ => ∃ (t : Addr) (m : Int) (n : Nat), vs = [.ref t, .int m] ∧ 0 < m ∧ m < 1000000 ∧ Tap H t n ∧ n < 1000000 ∧
  ∀ v H', 0 ≤ v → v < m → Tap H' t (n + 1) → Kp t H H' → Q (.int v) H'
def spTap (K : PySem.W.Frag) : Sp := fun vs H Q _ => ∃ (a : Addr) (ns : List Int), vs = [.ref a] ∧ SqL K H a (ns.map V.int) ∧
  ∀ t H', Same H H' → H t = none → Tap H' t 0 → Q (.ref t) H'
theorem pow5 (x : Int) (h0 : 0 ≤ x) (h1 : x < 2 ^ 60) : CPow x 5 := ⟨by decide, by decide, by omega⟩
theorem pow5b (y c : Int) (h0 : 0 ≤ c) (h1 : c ≤ 1000000) : CPow (y % 2147483647 + 4099 * c * c) 5 := by
  have a : 0 ≤ 4099 * c * c := Int.mul_nonneg (by omega) h0
  have b : 4099 * c * c ≤ 4099000000 * 1000000 := Int.mul_le_mul (by omega) h1 h0 (by omega)
  exact pow5 _ (by omega) (by omega)
/-! ### repr of flat things -/
def showF : V → Str
  | .non => "None"
  | .bl b => if b then "True" else "False"
  | .int i => toString i
  | _ => ""
def smallV : V → Prop
  | .non => True
  | .bl _ => True
  | .int i => i.natAbs.log2 < 1920
  | _ => False
section
variable {X : Cx}
theorem call_reprF : CallR X (.builtin "repr") (fun xs H Q => ∃ v, xs = [v] ∧ smallV v ∧ Q (.str (showF v)) H) := by
  intro pins s σ H xs us Q I r h
  obtain ⟨v, rfl, hz, q⟩ := h
  obtain ⟨u, rfl, ru⟩ := vals1 r
  cases v with
  | non => cases ru; exact PySem.P.repr_of_none ⟨.str _, H, I.tok _, ⟨_, rfl⟩, q⟩
  | bl b => cases ru; exact PySem.P.repr_of_bool ⟨.str _, H, I.tok _, ⟨_, rfl⟩, q⟩
  | int i =>
    obtain ⟨t, rfl⟩ := ru
    exact PySem.P.repr_of_int hz ⟨.str _, H, I.tok _, ⟨_, rfl⟩, q⟩
  | _ => exact hz.elim
end
theorem small_nat {i : Int} (h0 : -1000000 < i) (h1 : i < 1000000) : i.natAbs.log2 < 1920 := by
  by_cases z : i.natAbs = 0
  · rw [z]; decide
  · refine Nat.lt_of_lt_of_le ((Nat.log2_lt z).mpr (show i.natAbs < 2 ^ 20 by omega)) (by decide)
end My

set_option Elab.async false
set_option linter.all false
set_option maxRecDepth 100000
set_option maxHeartbeats 2000000
/-! My own rule for all(..) and any(..) of a generator expression: the walked thing by PI, the element by PE, whatever it calls. -/
namespace GE
open PySem PySem.Spec PyProof.Rows L2 GenW
/-- where a generator expression's own frame runs -/
abbrev gctx (X : Cx) (A : Around) (s : Shared) (H : Hp) (scope : Scope) (cenv : Env) (fp : List Addr) : Cx :=
  { X with A := A, s_0 := s, H_0 := H, env := cenv, outer := X.stack, stack := cenv :: X.stack, ex := fp, fn := fun x => scope.names.lookup x == some .cell, pn := [], xe := fun _ _ => False }
/-- only the book of generators and the counts have changed -/
theorem inv_heap {X : Cx} {pins : List (Addr × Obj)} {σ : L2.St} {H : Hp} {s s' : Shared} (I : Inv X pins σ H s) (hh : s'.heap = s.heap) (ho : s'.os = s.os) (hb : AllBare s'.gens) : Inv X pins σ H s' :=
  ⟨I.ok, ho.trans I.os, hb, by rw [hh]; exact I.base, by rw [hh]; exact I.loc, by rw [hh]; exact I.cell, I.free, I.freeC, by rw [hh]; exact I.pin, by rw [hh]; exact I.hok, I.len⟩
theorem over_gen {A : Around} {elt tg iter : Expr} {ifs : List Expr} {scope : Scope} {pos : Pos} {it : Value} {env : Env} :
    A.over (.compLoop (.GeneratorExp elt [⟨tg, iter, ifs, 0⟩] scope pos) 0 it .none env) [] = A.deeper env := rfl
section
variable {X : Cx} {pins : List (Addr × Obj)} {σ : L2.St} {H : Hp} {s : Shared}
theorem gen_start {scope : Scope} {own : List (Str × Nat)} {fp : List Addr} {A : Around} {code itv : Value} {h' : Heap} {g' : Array GenState} {tk : Nat} {go : Obj}
    (I : Inv X pins σ H s) (ok : BlkOk X.N X.env.scope scope own) (hN : X.N.Nodup) (hcell : ∀ y ∈ scope.names, y.2 ≠ .cell) (hfp : ∀ b ∈ fp, FpOk X pins H b ∧ b < s.heap.objs.size)
    (hA : A.handled = none) (hF : A.frames = some (genEnv scope (cloFrom X.env.cells scope.names []) s.heap.objs.size code builtinsNs X.env :: X.stack))
    (hn : h'.Ns s.heap.objs.size (fun y => if y = ".0" then some itv else none)) (hk : ∀ b o, s.heap.get? b = some o → h'.get? b = some o)
    (hgo : ∀ v, go.data ≠ .cell v) (hga : (h'.push go).get? h'.objs.size = some go) (hsz : h'.objs.size = s.heap.objs.size + 1) (hb : AllBare g') :
    Inv (gctx X A s H scope (genEnv scope (cloFrom X.env.cells scope.names []) s.heap.objs.size code builtinsNs X.env) fp) [(h'.objs.size, go)] (wipe σ (own.map (·.2))) H
      { s with gens := g', toks := tk, heap := h'.push go } := by
  generalize hce : genEnv scope (cloFrom X.env.cells scope.names []) s.heap.objs.size code builtinsNs X.env = cenv at hF ⊢
  have eL : cenv.locals = s.heap.objs.size := by rw [← hce]; rfl
  have eC : cenv.cells = cloFrom X.env.cells scope.names [] := by rw [← hce]; rfl
  have eS : cenv.scope = scope := by rw [← hce]; rfl
  have kp : ∀ b o, s.heap.get? b = some o → (h'.push go).get? b = some o := fun b o e => Heap.get?_push_of_some _ (hk b o e)
  have got : ∀ y ∈ scope.names, y.2 = .free → ∃ c, X.env.cells.lookup y.1 = some c := fun y hy e => by
    rcases ok.free y hy e with z | z
    · exact I.ok.has _ (.inl z)
    · exact I.ok.has _ (.inr z)
  have inX : ∀ {y c}, cenv.cells.lookup y = some c → X.env.cells.lookup y = some c ∧ c < s.heap.objs.size := fun {y c} e => by
    rw [eC] at e
    rcases cloFrom_mem (PySem.mem_of_lookup e) with z | ⟨z, q⟩
    · cases z
    · obtain ⟨d, hd⟩ := got _ z rfl
      rw [hd] at q
      have q : c = d := q
      subst q
      obtain ⟨v, hv⟩ := I.cell _ _ hd
      exact ⟨hd, hv.lt⟩
  have has : ∀ {y}, scope.names.lookup y = some .free → ∃ c, cenv.cells.lookup y = some c := fun {y} hl => by
    obtain ⟨c, e⟩ := mem_lookup (cloFrom_has (cells := X.env.cells) (acc := []) (PySem.mem_of_lookup hl))
    exact ⟨c, by rw [eC]; exact e⟩
  have okG : (gctx X A s H scope cenv fp).Ok := by
    refine ⟨I.ok.mod, ?_, ?_, ?_, ?_, ?_, ?_, ?_, fun _ => hA, hF, .inr ⟨rfl, ?_⟩, fun b hb => ⟨?_, ?_⟩, I.bs, Nat.le_trans I.ok.bsz I.sz, ?_, ?_, I.stack, I.stkFree⟩
    · show cenv.scope.kind = _
      rw [eS]; exact ok.kind
    · show cenv.globals = _
      rw [← hce]; exact I.ok.glob
    · show cenv.builtins = _
      rw [← hce]; rfl
    · show s.heap.objs.size ≤ cenv.locals
      rw [eL]; exact Nat.le_refl _
    · intro y z c e1 e2
      exact I.ok.inj y z c (inX e1).1 (inX e2).1
    · intro y hy
      have hy : cenv.scope.names.lookup y = some .cell ∨ cenv.scope.names.lookup y = some .free := hy
      rw [eS] at hy
      rcases hy with z | z
      · exact absurd rfl (hcell _ (PySem.mem_of_lookup z))
      · exact has z
    · intro y c z _
      have z : (scope.names.lookup y == some NameKind.cell) = true := z
      have z : scope.names.lookup y = some .cell := by simpa using z
      exact absurd rfl (hcell _ (PySem.mem_of_lookup z))
    · show cenv.frame = some cenv.locals
      rw [← hce]; rfl
    · show b ≠ cenv.locals
      rw [eL]; exact Nat.ne_of_lt (hfp b hb).2
    · intro y c e z
      exact (hfp b hb).1.2.2.2.2.1 y c (inX e).1 z
    · intro b o e hb
      rcases (hfp b hb).1.2.2.2.1 with z | z
      · exact I.ok.noex b o e z
      · exact absurd (Nat.lt_of_lt_of_le (Heap.lt_size e) (Nat.le_trans I.ok.bsz z)) (Nat.lt_irrefl _)
    · intro b hb z
      rcases List.mem_cons.mp (I.stkSub b z) with q | q
      · exact (hfp b hb).1.2.1 q
      · exact (hfp b hb).1.2.2.1 q
  refine ⟨okG, rfl, hb, Un.kept kp, ⟨fun y => if y = ".0" then some itv else none, ?_, fun i y v e1 e2 e3 => ?_⟩, fun y c e => ?_, ?_, fun y c e => ?_, fun p hp => ?_, I.hok.kept kp, ?_⟩
  · show Heap.Ns _ cenv.locals _
    rw [eL]; exact hn.keeps fun b o e => Heap.get?_push_of_some _ e
  · obtain ⟨e2, hne⟩ := wipe_some e2
    have e3 : Vis cenv.scope y := e3
    rw [eS] at e3
    have no : ∀ k, scope.names.lookup y = some k → k = .local ∨ k = .cell → False := fun k hl hk => by
      rcases ok.own _ (PySem.mem_of_lookup hl) hk with z | z
      · obtain ⟨p, hp, ep⟩ := List.mem_map.mp z
        have q := ok.ix p hp
        have ep : p.1 = y := ep
        rw [ep] at q
        exact hne (List.mem_map.mpr ⟨p, hp, nodup_ix hN q e1⟩)
      · exact z (List.mem_of_getElem? e1)
    have fr : scope.names.lookup y = some .free := by
      rcases e3 with z | z | z
      · exact (no _ z (.inl rfl)).elim
      · exact (no _ z (.inr rfl)).elim
      · exact z
    obtain ⟨c, hc⟩ := has fr
    have kinds := ok.free _ (PySem.mem_of_lookup fr) rfl
    obtain ⟨m, _, hl⟩ := I.loc
    obtain ⟨u, ru, look⟩ := hl i y v e1 e2 (kinds.elim (fun z => .inr (.inl z)) fun z => .inr (.inr z))
    refine ⟨u, ru, .inr ⟨.inr ?_, c, hc, ?_⟩⟩
    · show cenv.scope.names.lookup y = _
      rw [eS]; exact fr
    · rcases look with ⟨z, _⟩ | ⟨_, c2, hc2, z⟩
      · have z : X.env.scope.names.lookup y = some .local := z
        rcases kinds with q | q <;> rw [show X.env.scope.names.lookup y = _ from q] at z <;> cases z
      · rw [(inX hc).1] at hc2
        cases hc2
        exact z.keeps kp
  · obtain ⟨v, hv⟩ := I.cell y c (inX e).1
    exact ⟨v, hv.keeps kp⟩
  · show H cenv.locals = none
    rw [eL]; exact I.hok.fresh (Nat.le_refl _)
  · exact I.freeC y c (inX e).1
  · have hp : p = (h'.objs.size, go) := by simpa using hp
    subst hp
    refine ⟨hga, I.hok.fresh (by omega), ?_, fun z => ?_, hgo⟩
    · show h'.objs.size ≠ cenv.locals
      rw [eL]; omega
    · rcases List.mem_cons.mp (I.stkSub _ z) with q | q
      · have q : h'.objs.size = X.env.locals := q
        have z2 := I.lt
        rw [← q, hsz] at z2
        exact absurd z2 (Nat.not_lt.mpr (Nat.le_succ _))
      · exact I.nofs (by omega) q
  · rw [wipe_length]; exact I.len
/-- what a generator expression hands out, and its end, by what the def's reading wants: Qt at its end, Qs where a truth like st is handed out -/
def GR (Y : Cx) (pn : List (Addr × Obj)) (Qt : Hp → Prop) : GenEnd := fun _ _ r s1 =>
  ((r = .ok (.ret .none) ∨ r = .ok .next) ∧ ∃ σ' H', Inv Y pn σ' H' s1 ∧ Qt H') ∨ ∃ e, r = .error e ∧ (fun (_ : Value) (_ : Shared) => False) e s1
def GY (Y : Cx) (pn : List (Addr × Obj)) (st : Bool) (Qs : Hp → Prop) : Protocol := fun _ _ v s1 kap =>
  ∃ c σ' H', v = .bool c ∧ Inv Y pn σ' H' s1 ∧ (c = st → Qs H') ∧ (c ≠ st → ∀ s2 : Shared, s2.heap = s1.heap → s2.os = s1.os → AllBare s2.gens → kap (.send .none) s2)
/-- one turn's reading -/
def Step (J : It) (g : TG) (tt : TT) (te : TE) (vs : List Nat) (σ : L2.St) (st : Bool) (Qt Qs : Hp → Prop) (W : Nat → Nat → Hp → Prop) (i m : Nat) (H : Hp) : Prop :=
  (J.stop i H ∧ Qt H) ∨ (J.go i H ∧ ∃ Nx : Hp → Prop, (∀ H', Nx H' → ∃ m', m' < m ∧ W (i + 1) m' H') ∧ ∀ x H', J.yld i H x H' → g x (wipe σ vs) H' fun σ2 H2 => wipe σ2 vs = wipe σ vs ∧ tt σ2 H2 fun b H3 =>
    if b = true then te σ2 H3 fun y H4 => ∃ c, y = .bl c ∧ (c = st → Qs H4) ∧ (c ≠ st → Nx H4) else Nx H3)
theorem wpF {α : Type} {M : Model} {A : Around} {t : Sem α} {Q Q' : α → Shared → Prop} {E : Value → Shared → Prop} {s : Shared} (h : wpAny M A t Q (fun _ _ => False) s) (k : ∀ a s', Q a s' → Q' a s') : wpAny M A t Q' E s :=
  wpAny_mono h k fun _ _ z => z.elim
theorem seg_turns {A0 : Around} {s3 : Shared} {H3 : Hp} {scope : Scope} {cenv : Env} {fp : List Addr} {pn : List (Addr × Obj)} {it : Addr} {J : It} {tn : Nat → Heap → Prop} {elt tg iter : Expr} {ifs : List Expr} {pos : Pos} {vs : List Nat}
    {g : TG} {tt : TT} {te : TE} {st : Bool} {Qt Qs : Hp → Prop} {W : Nat → Nat → Hp → Prop} (hc : X.calm = true) (hco : cenv.scope.isCoroutine = false) (hpn : ∀ p ∈ pn, p.1 ∉ fp)
    (T : Turn X.prog X.w X.K tg J fp it tn) (pg : PG (gctx X (A0.deeper cenv) s3 H3 scope cenv fp) tg g) (pt : PTs (gctx X (A0.deeper cenv) s3 H3 scope cenv fp) ifs tt) (pe : PE (gctx X (A0.deeper cenv) s3 H3 scope cenv fp) elt te)
    (turn : ∀ i m H', W i m H' → Step J g tt te vs σ st Qt Qs W i m H') :
    ∀ (m n : Nat), m < n → ∀ (i : Nat) (s0 s1 : Shared) (H' : Hp), Inv (gctx X (A0.deeper cenv) s3 H3 scope cenv fp) pn (wipe σ vs) H' s1 → tn i s1.heap → (∀ b ∈ fp, H' b = none) → W i m H' →
      Seg (model X.prog X.w) A0 (GR (gctx X (A0.deeper cenv) s3 H3 scope cenv fp) pn Qt) (GY (gctx X (A0.deeper cenv) s3 H3 scope cenv fp) pn st Qs) n s0
        (.compLoop (.GeneratorExp elt [⟨tg, iter, ifs, 0⟩] scope pos) 0 (.ref it) .none cenv) ((model X.prog X.w).den (.compLoop (.GeneratorExp elt [⟨tg, iter, ifs, 0⟩] scope pos) 0 (.ref it) .none cenv)) [] s1 := by
  intro m
  induction m using Nat.strongRecOn with
  | ind m ih =>
    intro n hmn i s0 s1 H1 I1 t1 f1 w1
    have own : ∀ {pl : List (Addr × Obj)} {σ' : L2.St} {H' : Hp} {s' : Shared}, (∀ p ∈ pl, p.1 ∉ fp) → Inv (gctx X (A0.deeper cenv) s3 H3 scope cenv fp) pl σ' H' s' → (∀ b ∈ fp, H' b = none) → ∀ b ∈ fp, FpOk (gctx X (A0.deeper cenv) s3 H3 scope cenv fp) pl H' b :=
      fun {pl σ' H' s'} hpl I' hn b hb => ⟨hn b hb, (I'.ok.exf b hb).1, I'.ok.exfs b hb, .inl hb, fun x c e => (I'.ok.exf b hb).2 x c e, fun p hp z => hpl p (by simpa using hp) (by rw [z]; exact hb)⟩
    show Seg _ A0 _ _ _ s0 _ ((compTurn (.GeneratorExp elt [⟨tg, iter, ifs, 0⟩] scope pos) 0 (.ref it) .none cenv).onRaise (leaving cenv)) [] s1
    rw [compTurn_gen]
    rw [Sem.onRaise_eq_wrap]
    refine seg_bind_wrap (wpAny_standAt ?_)
    rcases turn i m H1 w1 with ⟨stop, qt⟩ | ⟨go, Nx, hNx, step⟩
    · refine seg_bind_wrap (wpF (T.done (gctx X (A0.deeper cenv) s3 H3 scope cenv fp) rfl rfl rfl hc i pn s1 _ H1 (fun _ _ => False) I1 (own hpn I1 f1) t1 stop) fun r s2 ⟨hr, I2⟩ => ?_)
      subst hr
      exact seg_end (.ok .next) (.inl ⟨.inr rfl, _, H1, I2, qt⟩)
    · refine seg_bind_wrap (wpF (T.item (gctx X (A0.deeper cenv) s3 H3 scope cenv fp) rfl rfl rfl hc i pn s1 _ H1 (fun _ _ => False) I1 (own hpn I1 f1) t1 go) fun r s2 ⟨u, hr, h2⟩ => ?_)
      subst hr
      refine seg_bind_wrap (wpF h2 fun _ s4 ⟨x, H4, I4, r4, y4, t4, f4⟩ => ?_)
      have P4 := I4.pinned (own hpn I4 f4) (T.obj _ _ t4)
      refine seg_bind_wrap (wpF (pg.run _ s4 _ H4 x u _ P4 r4 (step x H4 y4)) fun _ s5 ⟨σ5, H5, I5, w5, q5⟩ => ?_)
      refine seg_bind_wrap (wpF (pt.run _ s5 σ5 H5 _ I5 q5) fun b s6 ⟨H6, I6, q6⟩ => ?_)
      have back : ∀ {s' : Shared} {H' : Hp}, Inv (gctx X (A0.deeper cenv) s3 H3 scope cenv fp) (pn ++ pinsAt fp s4.heap) σ5 H' s' →
          Inv (gctx X (A0.deeper cenv) s3 H3 scope cenv fp) pn (wipe σ vs) H' s' ∧ tn (i + 1) s'.heap ∧ ∀ b ∈ fp, H' b = none := fun {s' H'} I' => by
        have at' : ∀ b ∈ fp, ∀ o, s4.heap.get? b = some o → s'.heap.get? b = some o ∧ H' b = none := fun b hb o e =>
          let z := I'.pin (b, o) (List.mem_append_right _ (List.mem_append_right _ (mem_pinsAt hb e)))
          ⟨z.1, z.2.1⟩
        refine ⟨I'.unpinned.weak (by rw [← w5, wipe_length]) fun j v e => ?_, T.keep _ _ _ t4 fun b hb o e => (at' b hb o e).1, fun b hb => ?_⟩
        · rw [← w5] at e
          exact (wipe_some e).1
        · obtain ⟨o, e, _⟩ := T.obj _ _ t4 b hb
          exact (at' b hb o e).2
      cases b with
      | false =>
        have q6 : Nx H6 := by simpa using q6
        obtain ⟨m', hm, w'⟩ := hNx H6 q6
        obtain ⟨I7, t7, f7⟩ := back I6
        simp only [Bool.false_eq_true, if_false]
        exact seg_again rfl (ih m' hm n (by omega) (i + 1) s0 s6 H6 I7 t7 f7 w')
      | true =>
        rw [if_pos rfl] at q6
        simp only [if_true]
        have hy : ∀ v, yieldOut cenv v = yieldValue v := fun v => by
          unfold yieldOut
          simp [hco]
        simp only [hy]
        rw [Sem.bind_eq_wrap', Sem.bind_eq_wrap']
        rw [Sem.wrap_wrap, Sem.wrap_wrap]
        refine seg_wrap (wpF (pe.run _ s6 σ5 H6 _ I6 q6) fun v s7 ⟨yv, H7, I7, r7, c, ec, qs, qn⟩ => ?_)
        subst ec
        obtain rfl : v = Value.bool c := r7
        obtain ⟨I8, t8, f8⟩ := back I7
        obtain ⟨n, rfl⟩ : ∃ k, n = k + 1 := ⟨n - 1, by omega⟩
        refine seg_at (seg_yield rfl rfl rfl ⟨c, _, H7, rfl, I8, qs, fun hne s9 hh ho hb => ?_⟩)
        obtain ⟨m', hm, w'⟩ := hNx H7 (qn hne)
        exact seg_again rfl (ih m' hm n (by omega) (i + 1) s9 s9 H7 (inv_heap I8 hh ho hb) (by rw [hh]; exact t8) f8 w')
/-! ### all and any walk the generator -/
theorem all_walk {Y : Cx} {pn : List (Addr × Obj)} {Qt Qs : Hp → Prop} {A : Around} {R : Result → Shared → Prop} {a : Addr} {go : Obj} {g : Nat} (hh : A.handled = none) (hd : A.depth < recursionLimit)
    (hpa : (a, go) ∈ pn) (hgen : ∀ h : Heap, h.get? a = some go → h.IsGen a g)
    (eT : ∀ σ' H' s', Inv Y pn σ' H' s' → Qt H' → R (.ok (.ret (.bool true))) s') (eF : ∀ σ' H' s', Inv Y pn σ' H' s' → Qs H' → R (.ok (.ret (.bool false))) s') :
    ∀ (n : Nat) (s1 : Shared) (gs : GenState), s1.heap.IsGen a g → s1.heap.NoLimit → s1.gens[g]? = some gs →
      gs.Goes (model Y.prog Y.w) A.in1.in1 (GR Y pn Qt) (GY Y pn false Qs) n (.send .none) (s1.setGen g .running) → codeAny (model Y.prog Y.w) A (.builtin "all.loop" ⟨[.ref a], []⟩) R s1 := by
  intro n
  induction n with
  | zero =>
    intro s1 gs isg lim hgs goes
    refine codeAny_builtin F.entry_all_loop ?_
    rw [Around.under_plainId F.plain_all_loop _]
    show wpAny _ A.in1 (pyNext (.ref a) >>= _) _ _ s1
    refine wpAny_bind (next_genG (A := A.in1) hh lim hd isg hgs goes (fun v s2 gs' hb hv => ?_) (fun s2 hp h' hk => ?_) fun e s2 he => he.elim)
    · obtain ⟨c, σ', H', rfl, I2, q1, q2⟩ := hv
      have I3 : Inv Y pn σ' H' (s2.setGen g gs') := inv_heap I2 rfl rfl (allBare_setGen I2.bare hb)
      refine wpAny_bind (wpAny_holding (wpAny_truthy_bool ?_))
      refine wpAny_bind (wpAny_letGo ?_)
      cases c with
      | true => exact (q2 (by decide) _ rfl rfl I2.bare).elim
      | false =>
        simp only [Bool.false_eq_true, if_false]
        exact wpAny_bind (wpAny_rule (wpAny_pure (eF σ' H' _ I3 (q1 rfl))))
    · obtain ⟨σ', H', I2, q⟩ := hp
      have I3 : Inv Y pn σ' H' (s2.setGen g .finished) := inv_heap I2 rfl rfl (allBare_setGen I2.bare rfl)
      exact wpAny_bind (wpAny_rule (wpAny_pure (eT σ' H' _ (I3.kept (t' := s2.toks) hk) q)))
  | succ n ih =>
    intro s1 gs isg lim hgs goes
    have hgl : g < s1.gens.size := (Array.getElem?_eq_some_iff.mp hgs).1
    refine codeAny_builtin F.entry_all_loop ?_
    rw [Around.under_plainId F.plain_all_loop _]
    show wpAny _ A.in1 (pyNext (.ref a) >>= _) _ _ s1
    refine wpAny_bind (wpAny_gsz (n := g + 1) hgl (next_genG (A := A.in1) hh lim hd isg hgs goes (fun v s2 gs' hb hv => ?_) (fun s2 hp h' hk => ?_) fun e s2 he => he.elim))
    · intro hsz
      obtain ⟨c, σ', H', rfl, I2, q1, q2⟩ := hv
      have I3 : Inv Y pn σ' H' (s2.setGen g gs') := inv_heap I2 rfl rfl (allBare_setGen I2.bare hb)
      refine wpAny_bind (wpAny_holding (wpAny_truthy_bool ?_))
      refine wpAny_bind (wpAny_letGo ?_)
      cases c with
      | true =>
        simp only [if_true]
        have hg2 : g < s2.gens.size := by
          have z : (s2.setGen g gs').gens.size = s2.gens.size := setGen_size _ _ _
          have hsz : g + 1 ≤ (s2.setGen g gs').gens.size := hsz
          omega
        refine wpAny_pure ⟨plainId_quiet F.plain_all_loop _, ih _ gs' (hgen _ (I3.pin (a, go) (List.mem_append_right _ hpa)).1) I3.nolimit (setGen_at hg2) ?_⟩
        exact q2 (by decide) _ rfl rfl (allBare_setGen (s := s2.setGen g gs') I3.bare rfl)
      | false =>
        simp only [Bool.false_eq_true, if_false]
        exact wpAny_bind (wpAny_rule (wpAny_pure (eF σ' H' _ I3 (q1 rfl))))
    · intro _
      obtain ⟨σ', H', I2, q⟩ := hp
      have I3 : Inv Y pn σ' H' (s2.setGen g .finished) := inv_heap I2 rfl rfl (allBare_setGen I2.bare rfl)
      exact wpAny_bind (wpAny_rule (wpAny_pure (eT σ' H' _ (I3.kept (t' := s2.toks) hk) q)))
theorem any_walk {Y : Cx} {pn : List (Addr × Obj)} {Qt Qs : Hp → Prop} {A : Around} {R : Result → Shared → Prop} {a : Addr} {go : Obj} {g : Nat} (hh : A.handled = none) (hd : A.depth < recursionLimit)
    (hpa : (a, go) ∈ pn) (hgen : ∀ h : Heap, h.get? a = some go → h.IsGen a g)
    (eT : ∀ σ' H' s', Inv Y pn σ' H' s' → Qt H' → R (.ok (.ret (.bool false))) s') (eF : ∀ σ' H' s', Inv Y pn σ' H' s' → Qs H' → R (.ok (.ret (.bool true))) s') :
    ∀ (n : Nat) (s1 : Shared) (gs : GenState), s1.heap.IsGen a g → s1.heap.NoLimit → s1.gens[g]? = some gs →
      gs.Goes (model Y.prog Y.w) A.in1.in1 (GR Y pn Qt) (GY Y pn true Qs) n (.send .none) (s1.setGen g .running) → codeAny (model Y.prog Y.w) A (.builtin "any.loop" ⟨[.ref a], []⟩) R s1 := by
  intro n
  induction n with
  | zero =>
    intro s1 gs isg lim hgs goes
    refine codeAny_builtin F.entry_any_loop ?_
    rw [Around.under_plainId F.plain_any_loop _]
    show wpAny _ A.in1 (pyNext (.ref a) >>= _) _ _ s1
    refine wpAny_bind (next_genG (A := A.in1) hh lim hd isg hgs goes (fun v s2 gs' hb hv => ?_) (fun s2 hp h' hk => ?_) fun e s2 he => he.elim)
    · obtain ⟨c, σ', H', rfl, I2, q1, q2⟩ := hv
      have I3 : Inv Y pn σ' H' (s2.setGen g gs') := inv_heap I2 rfl rfl (allBare_setGen I2.bare hb)
      refine wpAny_bind (wpAny_holding (wpAny_truthy_bool ?_))
      refine wpAny_bind (wpAny_letGo ?_)
      cases c with
      | false => exact (q2 (by decide) _ rfl rfl I2.bare).elim
      | true =>
        simp only [if_true]
        exact wpAny_bind (wpAny_rule (wpAny_pure (eF σ' H' _ I3 (q1 rfl))))
    · obtain ⟨σ', H', I2, q⟩ := hp
      have I3 : Inv Y pn σ' H' (s2.setGen g .finished) := inv_heap I2 rfl rfl (allBare_setGen I2.bare rfl)
      exact wpAny_bind (wpAny_rule (wpAny_pure (eT σ' H' _ (I3.kept (t' := s2.toks) hk) q)))
  | succ n ih =>
    intro s1 gs isg lim hgs goes
    have hgl : g < s1.gens.size := (Array.getElem?_eq_some_iff.mp hgs).1
    refine codeAny_builtin F.entry_any_loop ?_
    rw [Around.under_plainId F.plain_any_loop _]
    show wpAny _ A.in1 (pyNext (.ref a) >>= _) _ _ s1
    refine wpAny_bind (wpAny_gsz (n := g + 1) hgl (next_genG (A := A.in1) hh lim hd isg hgs goes (fun v s2 gs' hb hv => ?_) (fun s2 hp h' hk => ?_) fun e s2 he => he.elim))
    · intro hsz
      obtain ⟨c, σ', H', rfl, I2, q1, q2⟩ := hv
      have I3 : Inv Y pn σ' H' (s2.setGen g gs') := inv_heap I2 rfl rfl (allBare_setGen I2.bare hb)
      refine wpAny_bind (wpAny_holding (wpAny_truthy_bool ?_))
      refine wpAny_bind (wpAny_letGo ?_)
      cases c with
      | false =>
        simp only [Bool.false_eq_true, if_false]
        have hg2 : g < s2.gens.size := by
          have z : (s2.setGen g gs').gens.size = s2.gens.size := setGen_size _ _ _
          have hsz : g + 1 ≤ (s2.setGen g gs').gens.size := hsz
          omega
        refine wpAny_pure ⟨plainId_quiet F.plain_any_loop _, ih _ gs' (hgen _ (I3.pin (a, go) (List.mem_append_right _ hpa)).1) I3.nolimit (setGen_at hg2) ?_⟩
        exact q2 (by decide) _ rfl rfl (allBare_setGen (s := s2.setGen g gs') I3.bare rfl)
      | true =>
        simp only [if_true]
        exact wpAny_bind (wpAny_rule (wpAny_pure (eF σ' H' _ I3 (q1 rfl))))
    · intro _
      obtain ⟨σ', H', I2, q⟩ := hp
      have I3 : Inv Y pn σ' H' (s2.setGen g .finished) := inv_heap I2 rfl rfl (allBare_setGen I2.bare rfl)
      exact wpAny_bind (wpAny_rule (wpAny_pure (eT σ' H' _ (I3.kept (t' := s2.toks) hk) q)))
theorem seg_first {A0 : Around} {R : GenEnd} {Y : Protocol} {n : Nat} {s0 s1 : Shared} {elt tg iter : Expr} {ifs : List Expr} {scope : Scope} {pos : Pos} {it : Addr} {cenv : Env} {P : Program} {w : World}
    (self : ∀ (A : Around) (Q : Value → Shared → Prop) (E : Value → Shared → Prop), Q (.ref it) s1 → wpAny (model P w) A (pyIter (.ref it)) Q E s1)
    (loop : Seg (model P w) A0 R Y n s0 (.compLoop (.GeneratorExp elt [⟨tg, iter, ifs, 0⟩] scope pos) 0 (.ref it) .none cenv) ((model P w).den (.compLoop (.GeneratorExp elt [⟨tg, iter, ifs, 0⟩] scope pos) 0 (.ref it) .none cenv)) [] s1) :
    Seg (model P w) A0 R Y n s0 (.compStart (.GeneratorExp elt [⟨tg, iter, ifs, 0⟩] scope pos) 0 (.ref it) .none cenv) ((model P w).den (.compStart (.GeneratorExp elt [⟨tg, iter, ifs, 0⟩] scope pos) 0 (.ref it) .none cenv)) [] s1 := by
  show Seg _ A0 _ _ _ s0 _ ((compStart (.GeneratorExp elt [⟨tg, iter, ifs, 0⟩] scope pos) 0 (.ref it) .none cenv).onRaise (leaving cenv)) [] s1
  unfold compStart
  rw [Sem.onRaise_eq_wrap]
  show Seg _ A0 _ _ _ s0 _ ((ask >>= _).wrap _ _ _ _) [] s1
  refine seg_bind_wrap (wpAny_askSetting ?_)
  split
  · exact seg_again rfl loop
  · first
      | exact seg_bind_wrap (wpAny_rule (seg_bind_wrap (wpAny_standAt (seg_bind_wrap (self _ _ _ (seg_again rfl loop))))))
      | (refine seg_bind_wrap (wpAny_rule ?_); show Seg _ A0 _ _ _ s0 _ ((standAt iter.pos >>= _).wrap _ _ _ _) [] s1; exact seg_bind_wrap (wpAny_standAt (seg_bind_wrap (self _ _ _ (seg_again rfl loop)))))
/-- all(elt for tg in iter if ..), any(..): st is the truth at which it stops; P the table of the def's code -/
def tAG (P : Addr) (st : Bool) (wi : TI) (g : TG) (tt : TT) (te : TE) (vs : List Nat) : TE := fun σ H Q => wi σ H fun J H1 => GxR.TabG H1 P ∧ ∀ H2, GxR.Tabbed P H1 H2 →
  ∃ W : Nat → Nat → Hp → Prop, (∃ m, W 0 m H2) ∧ ∀ i m H', W i m H' → Step J g tt te vs σ st (Q (.bl (!st))) (Q (.bl st)) W i m H'
/-- a generator that stands ready -/
def Made (X : Cx) (pins : List (Addr × Obj)) (σ : L2.St) (st : Bool) (Qt Qs : Hp → Prop) (u : Value) (s5 : Shared) : Prop :=
  ∃ (a : Addr) (Y : Cx) (pn : List (Addr × Obj)) (go : Obj) (g n : Nat) (gs : GenState), u = .ref a ∧ Y.prog = X.prog ∧ Y.w = X.w ∧ (a, go) ∈ pn ∧ (∀ h : Heap, h.get? a = some go → h.IsGen a g) ∧ s5.heap.IsGen a g ∧ s5.heap.NoLimit ∧ s5.gens[g]? = some gs ∧
    gs.Goes (model X.prog X.w) X.A.in1.in1 (GR Y pn Qt) (GY Y pn st Qs) n (.send .none) (s5.setGen g .running) ∧ ∀ σ' H' s', Inv Y pn σ' H' s' → Inv X pins σ H' s'
structure GSc (N : List Str) (sc scope : Scope) (own : List (Str × Nat)) : Prop where
  blk : BlkOk N sc scope own
  co : scope.isCoroutine = false
  cell : ∀ y ∈ scope.names, y.2 ≠ .cell
  dot : scope.names.lookup (".0" : Str) = some NameKind.local
theorem gen_make {c P : Addr} {elt tg iter : Expr} {ifs : List Expr} {gpos : Pos} {scope : Scope} {own : List (Str × Nat)} {st : Bool} {wi : TI} {g : TG} {tt : TT} {te : TE} {k : Nat} {Q : VK}
    (hc : X.calm = true) (hN : X.N.Nodup) (hr : Room (k + 1) X.A) (TB : GxR.TabB X.base X.mg c P) (hcode : X.env.code = .ref c) (S : GSc X.N X.env.scope scope own) (hi : PI X tg iter wi)
    (hg : ∀ (A : Around) (s : Shared) (H : Hp) (C : Addr) (code : Value) (fp : List Addr), Room k A → PG (gctx X A s H scope (genEnv scope (cloFrom X.env.cells scope.names []) C code builtinsNs X.env) fp) tg g)
    (ht : ∀ (A : Around) (s : Shared) (H : Hp) (C : Addr) (code : Value) (fp : List Addr), Room k A → PTs (gctx X A s H scope (genEnv scope (cloFrom X.env.cells scope.names []) C code builtinsNs X.env) fp) ifs tt)
    (he : ∀ (A : Around) (s : Shared) (H : Hp) (C : Addr) (code : Value) (fp : List Addr), Room k A → PE (gctx X A s H scope (genEnv scope (cloFrom X.env.cells scope.names []) C code builtinsNs X.env) fp) elt te)
    (hs : ∀ v, genFold iter X.env v = pure v) (I : Inv X pins σ H s) (h : tAG P st wi g tt te (own.map (·.2)) σ H Q) :
    wpAny (model X.prog X.w) X.A (eval (.GeneratorExp elt [⟨tg, iter, ifs, 0⟩] scope gpos) X.env) (Made X pins σ st (Q (.bl (!st))) (Q (.bl st))) X.xe s := by
  have hfree : ∀ y ∈ scope.names, y.2 = .free → ∃ c, X.env.cells.lookup y.1 = some c := fun y hy e => by
    rcases S.blk.free y hy e with z | z
    · exact I.ok.has _ (.inl z)
    · exact I.ok.has _ (.inr z)
  refine wpAny_GeneratorExp_make S.co (closure_ok hfree) S.cell S.dot S.blk.kind (by have := hr.dp; omega) ?_ hs
  refine thn (hi.run pins s σ H _ I h) fun xv s1 hx => thn hx fun itv s2 h2 => ?_
  obtain ⟨it, fp, tn, J, H1, rfl, I2, T, t2, f2, ⟨ps, hP, htr⟩, q⟩ := h2
  have oP : s2.heap.get? P = some { cls := .none, data := .fields ps } := I2.hok P _ hP
  have cd : PySem.W.CodeHd s2.heap c P := TB.code.keeps I2.bk
  refine ⟨I2.nolimit, ?_⟩
  have nP : ∀ b ∈ fp, b ≠ P := fun b hb z => by
    have q := (f2 b hb).1
    rw [z, hP] at q
    cases q
  have rest : ∀ (code : Value) (h3 : Heap) (tk : Nat) (ps' : Array Value), Heap.ExtBut P s2.heap h3 → h3.get? P = some { cls := .none, data := .fields ps' } → (∃ more, ps' = ps ++ more) → TriplesOk ps'.toList →
      wpAny (model X.prog X.w) X.A (builtinsFor X.env.globals X.env.builtins) (fun bi s4 =>
        ∀ h', h'.Ns s4.heap.objs.size (fun y => if y = ".0" then some (.ref it) else none) → Heap.SameBut s4.heap.objs.size (s4.heap.push { cls := .type "frame", data := .dict #[] }) h' →
          Made X pins σ st (Q (.bl (!st))) (Q (.bl st)) (.ref h'.objs.size) { s4 with
            gens := s4.gens.push (.fresh (.compStart (.GeneratorExp elt [⟨tg, iter, ifs, 0⟩] scope gpos) 0 (.ref it) .none (genEnv scope (cloFrom X.env.cells scope.names []) s4.heap.objs.size code bi X.env))),
            toks := s4.toks + 1 + 1 + 1,
            heap := h'.push { cls := .type "generator", data := .fields #[.int s4.gens.size 0, .str "<genexpr>" (s4.toks + 1), .str (X.env.qual ++ "<genexpr>") (s4.toks + 1 + 1)] } }) X.xe { s2 with heap := h3, toks := tk } := by
    intro code h3 tk ps' hx hP3 hmore htr3
    obtain ⟨bm, ob, b1, b2, b3, b4, b5, b6, b7, b8⟩ := TB.bm
    refine wpAny_builtinsFor (m := X.mg) ?_ b1 b2 (hx _ _ b4 (I2.bk _ _ b5)) b6 b7 b8 ?_
    · rw [I2.ok.glob]
      exact (I2.mod.glob.keeps I2.bk).extBut hx TB.gP
    obtain ⟨more, rfl⟩ := hmore
    have I3 : Inv X pins σ (upd H1 P (.tbl (ps ++ more))) { s2 with heap := h3, toks := tk } := GxR.inv_tab (more := more) (h' := h3) (g' := s2.gens) (d' := s2.drawn) (t' := tk) I2 hP hx hP3 I2.bare
    have tab : GxR.Tabbed P H1 (upd H1 P (.tbl (ps ++ more))) := ⟨⟨_, upd_same, htr3⟩, fun b hb => upd_ne hb⟩
    obtain ⟨W, ⟨m0, w0⟩, turn⟩ := q _ tab
    have t3 : tn 0 h3 := T.keep _ _ _ t2 fun b hb o e => hx b o (nP b hb) e
    have f3 : ∀ b ∈ fp, FpOk X pins (upd H1 P (.tbl (ps ++ more))) b ∧ b < h3.objs.size := fun b hb => by
      refine ⟨⟨?_, (f2 b hb).2⟩, ?_⟩
      · rw [upd_ne (nP b hb)]
        exact (f2 b hb).1
      · obtain ⟨o, e, _⟩ := T.obj _ _ t3 b hb
        exact Heap.lt_size e
    generalize upd H1 P (.tbl (ps ++ more)) = H3 at I3 w0 f3
    intro h' hn' hs'
    generalize hs4 : ({ s2 with heap := h3, toks := tk } : Shared) = s4 at I3 hn' hs' ⊢
    have e4 : s4.heap = h3 := by rw [← hs4]
    rw [← e4] at t3 f3
    have hsz : h'.objs.size = s4.heap.objs.size + 1 := by rw [hs'.1, Heap.size_push]
    have hk : ∀ b o, s4.heap.get? b = some o → h'.get? b = some o := fun b o e => by
      rw [hs'.2 b (Nat.ne_of_lt (Heap.lt_size e))]
      exact Heap.get?_push_of_some _ e
    generalize hgo : ({ cls := .type "generator", data := .fields #[.int s4.gens.size 0, .str "<genexpr>" (s4.toks + 1), .str (X.env.qual ++ "<genexpr>") (s4.toks + 1 + 1)] } : Obj) = go
    have isg : ∀ hh : Heap, hh.get? h'.objs.size = some go → hh.IsGen h'.objs.size s4.gens.size := fun hh e => ⟨go, _, _, e, by rw [← hgo], by rw [← hgo], by rw [← hgo]⟩
    have hga : (h'.push go).get? h'.objs.size = some go := Heap.get?_push_size _ (by rw [← hgo]; rfl)
    have rmA : Room k (X.A.in1.in1.deeper (genEnv scope (cloFrom X.env.cells scope.names []) s4.heap.objs.size code builtinsNs X.env)) := by
      refine ⟨hr.hd, ?_, ?_⟩
      · have := hr.dp
        show X.A.depth + 1 + 3 * k + 5 < _
        omega
      · have := hr.un
        show X.A.units + 1 + 1 + 3 + 16 * k + 200 < _
        omega
    have bare : AllBare (s4.gens.push (.fresh (.compStart (.GeneratorExp elt [⟨tg, iter, ifs, 0⟩] scope gpos) 0 (.ref it) .none (genEnv scope (cloFrom X.env.cells scope.names []) s4.heap.objs.size code builtinsNs X.env)))) := I3.bare.push rfl
    have J := gen_start (A := X.A.in1.in1.deeper (genEnv scope (cloFrom X.env.cells scope.names []) s4.heap.objs.size code builtinsNs X.env)) (code := code) (go := go) (tk := s4.toks + 1 + 1 + 1) I3 S.blk hN S.cell f3 hr.hd
      (by show X.A.frames.map _ = _; rw [I3.ok.frames]; rfl) hn' hk (fun v z => by rw [← hgo] at z; cases z) hga hsz bare
    have pg := hg _ s4 H3 s4.heap.objs.size code fp rmA
    have pt := ht _ s4 H3 s4.heap.objs.size code fp rmA
    have pe := he _ s4 H3 s4.heap.objs.size code fp rmA
    have hco : (genEnv scope (cloFrom X.env.cells scope.names []) s4.heap.objs.size code builtinsNs X.env).scope.isCoroutine = false := S.co
    generalize genEnv scope (cloFrom X.env.cells scope.names []) s4.heap.objs.size code builtinsNs X.env = cenv at J pg pt pe rmA bare hco ⊢
    have out : ∀ p ∈ [(h'.objs.size, go)], p.1 ∉ fp := fun p hp z => by
      rw [List.mem_singleton.mp hp] at z
      have := (f3 _ z).2
      have z3 : h'.objs.size < s4.heap.objs.size := this
      omega
    have kp5 : ∀ b o, s4.heap.get? b = some o → (h'.push go).get? b = some o := fun b o e => Heap.get?_push_of_some _ (hk b o e)
    refine ⟨h'.objs.size, gctx X (X.A.in1.in1.deeper cenv) s4 H3 scope cenv fp, [(h'.objs.size, go)], go, s4.gens.size, m0 + 1, _, rfl, rfl, rfl, List.mem_singleton.mpr rfl, isg, isg _ hga, I3.nolimit.keeps kp5, Array.getElem?_push_size .., ⟨rfl, ?_⟩, fun σ' H' s' I' => ?_⟩
    · refine seg_first (fun A Q E hq => T.self A 0 _ Q E (T.keep _ _ _ t3 fun b _ o e => kp5 b o e) hq) ?_
      exact seg_turns hc hco out T pg pt pe turn m0 (m0 + 1) (Nat.lt_succ_self _) 0 _ _ H3 (inv_heap J rfl rfl (allBare_setGen (s := { s4 with gens := _, toks := _, heap := _ }) bare rfl)) (T.keep _ _ _ t3 fun b _ o e => kp5 b o e) (fun b hb => (f3 b hb).1.1) w0
    · exact I3.call' (ch := fp) I'.os I'.base I'.hok I'.bare fun b hb => ⟨(f3 b hb).1.2.2.2.1, (f3 b hb).1.2.1, (f3 b hb).1.2.2.2.2.1, (f3 b hb).1.2.2.2.2.2⟩
  cases hf : codeAmong gpos ps.toList with
  | none =>
    refine wpAny_genexprCodeX hcode (cd.code oP htr) (cd.tab oP) hf fun c' h' tk hx hge hlt hco' _ htab' _ => ?_
    obtain ⟨o1, v1, f1, tf, fl, t1, inF, tx, t0, op, _, _, _, _, _, _, _, _, _, htr', _⟩ := hco'
    exact rest _ h' tk _ hx htab'.2 ⟨_, rfl⟩ htr'
  | some cv =>
    refine wpAny_genexprCode_hit hcode (cd.code oP htr) hf ?_
    exact rest cv s2.heap s2.toks ps (Heap.ExtBut.refl _ _) oP ⟨#[], by simp⟩ htr
/-- THE RULE: all(elt for tg in iter if ..) -/
theorem pe_allG {c P : Addr} {elt tg iter : Expr} {ifs : List Expr} {p pos gpos : Pos} {scope : Scope} {own : List (Str × Nat)} {wi : TI} {g : TG} {tt : TT} {te : TE} {k : Nat}
    (hc : X.calm = true) (hN : X.N.Nodup) (hr : Room (k + 1) X.A) (hgl : Gl X "all") (hm : X.mg "all" = none) (TB : GxR.TabB X.base X.mg c P) (hcode : X.env.code = .ref c) (S : GSc X.N X.env.scope scope own) (hi : PI X tg iter wi)
    (hg : ∀ (A : Around) (s : Shared) (H : Hp) (C : Addr) (code : Value) (fp : List Addr), Room k A → PG (gctx X A s H scope (genEnv scope (cloFrom X.env.cells scope.names []) C code builtinsNs X.env) fp) tg g)
    (ht : ∀ (A : Around) (s : Shared) (H : Hp) (C : Addr) (code : Value) (fp : List Addr), Room k A → PTs (gctx X A s H scope (genEnv scope (cloFrom X.env.cells scope.names []) C code builtinsNs X.env) fp) ifs tt)
    (he : ∀ (A : Around) (s : Shared) (H : Hp) (C : Addr) (code : Value) (fp : List Addr), Room k A → PE (gctx X A s H scope (genEnv scope (cloFrom X.env.cells scope.names []) C code builtinsNs X.env) fp) elt te)
    (hs : ∀ v, genFold iter X.env v = pure v := by intro _; rfl) (hb : bootBuiltins "all" = some (.builtin "all") := by decide +kernel)
    (hse : starEach [.GeneratorExp elt [⟨tg, iter, ifs, 0⟩] scope gpos] X.env = (false, eval (.GeneratorExp elt [⟨tg, iter, ifs, 0⟩] scope gpos) X.env) :: starEach [] X.env := by rfl) :
    PE X (.Call (.Name "all" p) [.GeneratorExp elt [⟨tg, iter, ifs, 0⟩] scope gpos] [] pos) (tAG P false wi g tt te (own.map (·.2))) := by
  refine ⟨fun pins s σ H Q I h => ?_⟩
  refine wpAny_Call_Name_kw (ld_blt I hgl hm hb (PyProof.Rows.callWith_builtin1 ?_ hse (by rfl)))
  rw [hse]
  show wpAny _ _ (spliced ((false, eval (.GeneratorExp elt [⟨tg, iter, ifs, 0⟩] scope gpos) X.env) :: backTo pos (starEach [] X.env))) _ _ s
  refine Calls.spliced_cons (thn (gen_make hc hN hr TB hcode S hi hg ht he hs I h) fun u s5 hu => ?_)
  obtain ⟨a, Y, pn, go, gi, n, gs, rfl, eP, eW, hpa, hgen, isg, lim, hgs, goes, back⟩ := hu
  refine Calls.spliced_nil (PySem.call_function_tree F.kind_all F.plain_all F.entry_all (F.args_all1 _) ?_)
  unfold Builtin.«all»
  refine wpAny_bind (m := oneArg "all" _) (wpAny_pure (wpAny_bind (wpAny_pyIter_gen isg ?_)))
  rw [← eP, ← eW] at goes ⊢
  exact wpAny_pure ⟨plainId_quiet F.plain_all_loop _, all_walk hr.hd (by have := hr.dp; omega) hpa hgen
    (fun σ' H' s' J q => ⟨.bl true, H', back σ' H' s' J, rfl, q⟩) (fun σ' H' s' J q => ⟨.bl false, H', back σ' H' s' J, rfl, q⟩) n s5 gs isg lim hgs goes⟩
/-- THE RULE: any(elt for tg in iter if ..) -/
theorem pe_anyG {c P : Addr} {elt tg iter : Expr} {ifs : List Expr} {p pos gpos : Pos} {scope : Scope} {own : List (Str × Nat)} {wi : TI} {g : TG} {tt : TT} {te : TE} {k : Nat}
    (hc : X.calm = true) (hN : X.N.Nodup) (hr : Room (k + 1) X.A) (hgl : Gl X "any") (hm : X.mg "any" = none) (TB : GxR.TabB X.base X.mg c P) (hcode : X.env.code = .ref c) (S : GSc X.N X.env.scope scope own) (hi : PI X tg iter wi)
    (hg : ∀ (A : Around) (s : Shared) (H : Hp) (C : Addr) (code : Value) (fp : List Addr), Room k A → PG (gctx X A s H scope (genEnv scope (cloFrom X.env.cells scope.names []) C code builtinsNs X.env) fp) tg g)
    (ht : ∀ (A : Around) (s : Shared) (H : Hp) (C : Addr) (code : Value) (fp : List Addr), Room k A → PTs (gctx X A s H scope (genEnv scope (cloFrom X.env.cells scope.names []) C code builtinsNs X.env) fp) ifs tt)
    (he : ∀ (A : Around) (s : Shared) (H : Hp) (C : Addr) (code : Value) (fp : List Addr), Room k A → PE (gctx X A s H scope (genEnv scope (cloFrom X.env.cells scope.names []) C code builtinsNs X.env) fp) elt te)
    (hs : ∀ v, genFold iter X.env v = pure v := by intro _; rfl) (hb : bootBuiltins "any" = some (.builtin "any") := by decide +kernel)
    (hse : starEach [.GeneratorExp elt [⟨tg, iter, ifs, 0⟩] scope gpos] X.env = (false, eval (.GeneratorExp elt [⟨tg, iter, ifs, 0⟩] scope gpos) X.env) :: starEach [] X.env := by rfl) :
    PE X (.Call (.Name "any" p) [.GeneratorExp elt [⟨tg, iter, ifs, 0⟩] scope gpos] [] pos) (tAG P true wi g tt te (own.map (·.2))) := by
  refine ⟨fun pins s σ H Q I h => ?_⟩
  refine wpAny_Call_Name_kw (ld_blt I hgl hm hb (PyProof.Rows.callWith_builtin1 ?_ hse (by rfl)))
  rw [hse]
  show wpAny _ _ (spliced ((false, eval (.GeneratorExp elt [⟨tg, iter, ifs, 0⟩] scope gpos) X.env) :: backTo pos (starEach [] X.env))) _ _ s
  refine Calls.spliced_cons (thn (gen_make hc hN hr TB hcode S hi hg ht he hs I h) fun u s5 hu => ?_)
  obtain ⟨a, Y, pn, go, gi, n, gs, rfl, eP, eW, hpa, hgen, isg, lim, hgs, goes, back⟩ := hu
  refine Calls.spliced_nil (PySem.call_function_tree F.kind_any F.plain_any F.entry_any (F.args_any1 _) ?_)
  unfold Builtin.«any»
  refine wpAny_bind (m := oneArg "any" _) (wpAny_pure (wpAny_bind (wpAny_pyIter_gen isg ?_)))
  rw [← eP, ← eW] at goes ⊢
  exact wpAny_pure ⟨plainId_quiet F.plain_any_loop _, any_walk hr.hd (by have := hr.dp; omega) hpa hgen
    (fun σ' H' s' J q => ⟨.bl false, H', back σ' H' s' J, rfl, q⟩) (fun σ' H' s' J q => ⟨.bl true, H', back σ' H' s' J, rfl, q⟩) n s5 gs isg lim hgs goes⟩
end
section
variable {J : It} {n : Nat} {G : Hp → Prop} {Y : Nat → Hp → V → Hp → Prop}
/-- a walk's turns, by what holds between two of them -/
theorem ag_it (w : Walk J n G Y) {g : TG} {tt : TT} {te : TE} {vs : List Nat} {σ : L2.St} {H2 : Hp} {st : Bool} {Qt Qs : Hp → Prop} (Pv : Nat → Hp → Prop) (h0 : Pv 0 H2) (hG : ∀ i H, i ≤ n → Pv i H → G H)
    (hs : ∀ i x H H', i < n → Pv i H → Y i H x H' → g x (wipe σ vs) H' fun σ2 H2 => wipe σ2 vs = wipe σ vs ∧ tt σ2 H2 fun b H3 =>
      if b = true then te σ2 H3 fun y H4 => ∃ c, y = .bl c ∧ (c = st → Qs H4) ∧ (c ≠ st → Pv (i + 1) H4) else Pv (i + 1) H3) (hd : ∀ H, Pv n H → Qt H) :
    ∃ W : Nat → Nat → Hp → Prop, (∃ m, W 0 m H2) ∧ ∀ i m H', W i m H' → Step J g tt te vs σ st Qt Qs W i m H' := by
  refine ⟨fun i m H => m = n - i ∧ i ≤ n ∧ Pv i H, ⟨n, by simp, Nat.zero_le _, h0⟩, ?_⟩
  rintro i m H ⟨rfl, hi, p⟩
  have q := hG i H hi p
  by_cases hlt : i < n
  · exact .inr ⟨w.goes i H hlt q, Pv (i + 1), fun H' p' => ⟨n - (i + 1), by omega, rfl, hlt, p'⟩, fun x H' y => hs i x H H' hlt p (w.yields i H x H' hlt q y)⟩
  · have e : i = n := by omega
    subst e
    exact .inl ⟨w.stops H q, hd H p⟩
end
/-! ### a def whose code has a table; the end -/
structure FunC (K : PySem.W.Frag) (x qual : Str) (st : Stmt) (f : Addr) (fd : FuncData) (c : Addr) : Prop where
  ex : ∃ (oc : Value) (od : Option Addr) (kV doc pm : Value) (an : Option Addr) (ct : Value) (osl : Array (Option Value)),
    fd = PySem.W.fnOf x qual (defArgs st) (defBody st) (defScope st) .none kV doc pm an (.ref c) ct ∧ K.lookup f = some ⟨oc, od, .func fd, osl⟩ ∧ PySem.W.codeIn K (.ref c) qual = true
  kp : PySem.W.keepIn K (.ref f) = true
theorem FunC.toFun {K : PySem.W.Frag} {x qual : Str} {st : Stmt} {f : Addr} {fd : FuncData} {c : Addr} (F : FunC K x qual st f fd c) : Fun K x qual st f fd := by
  obtain ⟨oc, od, kV, doc, pm, an, ct, osl, h1, h2, h3⟩ := F.ex
  exact ⟨⟨oc, od, kV, doc, pm, an, _, ct, osl, h1, h2, h3⟩, F.kp⟩
theorem FunC.ok {P : Program} {w : World} {K : PySem.W.Frag} {mg : Str → Option Value} {base : Heap} {x qual : Str} {st : Stmt} {f : Addr} {fd : FuncData} {c : Addr} {N ps : List Str} {k : Nat} {sp : Sp} (F : FunC K x qual st f fd c) (S : FnScope N ps (defScope st))
    (len : ∀ vs H Q E, sp vs H Q E → vs.length = ps.length)
    (hbody : ∀ (A : Around) (outer : List Env) (s : Shared) (H : Hp) (vs : List V) (Q : VK) (E : XK), Room k (A.deeper (envOfC qual (defScope st) s.heap.objs.size f (.ref c))) → sp vs H Q E →
      ∃ t, PSs (cxOf CX0 P w K mg base N qual (defScope st) f (.ref c) A outer s H E).nox (defBody st) t ∧ t { nx := fun _ H' => Q .non H', rt := Q } (start N vs) H) : FnOk P w K mg base CX0 (k + 1) f fd ps sp := by
  obtain ⟨oc, od, kV, doc, pm, an, ct, osl, rfl, lk, hcd⟩ := F.ex
  refine fn_of lk hcd S len fun A outer s H vs Q E hr hsp => ?_
  obtain ⟨t, h, q⟩ := hbody A outer s H vs Q E hr hsp
  exact ⟨t, h.nox, q⟩
theorem funC_mk {K : PySem.W.Frag} {x qual : Str} {st : Stmt} {f c : Addr} {oc : Value} {od an : Option Addr} {osl : Array (Option Value)} {kV doc pm cdv ct : Value} (l : K.lookup f = some ⟨oc, od, .func (PySem.W.fnOf x qual (defArgs st) (defBody st) (defScope st) .none kV doc pm an cdv ct), osl⟩)
    (e : cdv = .ref c) (h : PySem.W.codeIn K cdv qual = true) (k : PySem.W.keepIn K (.ref f) = true) : FunC K x qual st f (PySem.W.fnOf x qual (defArgs st) (defBody st) (defScope st) .none kV doc pm an (.ref c) ct) c := by
  subst e
  exact ⟨⟨oc, od, kV, doc, pm, an, ct, osl, rfl, l, h⟩, k⟩
/-- what the top tells of the tables of its defs -/
def TabsIn (q : Program) (K : PySem.W.Frag) (h : Heap) : Prop := ∀ (x : Str) (d : DefRec) (c P : Addr), (recsOf q).find? (fun e => e.name == x) = some d → PySem.W.tabIn K x = some (c, P) →
  PySem.W.CodeHd h c P ∧ h.get? P = some { cls := .none, data := .fields #[] }
theorem walk_tabs {l : PySem.W.OpenLaw} {n k : Nat} {q : Program} {loose : List Str} {XP : (Str → Option Value) → Heap → Prop} {YP : World → Heap → Prop} {d : DefRec} {K : Params → PySem.W.Frag} {CX : World → CXT} {x : Str}
    (hn : l.most = some n) (hn2 : n ≤ sizeLine) (hdf : d.params.defaults = []) (hr : Room k callerA) (hY : ∀ (w : World) (h : Heap), YP w h → (K w.params).In h)
    (F : ∀ (w : World) (mg : Str → Option Value) (fa : Addr) (h : Heap), (K w.params).In h → h.Ns mainGlobals mg → mg d.name = some (.ref fa) → TabsIn q (K w.params) h → LamX.LawAtS l w (K w.params) (CX w) k n x mg fa h)
    (hCX : ∀ (w : World) (H : Hp) (s : Shared) (e : Value) (s' : Shared), CX w [] H s (fun _ _ _ => False) e s' → False) :
    PySem.W.WalkO q loose XP YP l.row.toRowW d [] (fun f vs => PySem.call f vs) := by
  refine Att.attach_callB hn hdf fun w s0 s1 mg mb fa o pm cd doc a vs ns G Y ho hd hcd hmg hobj hints hlen hbits hg => ?_
  have KX := hY w _ Y
  obtain ⟨fd, cs, sp, hT, nT, C, hb, hsp, hF⟩ := F w mg fa _ KX G.T.g hmg fun x d c P h1 h2 => PySem.W.tab_of G.T KX h1 h2
  exact LamX.law_callTs KX G.T.g G.T.b G.T.builtins G.T.nolimit hg hT nT C G.T.bmain hobj hints (Nat.le_trans hlen hn2) hr hF hb (fun H hH hS => hsp H a ns hlen hbits hH hS) fun H e s' => hCX w H s1 e s'
theorem tabIn_of {K : PySem.W.Frag} {x : Str} {f c P : Addr} {oc e1 : Value} {od dd : Option Addr} {fd : FuncData} {sl s2 : Array (Option Value)} {vs : Array Value} (a : PySem.W.nsIn K mainGlobals x = some (some (.ref f)))
    (l : K.lookup f = some ⟨oc, od, .func fd, sl⟩) (e : fd.code = .ref c) (k : K.lookup c = some ⟨e1, dd, .fields vs, s2⟩) (v : vs[11]? = some (.ref P)) : PySem.W.tabIn K x = some (c, P) := by
  unfold PySem.W.tabIn
  rw [a]
  simp only [l, e, k, v]
theorem tabB {base : Heap} {mg : Str → Option Value} {c P : Addr} (h : LamX.TabB base mg c P) : GxR.TabB base mg c P := ⟨h.code, h.bm, h.gP⟩
end GE

set_option Elab.async false
set_option linter.all false
set_option maxRecDepth 100000
set_option maxHeartbeats 2000000
namespace My
open PySem PySem.Spec PyProof.Rows L2
/-! ### tables -/
def Tbs (Ts : List Addr) (H : Hp) : Prop := ∀ P ∈ Ts, GxR.TabG H P
def Tk (Ts : List Addr) (H H' : Hp) : Prop := (∀ b, b ∉ Ts → H' b = H b) ∧ Tbs Ts H'
theorem Tk.refl {Ts : List Addr} {H : Hp} (h : Tbs Ts H) : Tk Ts H H := ⟨fun _ _ => rfl, h⟩
theorem Tk.trans {Ts : List Addr} {H H1 H2 : Hp} (a : Tk Ts H H1) (b : Tk Ts H1 H2) : Tk Ts H H2 := ⟨fun x hx => (b.1 x hx).trans (a.1 x hx), b.2⟩
theorem Tk.of {Ts : List Addr} {H H1 : Hp} {P : Addr} (h : Tbs Ts H) (hP : P ∈ Ts) (t : GxR.Tabbed P H H1) : Tk Ts H H1 := by
  refine ⟨fun b hb => t.2 b fun z => hb (by rw [z]; exact hP), fun b hb => ?_⟩
  by_cases z : b = P
  · rw [z]; exact t.1
  · obtain ⟨ps, e, q⟩ := h b hb
    exact ⟨ps, by rw [t.2 b z]; exact e, q⟩
theorem Tbs.out {Ts : List Addr} {H : Hp} {b : Addr} {o : HO} (h : Tbs Ts H) (e : H b = some o) (n : ∀ ps, o ≠ .tbl ps) : b ∉ Ts := fun hb => by
  obtain ⟨ps, q, _⟩ := h b hb
  rw [e] at q
  exact n ps (Option.some.inj q)
theorem Tk.at {Ts : List Addr} {H H' : Hp} {b : Addr} {o : HO} (t : Tk Ts H H') (h : Tbs Ts H) (e : H b = some o) (n : ∀ ps, o ≠ .tbl ps) : H' b = some o := by
  rw [t.1 b (h.out e n)]; exact e
theorem Tk.tup {Ts : List Addr} {H H' : Hp} {b : Addr} {xs : List V} (t : Tk Ts H H') (h : Tbs Ts H) (e : H b = some (.tup xs)) : H' b = some (.tup xs) := t.at h e fun ps z => by cases z
theorem Tbs.same {Ts : List Addr} {H H' : Hp} (h : Tbs Ts H) (s : Same H H') : Tbs Ts H' := fun b hb => let ⟨ps, e, q⟩ := h b hb; ⟨ps, s _ _ e, q⟩
theorem Tbs.new {Ts : List Addr} {H : Hp} {p : Addr} {o : HO} (h : Tbs Ts H) (hp : H p = none) : Tbs Ts (upd H p o) := h.same (same_upd hp)
theorem Tbs.kp {Ts : List Addr} {H H' : Hp} {t : Addr} {n : Nat} (h : Tbs Ts H) (hT : Tap H t n) (k : Kp t H H') : Tbs Ts H' := fun b hb => by
  obtain ⟨ps, e, q⟩ := h b hb
  refine ⟨ps, k _ _ (fun z => ?_) e, q⟩
  obtain ⟨_, _, _, _, _, e1, _⟩ := hT
  rw [z, e1] at e
  cases e
theorem Tap.tk {Ts : List Addr} {H H' : Hp} {t : Addr} {n : Nat} (hT : Tap H t n) (h : Tbs Ts H) (k : Tk Ts H H') : Tap H' t n := by
  obtain ⟨c, ns, sp, re, ca, h1, h2, h3⟩ := hT
  exact ⟨c, ns, sp, re, ca, k.at h h1 (fun ps z => by cases z), k.at h h2 (fun ps z => by cases z), h3⟩
/-! ### kinds of things -/
def Typed (H : Hp) : V → Prop
  | .non => True
  | .bl _ => True
  | .int _ => True
  | .str _ => True
  | .ref a => (∃ xs, H a = some (.tup xs)) ∨ (∃ xs, H a = some (.lst xs)) ∨ (∃ kvs, H a = some (.dK kvs))
  | _ => False
theorem Typed.of {H H' : Hp} {v : V} (h : Typed H v) (s : ∀ b o, H b = some o → (∀ ps, o ≠ .tbl ps) → v = .ref b → H' b = some o) : Typed H' v := by
  cases v with
  | ref a =>
    rcases h with ⟨xs, h⟩ | ⟨xs, h⟩ | ⟨xs, h⟩
    · exact .inl ⟨xs, s _ _ h (fun ps z => by cases z) rfl⟩
    · exact .inr (.inl ⟨xs, s _ _ h (fun ps z => by cases z) rfl⟩)
    · exact .inr (.inr ⟨xs, s _ _ h (fun ps z => by cases z) rfl⟩)
  | _ => exact h
theorem Typed.same {H H' : Hp} {v : V} (h : Typed H v) (s : Same H H') : Typed H' v := h.of fun b o e _ _ => s b o e
theorem Typed.tk {Ts : List Addr} {H H' : Hp} {v : V} (h : Typed H v) (t : Tk Ts H H') (hb : Tbs Ts H) : Typed H' v := h.of fun b o e n _ => t.at hb e n
/-- whether a thing is of a built-in kind -/
def kindB (H : Hp) (n : String) : V → Bool
  | .non => false
  | .bl _ => n == "bool" || n == "int"
  | .int _ => n == "int"
  | .str _ => n == "str"
  | .ref a => match H a with
    | some (.tup _) => n == "tuple"
    | some (.lst _) => n == "list"
    | some (.dK _) => n == "dict"
    | _ => false
  | _ => false
theorem ty_kind {K : PySem.W.Frag} {H : Hp} {v : V} {n : String} (hn : n = "int" ∨ n = "bool" ∨ n = "str" ∨ n = "tuple") (h : Typed H v) : ∃ t, TyX K H v t ∧ PySem.W.kitOne K t (.type n) = some (kindB H n v) := by
  cases v with
  | non => rcases hn with rfl | rfl | rfl | rfl <;> exact ⟨_, .base .non, kit_ty (r := false) (by decide +kernel)⟩
  | bl b =>
    rcases hn with rfl | rfl | rfl | rfl
    · exact ⟨_, .base (.bl b), kit_ty (r := true) (by decide +kernel)⟩
    · exact ⟨_, .base (.bl b), kit_ty (r := true) (by decide +kernel)⟩
    · exact ⟨_, .base (.bl b), kit_ty (r := false) (by decide +kernel)⟩
    · exact ⟨_, .base (.bl b), kit_ty (r := false) (by decide +kernel)⟩
  | int i =>
    rcases hn with rfl | rfl | rfl | rfl
    · exact ⟨_, .base (.int i), kit_ty (r := true) (by decide +kernel)⟩
    · exact ⟨_, .base (.int i), kit_ty (r := false) (by decide +kernel)⟩
    · exact ⟨_, .base (.int i), kit_ty (r := false) (by decide +kernel)⟩
    · exact ⟨_, .base (.int i), kit_ty (r := false) (by decide +kernel)⟩
  | str x =>
    rcases hn with rfl | rfl | rfl | rfl
    · exact ⟨_, .base (.str x), kit_ty (r := false) (by decide +kernel)⟩
    · exact ⟨_, .base (.str x), kit_ty (r := false) (by decide +kernel)⟩
    · exact ⟨_, .base (.str x), kit_ty (r := true) (by decide +kernel)⟩
    · exact ⟨_, .base (.str x), kit_ty (r := false) (by decide +kernel)⟩
  | ref a =>
    rcases h with ⟨xs, h⟩ | ⟨xs, h⟩ | ⟨xs, h⟩
    · refine ⟨_, .base (.tup h), ?_⟩
      have e : kindB H n (.ref a) = (n == "tuple") := by simp only [kindB, h]
      rw [e]
      rcases hn with rfl | rfl | rfl | rfl <;> exact kit_ty (by decide +kernel)
    · refine ⟨_, .base (.lst h), ?_⟩
      have e : kindB H n (.ref a) = (n == "list") := by simp only [kindB, h]
      rw [e]
      rcases hn with rfl | rfl | rfl | rfl <;> exact kit_ty (by decide +kernel)
    · refine ⟨_, .base (.dK h), ?_⟩
      have e : kindB H n (.ref a) = (n == "dict") := by simp only [kindB, h]
      rw [e]
      rcases hn with rfl | rfl | rfl | rfl <;> exact kit_ty (by decide +kernel)
  | _ => exact h.elim
def isN : V → Bool
  | .int _ => true
  | _ => false
theorem isN_int {v : V} (h : isN v = true) : ∃ i, v = .int i := by
  cases v <;> first | exact ⟨_, rfl⟩ | exact Bool.noConfusion (show false = true from h)
theorem isN_kind {H : Hp} {v : V} (h : Typed H v) : isN v = (kindB H "int" v && !kindB H "bool" v) := by
  cases v with
  | ref a => rcases h with ⟨xs, h⟩ | ⟨xs, h⟩ | ⟨xs, h⟩ <;> simp [isN, kindB, h]
  | bl b => simp [isN, kindB]
  | int i => simp [isN, kindB]
  | _ => simp [isN, kindB]
def inW (v : V) (a b : Int) : Bool := match v with
  | .int i => decide (a ≤ i) && decide (i ≤ b)
  | _ => false
theorem inW_not {v : V} {a b : Int} (h : ¬ isN v = true) : inW v a b = false := by
  cases v <;> first | rfl | exact absurd rfl h
def spNum : Sp := fun vs H Q _ => ∃ v, vs = [v] ∧ Typed H v ∧ Q (.bl (isN v)) H
def spWithin : Sp := fun vs H Q _ => ∃ v a b, vs = [v, .int a, .int b] ∧ Typed H v ∧ Q (.bl (inW v a b)) H
/-- each is below the next -/
def risB : List Int → Bool
  | a :: b :: r => decide (a < b) && risB (b :: r)
  | _ => true
theorem ris_iff : ∀ ws : List Int, risB ws = true ↔ ∀ (k : Nat) (x y : Int), ws[k]? = some x → ws[k + 1]? = some y → x < y
  | [] => by simp [risB]
  | [a] => by simp [risB]
  | a :: b :: r => by
    rw [risB, Bool.and_eq_true, decide_eq_true_eq, ris_iff (b :: r)]
    constructor
    · rintro ⟨h, t⟩ k x y h1 h2
      cases k with
      | zero =>
        have e1 : a = x := Option.some.inj h1
        have e2 : b = y := Option.some.inj h2
        rw [← e1, ← e2]; exact h
      | succ k => exact t k x y h1 h2
    · intro t
      exact ⟨t 0 a b rfl rfl, fun k x y h1 h2 => t (k + 1) x y h1 h2⟩
/-! ### homes and names -/
def unI : V → Int
  | .int i => i
  | _ => 0
def homeV (xs : List V) : Bool := xs.all (fun x => inW x 0 6) && risB (xs.map unI)
def homeB (H : Hp) : V → Bool
  | .ref a => match H a with
    | some (.tup xs) => homeV xs
    | _ => false
  | _ => false
theorem map_unI : ∀ {xs : List V}, (∀ x ∈ xs, inW x 0 6 = true) → xs = (xs.map unI).map V.int
  | [], _ => rfl
  | x :: r, h => by
    have hx := h x List.mem_cons_self
    obtain ⟨i, rfl⟩ : ∃ i, x = .int i := by
      cases x <;> first | exact ⟨_, rfl⟩ | exact Bool.noConfusion (show false = true from hx)
    rw [List.map_cons, List.map_cons, ← map_unI fun y hy => h y (List.mem_cons_of_mem _ hy)]
    rfl
/-- a thing, and what is in it where it is a tuple -/
def Deep (H : Hp) (v : V) : Prop := Typed H v ∧ ∀ a xs, v = .ref a → H a = some (.tup xs) → xs.length ≤ 1000 ∧ ∀ x ∈ xs, Typed H x
theorem kind_tup {H : Hp} {v : V} (h : Typed H v) (k : kindB H "tuple" v = true) : ∃ a xs, v = .ref a ∧ H a = some (.tup xs) := by
  cases v with
  | ref a =>
    rcases h with ⟨xs, e⟩ | ⟨xs, e⟩ | ⟨xs, e⟩
    · exact ⟨a, xs, rfl, e⟩
    · simp [kindB, e] at k
    · simp [kindB, e] at k
  | _ => simp [kindB] at k
theorem not_tup {H : Hp} {v : V} (k : ¬ kindB H "tuple" v = true) : homeB H v = false := by
  cases v with
  | ref a =>
    show (match H a with | some (.tup xs) => homeV xs | _ => false) = false
    cases e : H a with
    | none => rfl
    | some o =>
      cases o with
      | tup xs => exact absurd (by simp [kindB, e]) k
      | _ => rfl
  | _ => rfl
def signOk (c : Nat) : Bool := decide (97 ≤ c) && decide (c ≤ 122)
theorem le_a (c : Nat) : (!decide (([c] : List Nat) < [97])) = decide (97 ≤ c) := by
  by_cases h : 97 ≤ c
  · simp [List.cons_lt_cons_iff, h]
  · simp [List.cons_lt_cons_iff, h]; omega
theorem le_z (c : Nat) : (!decide (([122] : List Nat) < [c])) = decide (c ≤ 122) := by
  by_cases h : c ≤ 122
  · simp [List.cons_lt_cons_iff, h]
  · simp [List.cons_lt_cons_iff, h]; omega
def nameB : V → Bool
  | .str z => (decide (1 ≤ z.length) && decide (z.length ≤ 8)) && z.cps.toList.all signOk
  | _ => false
/-- a text of few plain signs -/
def Plain (z : Str) : Prop := z.length ≤ 100 ∧ ∀ c ∈ z.cps.toList, c < 128
def PlainV : V → Prop
  | .str z => Plain z
  | _ => True
theorem kind_str {H : Hp} {v : V} (h : Typed H v) (k : kindB H "str" v = true) : ∃ z, v = .str z := by
  cases v with
  | str z => exact ⟨z, rfl⟩
  | ref a => rcases h with ⟨xs, e⟩ | ⟨xs, e⟩ | ⟨xs, e⟩ <;> simp [kindB, e] at k
  | _ => simp [kindB] at k
theorem not_str {H : Hp} {v : V} (k : ¬ kindB H "str" v = true) : nameB v = false := by
  cases v with
  | str z => exact absurd (by simp [kindB]) k
  | _ => rfl
theorem all_get {α : Type} {l : List α} {f : α → Bool} (h : ∀ (k : Nat) (x : α), l[k]? = some x → f x = true) : l.all f = true := by
  rw [List.all_eq_true]
  intro x hx
  obtain ⟨k, hk, e⟩ := List.getElem_of_mem hx
  exact h k x (by rw [List.getElem?_eq_getElem hk, e])
theorem all_not {α : Type} {l : List α} {f : α → Bool} {k : Nat} {x : α} (h : l[k]? = some x) (e : f x = false) : l.all f = false := by
  cases z : l.all f
  · rfl
  · rw [List.all_eq_true] at z
    rw [z x (List.mem_of_getElem? h)] at e
    cases e
/-! ### lists of signs compared -/
def sg (c : Nat) : Str := ⟨#[c]⟩
theorem dp_signs {K : PySem.W.Frag} {H : Hp} : ∀ cs : List Nat, DpAll K H (cs.map fun c => V.str (sg c)) (cs.map fun c => PyData.str (sg c))
  | [] => .nil
  | c :: r => .cons (.str _) (dp_signs r)
theorem lay_signs : ∀ {cs : List Nat}, (∀ c ∈ cs, c < 128) → PyData.canLayAll0 (cs.map fun c => PyData.str (sg c)) = true
  | [], _ => by simp [PyData.canLayAll0]
  | c :: r, h => by
    have h1 := h c List.mem_cons_self
    have h2 := lay_signs fun d hd => h d (List.mem_cons_of_mem _ hd)
    rw [List.map_cons, PyData.canLayAll0, h2, PyData.canLay0, Bool.and_true]
    simp [sg, PyData.strOk]
    omega
theorem depth_signs : ∀ cs : List Nat, PyData.depthAll (cs.map fun c => PyData.str (sg c)) = 0
  | [] => by simp [PyData.depthAll]
  | c :: r => by
    rw [List.map_cons, PyData.depthAll, depth_signs r]
    simp [PyData.depth]
theorem shaped_signs {cs : List Nat} (h : ∀ c ∈ cs, c < 128) : SeqAt.shaped (.list (cs.map fun c => PyData.str (sg c))) = true := by
  unfold SeqAt.shaped
  rw [Bool.and_eq_true, PyData.canLay0, PyData.depth, depth_signs]
  exact ⟨lay_signs h, by decide⟩
theorem eqv_signs (cs : List Nat) : PyData.eqv (.list (cs.map fun c => PyData.str (sg c))) (.list []) = cs.isEmpty := by
  cases cs with
  | nil => simp [PyData.eqv, PyData.eqvAll]
  | cons c r => simp [PyData.eqv, PyData.eqvAll]
def homeFrom (f : Int) : List V → Bool
  | [] => true
  | .int i :: r => if i ≤ f ∨ 6 < i then false else homeFrom i r
  | _ :: _ => false
theorem homeFrom_eq : ∀ (xs : List V) (f : Int), -1 ≤ f → homeFrom f xs = (xs.all (fun x => inW x 0 6) && risB (f :: xs.map unI))
  | [], f, _ => rfl
  | x :: r, f, hf => by
    rw [List.all_cons, List.map_cons]
    cases x with
    | int i =>
      rw [homeFrom, risB]
      by_cases h : i ≤ f ∨ 6 < i
      · rw [if_pos h]
        rcases h with h | h
        · have : decide (f < unI (.int i)) = false := decide_eq_false (show ¬ f < i by omega)
          rw [this]
          simp
        · have : inW (.int i) 0 6 = false := by
            show (decide (0 ≤ i) && decide (i ≤ 6)) = false
            rw [decide_eq_false (show ¬ i ≤ 6 by omega), Bool.and_false]
          rw [this]
          simp
      · rw [if_neg h, homeFrom_eq r i (by omega)]
        have h1 : inW (.int i) 0 6 = true := by
          show (decide (0 ≤ i) && decide (i ≤ 6)) = true
          rw [decide_eq_true (show 0 ≤ i by omega), decide_eq_true (show i ≤ 6 by omega)]
          rfl
        have h2 : decide (f < unI (.int i)) = true := decide_eq_true (show f < i by omega)
        rw [h1, h2, Bool.true_and, Bool.true_and]
        rfl
    | _ => rfl
theorem homeV_from (xs : List V) : homeV xs = homeFrom (-1) xs := by
  rw [homeFrom_eq xs (-1) (by omega), homeV]
  cases xs with
  | nil => rfl
  | cons x r =>
    rw [List.all_cons, List.map_cons, risB]
    cases h : inW x 0 6
    · simp
    · have : decide ((-1 : Int) < unI x) = true := by
        cases x <;> first | exact Bool.noConfusion (show false = true from h) | skip
        rename_i i
        have h : (decide (0 ≤ i) && decide (i ≤ 6)) = true := h
        rw [Bool.and_eq_true, decide_eq_true_eq] at h
        exact decide_eq_true (show -1 < i by omega)
      simp [this]
theorem letters_eq : (Str.ofString "abcdefghijklmnopqrstuvwxyz").cps.toList = List.range' 97 26 := by decide +kernel
theorem in_letters (c : Nat) : decide (c ∈ (Str.ofString "abcdefghijklmnopqrstuvwxyz").cps.toList) = signOk c := by
  rw [letters_eq, signOk, ← Bool.decide_and]
  refine decide_eq_decide.mpr ?_
  rw [List.mem_range'_1]
  omega
theorem take_filter {α : Type} {l : List α} {i : Nat} {c : α} (f : α → Bool) (h : l[i]? = some c) : (l.take (i + 1)).filter f = (l.take i).filter f ++ (if f c = true then [c] else []) := by
  rw [List.take_add_one, h, List.filter_append]
  congr 1
  by_cases e : f c = true
  · simp [e]
  · simp [e]
theorem filter_empty {l : List Nat} : (l.filter fun c => !signOk c).isEmpty = l.all signOk := by
  induction l with
  | nil => rfl
  | cons c r ih =>
    rw [List.filter_cons, List.all_cons]
    cases e : signOk c
    · simp
    · simpa using ih
/-! ### plain texts -/
theorem Plain.app {a b : Str} {n m : Nat} (ha : a.length ≤ n) (hb : b.length ≤ m) (h : n + m ≤ 100) (ca : ∀ c ∈ a.cps.toList, c < 128) (cb : ∀ c ∈ b.cps.toList, c < 128) : Plain (a ++ b) := by
  refine ⟨?_, fun c hc => ?_⟩
  · rw [PySem.Str.length_append]; omega
  · rw [PySem.Str.cps_append, Array.toList_append] at hc
    rcases List.mem_append.mp hc with z | z
    · exact ca c z
    · exact cb c z
theorem app_chars {a b : Str} (ca : ∀ c ∈ a.cps.toList, c < 128) (cb : ∀ c ∈ b.cps.toList, c < 128) : ∀ c ∈ (a ++ b).cps.toList, c < 128 := fun c hc => by
  rw [PySem.Str.cps_append, Array.toList_append] at hc
  rcases List.mem_append.mp hc with z | z
  · exact ca c z
  · exact cb c z
theorem cut_chars {z : Str} (h : ∀ c ∈ z.cps.toList, c < 128) (lo hi : Option Int) : ∀ c ∈ (cutS z lo hi).cps.toList, c < 128 := fun c hc => by
  unfold cutS at hc
  rw [List.toList_toArray] at hc
  exact h c (List.mem_of_mem_drop (List.mem_of_mem_take hc))
theorem one_sign {c : Nat} (h : c < 128) : ∀ d ∈ (⟨#[c]⟩ : Str).cps.toList, d < 128 := fun d hd => by
  have hd : d ∈ [c] := hd
  rw [List.mem_singleton.mp hd]
  exact h
/-! ### tuples put together, cut -/
theorem cat_in {K : PySem.W.Frag} {a b : Addr} {xs ys : List V} {H : Hp} {Q : VK} (ha : H a = some (.tup xs)) (hb : H b = some (.tup ys)) (hl : xs.length + ys.length ≤ 1000)
    (k : ∀ r H', Same H H' → H' r = some (.tup (xs ++ ys)) → Q (.ref r) H') : rCatA K (.ref a) (.ref b) H Q := by
  refine ⟨a, b, xs, ys, rfl, rfl, .inl (.inl ha), .inl (.inl hb), sz hl, fun e => ?_, fun _ e => ?_, fun _ _ p np => ?_⟩
  · subst e
    exact k b H (Same.refl _) hb
  · subst e
    exact k a H (Same.refl _) (by rw [List.append_nil]; exact ha)
  · exact k p _ (same_upd np) upd_same
theorem cut_all (xs : List V) {lo hi : Option Int} (h1 : HT.sIx xs.length 0 lo = 0) (h2 : HT.sIx xs.length xs.length hi = xs.length) : cutV xs lo hi = xs := by
  unfold cutV
  rw [h1, h2, List.drop_zero, Nat.sub_zero, List.take_length]
theorem sl_in {K : PySem.W.Frag} {a : Addr} {xs : List V} {lo hi : Option Int} {H : Hp} {Q : VK} (ha : H a = some (.tup xs)) (k : ∀ r H', Same H H' → H' r = some (.tup (cutV xs lo hi)) → Q (.ref r) H') : rSlA K (.ref a) lo hi H Q := by
  refine ⟨a, xs, rfl, .inl (.inl ha), fun e => k a H (Same.refl _) ?_, fun _ p np => k p _ (same_upd np) upd_same⟩
  rw [cut_all xs e.1 e.2]
  exact ha
theorem cut_mem {xs : List V} {lo hi : Option Int} {x : V} (h : x ∈ cutV xs lo hi) : x ∈ xs := List.mem_of_mem_drop (List.mem_of_mem_take h)
theorem cut_len (xs : List V) (lo hi : Option Int) : (cutV xs lo hi).length ≤ xs.length := by
  unfold cutV
  rw [List.length_take, List.length_drop]
  omega
theorem deep_tup {H : Hp} {r : Addr} {xs : List V} (e : H r = some (.tup xs)) (hl : xs.length ≤ 1000) (hx : ∀ x ∈ xs, Typed H x) : Deep H (.ref r) := by
  refine ⟨.inl ⟨xs, e⟩, fun a ys h1 h2 => ?_⟩
  cases h1
  rw [e] at h2
  cases h2
  exact ⟨hl, hx⟩
theorem deep_flat {H : Hp} {v : V} (h : Typed H v) (n : ∀ a, v ≠ .ref a) : Deep H v := ⟨h, fun a _ e => absurd e (n a)⟩
theorem deep_lst {H : Hp} {r : Addr} {xs : List V} (e : H r = some (.lst xs)) : Deep H (.ref r) := ⟨.inr (.inl ⟨xs, e⟩), fun a ys h1 h2 => by
  cases h1
  rw [e] at h2
  cases h2⟩
theorem deep_dic {H : Hp} {r : Addr} {kvs : List (Key × V)} (e : H r = some (.dK kvs)) : Deep H (.ref r) := ⟨.inr (.inr ⟨kvs, e⟩), fun a ys h1 h2 => by
  cases h1
  rw [e] at h2
  cases h2⟩
theorem Deep.of {H H' : Hp} {v : V} (h : Deep H v) (s : ∀ b o, H b = some o → (∀ ps, o ≠ .tbl ps) → H' b = some o) : Deep H' v := by
  refine ⟨h.1.of fun b o e n _ => s b o e n, fun a xs e1 e2 => ?_⟩
  subst e1
  rcases h.1 with ⟨ys, e⟩ | ⟨ys, e⟩ | ⟨ys, e⟩
  · have e3 := s a _ e fun ps z => by cases z
    rw [e2] at e3
    cases e3
    exact ⟨(h.2 a _ rfl e).1, fun x hx => ((h.2 a _ rfl e).2 x hx).of fun b o e n _ => s b o e n⟩
  · have e3 := s a _ e fun ps z => by cases z
    rw [e2] at e3
    cases e3
  · have e3 := s a _ e fun ps z => by cases z
    rw [e2] at e3
    cases e3
theorem ty_ints {H : Hp} {ws : List Int} : ∀ x ∈ ws.map V.int, Typed H x := fun x hx => by
  obtain ⟨i, _, rfl⟩ := List.mem_map.mp hx
  exact True.intro
theorem dp_ints {K : PySem.W.Frag} {H : Hp} : ∀ ns : List Int, DpAll K H (ns.map V.int) (ns.map PyData.int)
  | [] => .nil
  | n :: r => .cons (.int n) (dp_ints r)
theorem shaped_tints (ns : List Int) : SeqAt.shaped (.tuple (ns.map PyData.int)) = true := by
  have h1 := PySem.W.depthAll_ints ns
  unfold SeqAt.shaped
  rw [Bool.and_eq_true]
  refine ⟨by simp only [PyData.canLay0]; exact PySem.W.canLayAll0_ints ns, decide_eq_true ?_⟩
  simp only [PyData.depth]
  omega
theorem eqv_tints (ns : List Int) : PyData.eqv (.tuple (ns.map PyData.int)) (.tuple []) = ns.isEmpty := by
  cases ns with
  | nil => simp [PyData.eqv, PyData.eqvAll]
  | cons n r => simp [PyData.eqv, PyData.eqvAll]
theorem atI_int {α : Type} {xs : List α} {i : Int} {v : α} (h0 : 0 ≤ i) (h : xs[i.toNat]? = some v) : atI xs i = some v := by
  obtain ⟨j, rfl⟩ := Int.eq_ofNat_of_zero_le h0
  exact atI_nat h
theorem np_in {σ : L2.St} {H : Hp} {Q : Option Int → Hp → Prop} (h : Q none H) : tNoPart σ H Q := h
/-- a tuple that the top has written -/
def KT (K : PySem.W.Frag) (a : Addr) (xs : List V) : Prop := ∃ (o : Obj) (its : Array Value) (n : Nat), K.lookup a = some o ∧ o.cls = .type "tuple" ∧ o.data = .seq its n ∧ its.size ≤ sizeLine ∧ Vals xs its.toList
end My

set_option Elab.async false
set_option linter.all false
set_option maxRecDepth 100000
set_option maxHeartbeats 2000000
/-! x in a tuple of texts, whatever x is -/
namespace My
open PySem PySem.Spec PyProof.Rows L2 PySem.SeqAt
theorem str_declines_dict (b : Str) (u : Tok) (l : Addr) (o : Obj) (es : Array DictEntry) (n : Nat) (hd : o.data = .dict es n) :
    Meets (Builtin.«str.__eq__» ⟨[.str b u, .ref l], []⟩) (fun _ R s => s.heap.get? l = some o ∧ R (.ok (.ret .notImplemented)) s) := by
  obtain ⟨cls, dd, data, sl⟩ := o
  simp only at hd
  subst hd
  refine .of_wp fun prog w A R s h => ?_
  obtain ⟨hp, g, d, tk, os⟩ := s
  obtain ⟨hl, h⟩ := h
  wp_walk using wpAny_loadPart' hl, wpAny_load hl
  exact ⟨_, rfl, h⟩
theorem dict_declines_str (b : Str) (u : Tok) (l : Addr) (o : Obj) (es : Array DictEntry) (n : Nat) (hc : o.cls = .type "dict") (hd : o.data = .dict es n) :
    Meets (Builtin.«dict.__eq__» ⟨[.ref l, .str b u], []⟩) (fun _ R s => s.heap.get? l = some o ∧ R (.ok (.ret .notImplemented)) s) := by
  obtain ⟨cls, dd, data, sl⟩ := o
  simp only at hd hc
  subst hd hc
  refine .of_wp fun prog w A R s h => ?_
  obtain ⟨hp, g, d, tk, os⟩ := s
  obtain ⟨hl, h⟩ := h
  wp_walk using wpAny_loadPart' hl, wpAny_load hl
  refine wpAny_of_eq (show isSubtype (.type "str") (.type "dict") = pure false by rw [isSubtype_type]; kernel_rfl) ?_
  rw [if_pos (by decide)]
  exact wpAny_bind (wpAny_rule (wpAny_pure ⟨_, rfl, h⟩))
section
variable {A : Around} {s : Shared}
theorem eq_str_dict {l : Addr} {o : Obj} {es : Array DictEntry} {n : Nat} (b : Str) (u : Tok) (ho : s.heap.get? l = some o) (hc : o.cls = .type "dict") (hd : o.data = .dict es n) (hu : A.units < cLine) : EqAt A s (.str b u) (.ref l) false := fun prog w E Q h => by
  unfold eqBool
  refine wpAny_holding (wpAny_ite_split (fun hab => absurd (eq_of_beq hab) nofun) fun _ => ?_)
  refine wpAny_bind (rc_eq_decline_or (k := false) (typeIs_str s b u) ⟨_, ho, hc⟩ (by decide) F.sub_dict_str F.slot_str_eq F.slot_dict_eq_refl
    (fun _ hq => call_meets F.slot_str_eq (typeIs_str s b u) F.entry_str_eq (F.args_str_eq_2 _ _) (str_declines_dict b u l o es n hd) ⟨ho, hq⟩)
    (fun _ hq => call_meets F.slot_dict_eq_refl ⟨_, ho, hc⟩ F.entry_dict_eq (F.args_dict_eq_2 _ _) (dict_declines_str b u l o es n hc hd) ⟨ho, hq⟩)
    (fun _ hq => wpAny_of_eq (rfl : isSame (.str b u) (.ref l) = pure false) hq) (.inr hu) (wpAny_truthy_bool h))
end
def strIn (zs : List Str) : V → Bool
  | .str z => zs.any (fun y => y == z)
  | _ => false
def eqS (x : V) : Value → Bool
  | .str y _ => (match x with | .str z => y == z | _ => false)
  | _ => false
section
variable {X : Cx}
theorem eqAt_typed {pins : List (Addr × Obj)} {σ : L2.St} {H : Hp} {s : Shared} {x : V} {v : Value} {A : Around} (I : Inv X pins σ H s) (hx : Typed H x) (rx : RelV x v) (hu : A.units < cLine) (y : Str) (t : Tok) : EqAt A s (.str y t) v (eqS x (.str y t)) := by
  cases x with
  | non => cases rx; exact EqAt.str_none y t
  | bl b => cases rx; exact EqAt.str_bool y t b
  | int i => obtain ⟨u, rfl⟩ := rx; exact EqAt.str_int y t i u
  | str z => obtain ⟨u, rfl⟩ := rx; exact EqAt.str_str y t z u
  | ref a =>
    obtain rfl : v = Value.ref a := rx
    rcases hx with ⟨xs, e⟩ | ⟨xs, e⟩ | ⟨kvs, e⟩
    · obtain ⟨_, its, _, p⟩ := (show ObjOk X.prog X.w H s.heap a (.tup xs) from I.hok a _ e)
      exact EqAt.str_tuple y t p hu
    · obtain ⟨_, its, n, _, p⟩ := (show ObjOk X.prog X.w H s.heap a (.lst xs) from I.hok a _ e)
      exact EqAt.str_list (items := its.toArray) y t ⟨_, p, rfl, n, rfl⟩ hu
    · obtain ⟨_, _, ws, _, o, es, ep, ho, hex, hd, _⟩ := (show ObjOk X.prog X.w H s.heap a (.dK kvs) from I.hok a _ e)
      exact eq_str_dict y t ho hex.1 hd hu
  | _ => exact hx.elim
theorem any_eqS {x : V} : ∀ {zs : List Str} {us : List Value}, Vals (zs.map V.str) us → us.any (eqS x) = strIn zs x
  | [], _, .nil => by cases x <;> rfl
  | z :: zs, _, .cons r t => by
    obtain ⟨k, rfl⟩ := (show ∃ k, _ = Value.str z k from r)
    rw [List.any_cons, any_eqS t]
    cases x with
    | str y => simp [eqS, strIn]
    | _ => simp [eqS, strIn]
def rInS (K : PySem.W.Frag) (neg : Bool) : R2 := fun x y H Q => ∃ (p : Addr) (zs : List Str), y = .ref p ∧ SqT K H p (zs.map V.str) ∧ Typed H x ∧ Q (.bl (if neg then !strIn zs x else strIn zs x)) H
theorem op_notIn_strs (hu : X.A.units + 1 < cLine) : OpR X (compareOp .NotIn) (rInS X.K true) := by
  intro pins s σ H x y v u Q I rx ry h
  obtain ⟨p, zs, rfl, hq, hx, q⟩ := h
  cases ry
  obtain ⟨its, r, pl, hz⟩ := I.tuple hq
  refine notIn_tupleAt (eqS x) pl (fun w hw => ?_) ⟨.bl _, H, I, rfl, ?_⟩
  · have hw : w ∈ its := by simpa using hw
    obtain ⟨z, t, rfl⟩ : ∃ z t, w = Value.str z t := by
      clear q hx rx pl hz
      have key : ∀ {zs : List Str} {us : List Value}, Vals (zs.map V.str) us → w ∈ us → ∃ z t, w = Value.str z t := by
        intro zs
        induction zs with
        | nil => intro us r hw; cases r; cases hw
        | cons z zs ih =>
          intro us r hw
          cases r with
          | cons r t =>
            rcases List.mem_cons.mp hw with e | e
            · obtain ⟨k, e2⟩ := (show ∃ k, _ = Value.str z k from r)
              exact ⟨z, k, e.trans e2⟩
            · exact ih t e
      exact key r hw
    exact eqAt_typed I hx rx hu z t
  · rw [show its.toArray.any (eqS x) = its.any (eqS x) by simp, any_eqS r]
    exact q
end
end My

set_option Elab.async false
set_option linter.all false
set_option maxRecDepth 100000
set_option maxHeartbeats 2000000
/-! PAGES: their forms, told by lists; heaps that grow beside tables -/
namespace My
open PySem PySem.Spec PyProof.Rows L2
/-! ### heaps that grow -/
def Gk (Ts : List Addr) (H H' : Hp) : Prop := (∀ b o, H b = some o → (∀ ps, o ≠ .tbl ps) → H' b = some o) ∧ Tbs Ts H'
theorem Gk.refl {Ts : List Addr} {H : Hp} (h : Tbs Ts H) : Gk Ts H H := ⟨fun _ _ e _ => e, h⟩
theorem Gk.trans {Ts : List Addr} {H H1 H2 : Hp} (a : Gk Ts H H1) (b : Gk Ts H1 H2) : Gk Ts H H2 := ⟨fun x o e n => b.1 x o (a.1 x o e n) n, b.2⟩
theorem Tk.gk {Ts : List Addr} {H H' : Hp} (t : Tk Ts H H') (h : Tbs Ts H) : Gk Ts H H' := ⟨fun _ _ e n => t.at h e n, t.2⟩
theorem Gk.of_same {Ts : List Addr} {H H' : Hp} (s : Same H H') (h : Tbs Ts H) : Gk Ts H H' := ⟨fun _ _ e _ => s _ _ e, h.same s⟩
theorem Gk.new {Ts : List Addr} {H : Hp} {p : Addr} {o : HO} (h : Tbs Ts H) (hp : H p = none) : Gk Ts H (upd H p o) := .of_same (same_upd hp) h
theorem Gk.tup {Ts : List Addr} {H H' : Hp} {b : Addr} {xs : List V} (t : Gk Ts H H') (e : H b = some (.tup xs)) : H' b = some (.tup xs) := t.1 _ _ e fun ps z => by cases z
theorem Deep.gk {Ts : List Addr} {H H' : Hp} {v : V} (h : Deep H v) (g : Gk Ts H H') : Deep H' v := h.of g.1
theorem Typed.gk {Ts : List Addr} {H H' : Hp} {v : V} (h : Typed H v) (g : Gk Ts H H') : Typed H' v := h.of fun b o e n _ => g.1 b o e n
theorem Tap.gk {Ts : List Addr} {H H' : Hp} {t : Addr} {n : Nat} (hT : Tap H t n) (k : Gk Ts H H') : Tap H' t n := by
  obtain ⟨c, ns, sp, re, ca, h1, h2, h3⟩ := hT
  exact ⟨c, ns, sp, re, ca, k.1 _ _ h1 (fun ps z => by cases z), k.1 _ _ h2 (fun ps z => by cases z), h3⟩
theorem homeB_gk {Ts : List Addr} {H H' : Hp} {v : V} (h : Typed H v) (g : Gk Ts H H') : homeB H' v = homeB H v := by
  cases v with
  | ref a =>
    rcases h with ⟨xs, e⟩ | ⟨xs, e⟩ | ⟨xs, e⟩
    · simp only [homeB, e, g.1 _ _ e (fun ps z => by cases z)]
    · simp only [homeB, e, g.1 _ _ e (fun ps z => by cases z)]
    · simp only [homeB, e, g.1 _ _ e (fun ps z => by cases z)]
  | _ => rfl
/-! ### the walk of a zip of two tuples -/
theorem walk_zipT {K : PySem.W.Frag} {a b : Addr} {xs ys : List V} {n : Nat} (hn : n = min xs.length ys.length) : Walk (RZ.ItzT K a b) n (fun H => SqT K H a xs ∧ SqT K H b ys) (YPair (fun i => xs[i]?) (fun i => ys[i]?)) := by
  subst hn
  refine ⟨fun i _ hi q => ?_, fun _ q => ⟨xs, ys, q.1, q.2, by omega⟩, fun i H v H' _ q y => ?_⟩
  · have h1 : i < xs.length := by omega
    have h2 : i < ys.length := by omega
    exact ⟨xs, ys, xs[i], ys[i], q.1, q.2, by simp [h1], by simp [h2]⟩
  · obtain ⟨T, x, z, h1, h2, h3, h4, h5⟩ := y
    exact ⟨T, x, z, h1, h2, h3, h4 xs q.1, h5 ys q.2⟩
/-! ### forms -/
def kinds : List Str := ["house", "part", "join", "home", "mourn", "ahead", "card", "visit"]
def formsOf (k : Str) : Option (List Str) :=
  if k = "house" then some ["name", "home"] else if k = "part" then some ["name", "name", "home"] else if k = "join" then some ["name", "name"]
  else if k = "home" then some ["name", "home"] else if k = "mourn" then some ["name", "many"] else if k = "ahead" then some ["name", "name"]
  else if k = "card" then some ["name", "name"] else if k = "visit" then some ["name", "name"] else none
def fitB (H : Hp) (f : Str) (v : V) : Bool := if f = "name" then nameB v else if f = "home" then homeB H v else inW v 1 60
theorem fitB_gk {Ts : List Addr} {H H' : Hp} {f : Str} {v : V} (h : Typed H v) (g : Gk Ts H H') : fitB H' f v = fitB H f v := by
  unfold fitB
  rw [homeB_gk h g]
/-- all parts fit their forms -/
def fitsB (H : Hp) (fs : List Str) (r : List V) : Bool := (fs.zip r).all fun p => fitB H p.1 p.2
/-- the parts whose form is a name -/
def namesB (fs : List Str) (r : List V) : List V := ((fs.zip r).filter fun p => decide (p.1 = ("name" : Str))).map (·.2)
def formV (H : Hp) : List V → Bool
  | .str k :: d :: r => match formsOf k with
    | some fs => inW d 0 9999 && (decide (r.length = fs.length) && fitsB H fs r)
    | none => false
  | _ => false
def formB (H : Hp) : V → Bool
  | .ref a => match H a with
    | some (.tup xs) => formV H xs
    | _ => false
  | _ => false
def namesV : List V → List V
  | .str k :: _ :: r => namesB ((formsOf k).getD []) r
  | _ => []
def unlike : List V → Bool
  | [_] => true
  | a :: b :: _ => !decide (a = b)
  | _ => true
def pageB (H : Hp) : V → Bool
  | .ref a => match H a with
    | some (.tup xs) => formV H xs && unlike (namesV xs)
    | _ => false
  | _ => false
/-- a thing, what is in it where it is a tuple, and in these -/
def Pgd (H : Hp) (v : V) : Prop := Typed H v ∧ ∀ a xs, v = .ref a → H a = some (.tup xs) → xs.length ≤ 100 ∧ ∀ x ∈ xs, Deep H x ∧ PlainV x
theorem not_tupF {H : Hp} {v : V} (k : ¬ kindB H "tuple" v = true) : formB H v = false ∧ pageB H v = false := by
  cases v with
  | ref a =>
    constructor
    · show (match H a with | some (.tup xs) => formV H xs | _ => false) = false
      cases e : H a with
      | none => rfl
      | some o =>
        cases o with
        | tup xs => exact absurd (by simp [kindB, e]) k
        | _ => rfl
    · show (match H a with | some (.tup xs) => formV H xs && unlike (namesV xs) | _ => false) = false
      cases e : H a with
      | none => rfl
      | some o =>
        cases o with
        | tup xs => exact absurd (by simp [kindB, e]) k
        | _ => rfl
  | _ => exact ⟨rfl, rfl⟩
theorem form_short {H : Hp} {xs : List V} (h : xs.length < 2) : formV H xs = false := by
  match xs, h with
  | [], _ => rfl
  | [x], _ => cases x <;> rfl
theorem kinds_iff {k : Str} : kinds.any (fun y => y == k) = (formsOf k).isSome := by
  unfold kinds formsOf
  by_cases h1 : k = "house"
  · subst h1; decide
  by_cases h2 : k = "part"
  · subst h2; decide
  by_cases h3 : k = "join"
  · subst h3; decide
  by_cases h4 : k = "home"
  · subst h4; decide
  by_cases h5 : k = "mourn"
  · subst h5; decide
  by_cases h6 : k = "ahead"
  · subst h6; decide
  by_cases h7 : k = "card"
  · subst h7; decide
  by_cases h8 : k = "visit"
  · subst h8; decide
  have f : ∀ {a : Str}, ¬ k = a → (a == k) = false := fun h => beq_eq_false_iff_ne.mpr fun z => h z.symm
  simp only [List.any_cons, List.any_nil, f h1, f h2, f h3, f h4, f h5, f h6, f h7, f h8, if_neg h1, if_neg h2, if_neg h3, if_neg h4, if_neg h5, if_neg h6, if_neg h7, if_neg h8]
  rfl
theorem form_kind {H : Hp} {x d : V} {r : List V} (h : strIn kinds x = false) : formV H (x :: d :: r) = false := by
  cases x with
  | str k =>
    have h : kinds.any (fun y => y == k) = false := h
    rw [kinds_iff] at h
    show (match formsOf k with | some fs => _ | none => false) = false
    cases e : formsOf k with
    | none => rfl
    | some fs => rw [e] at h; cases h
  | _ => rfl
theorem kind_in {x : V} (h : strIn kinds x = true) : ∃ k fs, x = .str k ∧ formsOf k = some fs := by
  cases x with
  | str k =>
    have h : kinds.any (fun y => y == k) = true := h
    rw [kinds_iff] at h
    cases e : formsOf k with
    | none => rw [e] at h; cases h
    | some fs => exact ⟨k, fs, rfl, e⟩
  | _ => cases h
theorem forms_len {k : Str} {fs : List Str} (h : formsOf k = some fs) : 2 ≤ fs.length ∧ fs.length ≤ 3 := by
  unfold formsOf at h
  repeat (split at h; · cases h; decide)
  cases h
theorem cut2 (x d : V) (r : List V) : cutV (x :: d :: r) (some 2) none = r := by
  unfold cutV
  rw [show HT.sIx (x :: d :: r).length 0 (some 2) = min 2 (x :: d :: r).length from HT.sIx_nat _ _ 2, HT.sIx_none]
  have : min 2 (x :: d :: r).length = 2 := by simp
  rw [this]
  simp
theorem Pgd.of {H H' : Hp} {v : V} (h : Pgd H v) (s : ∀ b o, H b = some o → (∀ ps, o ≠ .tbl ps) → H' b = some o) : Pgd H' v := by
  refine ⟨h.1.of fun b o e n _ => s b o e n, fun a xs e1 e2 => ?_⟩
  subst e1
  rcases h.1 with ⟨ys, e⟩ | ⟨ys, e⟩ | ⟨ys, e⟩
  · have e3 := s a _ e fun ps z => by cases z
    rw [e2] at e3
    cases e3
    exact ⟨(h.2 a _ rfl e).1, fun x hx => ⟨((h.2 a _ rfl e).2 x hx).1.of s, ((h.2 a _ rfl e).2 x hx).2⟩⟩
  · have e3 := s a _ e fun ps z => by cases z
    rw [e2] at e3
    cases e3
  · have e3 := s a _ e fun ps z => by cases z
    rw [e2] at e3
    cases e3
theorem Pgd.gk {Ts : List Addr} {H H' : Hp} {v : V} (h : Pgd H v) (g : Gk Ts H H') : Pgd H' v := h.of g.1
theorem fits_get {H : Hp} {fs : List Str} {r : List V} (h : ∀ (k : Nat) (f : Str) (x : V), fs[k]? = some f → r[k]? = some x → fitB H f x = true) : fitsB H fs r = true :=
  all_get fun k p e => by
    rw [List.getElem?_zip_eq_some] at e
    exact h k p.1 p.2 e.1 e.2
theorem fits_not {H : Hp} {fs : List Str} {r : List V} {k : Nat} {f : Str} {x : V} (h1 : fs[k]? = some f) (h2 : r[k]? = some x) (e : fitB H f x = false) : fitsB H fs r = false :=
  all_not (k := k) (x := (f, x)) (List.getElem?_zip_eq_some.mpr ⟨h1, h2⟩) e
theorem str_at {fs : List Str} {i : Nat} {x : V} (h : (fs.map V.str)[i]? = some x) : ∃ f, x = .str f ∧ fs[i]? = some f := by
  rw [List.getElem?_map] at h
  cases e : fs[i]? with
  | none => rw [e] at h; cases h
  | some f => rw [e] at h; cases h; exact ⟨f, rfl, rfl⟩
theorem names_take {fs : List Str} {r : List V} {i : Nat} {f : Str} {x : V} (h1 : fs[i]? = some f) (h2 : r[i]? = some x) :
    ((((fs.zip r).take (i + 1)).filter fun p => decide (p.1 = ("name" : Str))).map (·.2)) = ((((fs.zip r).take i).filter fun p => decide (p.1 = ("name" : Str))).map (·.2)) ++ (if f = "name" then [x] else []) := by
  rw [take_filter (c := (f, x)) _ (List.getElem?_zip_eq_some.mpr ⟨h1, h2⟩), List.map_append]
  congr 1
  by_cases e : f = "name"
  · subst e; simp
  · simp [e]
theorem sz' {n : Nat} (h : n ≤ 3) : n < sizeLine := small1000 (by omega)
theorem page_form {H : Hp} {v : V} (h : formB H v = false) : pageB H v = false := by
  cases v with
  | ref a =>
    have h : (match H a with | some (.tup xs) => formV H xs | _ => false) = false := h
    show (match H a with | some (.tup xs) => formV H xs && unlike (namesV xs) | _ => false) = false
    cases e : H a with
    | none => rfl
    | some o =>
      rw [e] at h
      cases o with
      | tup xs =>
        have h : formV H xs = false := h
        show (formV H xs && _) = false
        rw [h, Bool.false_and]
      | _ => rfl
  | _ => rfl
theorem form_inv {H : Hp} {v : V} (h : formB H v = true) : ∃ a k d r fs, v = .ref a ∧ H a = some (.tup (.str k :: d :: r)) ∧ formsOf k = some fs ∧ r.length = fs.length ∧ fitsB H fs r = true := by
  cases v with
  | ref a =>
    have h : (match H a with | some (.tup xs) => formV H xs | _ => false) = true := h
    cases e : H a with
    | none => rw [e] at h; cases h
    | some o =>
      rw [e] at h
      cases o with
      | tup xs =>
        have h : formV H xs = true := h
        match xs, h with
        | .str k :: d :: r, h =>
          have h : (match formsOf k with | some fs => inW d 0 9999 && (decide (r.length = fs.length) && fitsB H fs r) | none => false) = true := h
          cases e2 : formsOf k with
          | none => rw [e2] at h; cases h
          | some fs =>
            rw [e2] at h
            have h : (inW d 0 9999 && (decide (r.length = fs.length) && fitsB H fs r)) = true := h
            rw [Bool.and_eq_true, Bool.and_eq_true, decide_eq_true_eq] at h
            exact ⟨a, k, d, r, fs, rfl, e, e2, h.2.1, h.2.2⟩
      | _ => cases h
  | _ => cases h
theorem forms_cases {k : Str} {fs : List Str} (h : formsOf k = some fs) : fs = [("name" : Str), "home"] ∨ fs = [("name" : Str), "name", "home"] ∨ fs = [("name" : Str), "name"] ∨ fs = [("name" : Str), "many"] := by
  unfold formsOf at h
  repeat' split at h
  all_goals first | (cases h; simp; done) | cases h
theorem fit_name {H : Hp} {v : V} (h : fitB H "name" v = true) : nameB v = true := h
theorem name_str {v : V} (h : nameB v = true) : ∃ z, v = .str z := by
  cases v <;> first | exact ⟨_, rfl⟩ | cases h
theorem names_cases {H : Hp} {k : Str} {fs : List Str} {r : List V} (h : formsOf k = some fs) (hl : r.length = fs.length) (hf : fitsB H fs r = true) : (∃ x, namesB fs r = [.str x]) ∨ (∃ x y, namesB fs r = [.str x, .str y]) := by
  rcases forms_cases h with rfl | rfl | rfl | rfl
  · match r, hl with
    | [x, y], _ =>
      have hf : (fitB H "name" x && (fitB H "home" y && true)) = true := hf
      rw [Bool.and_eq_true] at hf
      obtain ⟨z, rfl⟩ := name_str (fit_name hf.1)
      exact .inl ⟨z, rfl⟩
  · match r, hl with
    | [x, y, u], _ =>
      have hf : (fitB H "name" x && (fitB H "name" y && (fitB H "home" u && true))) = true := hf
      rw [Bool.and_eq_true, Bool.and_eq_true] at hf
      obtain ⟨z, rfl⟩ := name_str (fit_name hf.1)
      obtain ⟨z2, rfl⟩ := name_str (fit_name hf.2.1)
      exact .inr ⟨z, z2, rfl⟩
  · match r, hl with
    | [x, y], _ =>
      have hf : (fitB H "name" x && (fitB H "name" y && true)) = true := hf
      rw [Bool.and_eq_true, Bool.and_eq_true] at hf
      obtain ⟨z, rfl⟩ := name_str (fit_name hf.1)
      obtain ⟨z2, rfl⟩ := name_str (fit_name hf.2.1)
      exact .inr ⟨z, z2, rfl⟩
  · match r, hl with
    | [x, y], _ =>
      have hf : (fitB H "name" x && (fitB H "many" y && true)) = true := hf
      rw [Bool.and_eq_true] at hf
      obtain ⟨z, rfl⟩ := name_str (fit_name hf.1)
      exact .inl ⟨z, rfl⟩
end My

set_option Elab.async false
set_option linter.all false
set_option maxRecDepth 100000
set_option maxHeartbeats 2000000
/-! Promises of defs that are called while nothing is being shown (no repr is under way): the text that repr tells is then the thing's own. -/
namespace GU
open PySem PySem.Spec PyProof.Rows L2
/-- as FnOk, where no repr is under way -/
structure FnG (P : Program) (w : World) (K : PySem.W.Frag) (mg : Str → Option Value) (base : Heap) (CX : CXT) (k : Nat) (f : Addr) (fd : FuncData) (ps : List Str) (sp : Sp) : Prop where
  len : ∀ vs H Q E, sp vs H Q E → vs.length = ps.length
  go : ∀ (A : Around), A.guards = some [] → ∀ (outer : List Env) (s : Shared) (H : Hp) (args : Args) (us : List Value) (vs : List V) (Q : VK) (E : XK),
    Room k A → Env0 P w K mg base A outer s H → BindsTo s fd args (ps.zip us) → Vals vs us → sp vs H Q E → codeAny (model P w) A (.call (.ref f) args) (CR CX outer P w H s Q E) s
section
variable {P : Program} {w : World} {K : PySem.W.Frag} {mg : Str → Option Value} {base : Heap} {CX : CXT} {k : Nat} {f : Addr} {fd : FuncData} {ps : List Str} {sp : Sp}
theorem FnG.of (F : FnOk P w K mg base CX k f fd ps sp) : FnG P w K mg base CX k f fd ps sp :=
  ⟨F.len, fun A _ outer s H args us vs Q E => F.run A outer s H args us vs Q E⟩
/-- a def by its body -/
theorem fnG_of {N : List Str} {name qual : Str} {params : Arguments} {body : List Stmt} {scope : Scope} {dV kV doc pm cdv ct oc : Value} {an od : Option Addr} {osl : Array (Option Value)}
    (look : K.lookup f = some ⟨oc, od, .func (PySem.W.fnOf name qual params body scope dV kV doc pm an cdv ct), osl⟩) (code : PySem.W.codeIn K cdv qual = true) (S : FnScope N ps scope)
    (len : ∀ vs H Q E, sp vs H Q E → vs.length = ps.length)
    (hbody : ∀ (A : Around) (outer : List Env) (s : Shared) (H : Hp) (vs : List V) (Q : VK) (E : XK), A.guards = some [] → Room k (A.deeper (envOfC qual scope s.heap.objs.size f cdv)) → sp vs H Q E →
      ∃ t, PSs (cxOf CX P w K mg base N qual scope f cdv A outer s H E) body t ∧ t { nx := fun _ H' => Q .non H', rt := Q } (start N vs) H) :
    FnG P w K mg base CX (k + 1) f (PySem.W.fnOf name qual params body scope dV kV doc pm an cdv ct) ps sp := by
  refine ⟨len, ?_⟩
  intro A gd outer s H args us vs Q E room env bind rel want
  obtain ⟨t, runs, reads⟩ := hbody A outer s H vs Q E gd (room.deeper _) want
  have stays : ∀ b o, base.get? b = some o → s.heap.get? b = some o := fun b o e => (env.bs b o e).1
  have inK := env.mod.kin.keeps stays
  have kinds : ∀ y ∈ ps.zip us, scope.names.lookup y.1 = some .local ∨ (scope.names.lookup y.1 = some .cell ∧ ((cellsFrom (s.heap.objs.size + 1) scope.names []).lookup y.1).isSome = true) := by
    rintro ⟨n, v⟩ hy
    refine (S.par n (List.of_mem_zip hy).1).imp id fun c => ⟨c, PySem.W.cellsFrom_some _ _ _ (.inl c)⟩
  refine codeAny_call_function room.depth (inK _ _ look) rfl S.co S.gen rfl (PySem.W.codeRec_of inK code) (bind _ _ _ _ ?_)
  refine wpAny_newFunctionEnv_cells S.kind kinds ?_
  rintro env2 rfl s1 x
  refine ⟨(env.mod.nolimit.keeps stays).keeps x.toInCall.keep, codeAny_func ?_⟩
  refine wpAny_mono (runs.run [] s1 (start N vs) H _ (inv_start S room.hd env (len _ _ _ _ want) rel x) reads) ?_ fun _ _ h => h
  intro fl s' hs
  cases fl with
  | brk => exact let ⟨_, _, _, q⟩ := hs; q.elim
  | cont => exact let ⟨_, _, _, q⟩ := hs; q.elim
  | next => exact let ⟨_, H', J, q⟩ := hs; ⟨V.non, H', J.os, J.bare, J.base, J.hok, rfl, q⟩
  | ret u => exact let ⟨v, _, H', J, rv, q⟩ := hs; ⟨v, H', J.os, J.bare, J.base, J.hok, rv, q⟩
end
section
variable {P : Program} {w : World} {K : PySem.W.Frag} {mg : Str → Option Value} {base : Heap} {k : Nat} {f : Addr} {fd : FuncData} {ps N : List Str} {sp : Sp} {x qual : Str} {st : Stmt}
theorem okG (F : Fun K x qual st f fd) (S : FnScope N ps (defScope st)) (len : ∀ vs H Q E, sp vs H Q E → vs.length = ps.length)
    (hbody : ∀ (cdv : Value) (A : Around) (outer : List Env) (s : Shared) (H : Hp) (vs : List V) (Q : VK) (E : XK), A.guards = some [] → Room k (A.deeper (envOfC qual (defScope st) s.heap.objs.size f cdv)) → sp vs H Q E →
      ∃ t, PSs (cxOf CX0 P w K mg base N qual (defScope st) f cdv A outer s H E).nox (defBody st) t ∧ t { nx := fun _ H' => Q .non H', rt := Q } (start N vs) H) : FnG P w K mg base CX0 (k + 1) f fd ps sp := by
  obtain ⟨oc, od, kV, doc, pm, an, cdv, ct, osl, rfl, lk, hcd⟩ := F.ex
  refine fnG_of lk hcd S len fun A outer s H vs Q E gd hr hsp => ?_
  obtain ⟨t, h, q⟩ := hbody cdv A outer s H vs Q E gd hr hsp
  exact ⟨t, h.nox, q⟩
theorem okGC {c : Addr} (F : GE.FunC K x qual st f fd c) (S : FnScope N ps (defScope st)) (len : ∀ vs H Q E, sp vs H Q E → vs.length = ps.length)
    (hbody : ∀ (A : Around) (outer : List Env) (s : Shared) (H : Hp) (vs : List V) (Q : VK) (E : XK), A.guards = some [] → Room k (A.deeper (envOfC qual (defScope st) s.heap.objs.size f (.ref c))) → sp vs H Q E →
      ∃ t, PSs (cxOf CX0 P w K mg base N qual (defScope st) f (.ref c) A outer s H E).nox (defBody st) t ∧ t { nx := fun _ H' => Q .non H', rt := Q } (start N vs) H) : FnG P w K mg base CX0 (k + 1) f fd ps sp := by
  obtain ⟨oc, od, kV, doc, pm, an, ct, osl, rfl, lk, hcd⟩ := F.ex
  refine fnG_of lk hcd S len fun A outer s H vs Q E gd hr hsp => ?_
  obtain ⟨t, h, q⟩ := hbody A outer s H vs Q E gd hr hsp
  exact ⟨t, h.nox, q⟩
end
section
variable {X : Cx} {CX : CXT} {k : Nat} {f : Addr} {fd : FuncData} {ps : List Str} {sp : Sp} {dvs : List V} {ds : List Value} {E : XK} {x : Str} {p pos : Pos} {e : Expr} {es : List Expr} {t : TA}
/-- f(..) -/
theorem pe_callG (F : FnG X.prog X.w X.K X.mg X.base CX k f fd ps sp) (gd : X.A.guards = some []) (hr : Room k X.A) (hg : Gl X x) (hm : X.mg x = some (.ref f)) (hk : PySem.W.keepIn X.K (.ref f) = true) (hb : Binds X.K fd ps ds) (hd : Vals dvs ds) (hx : Passes CX X E)
    (ha : PA X (e :: es) t) (hdb : (x == ("__debug__" : Str)) = false := by decide) (he : starEach (e :: es) X.env = (false, eval e X.env) :: starEach es X.env := by rfl) (hpl : (backTo pos (starEach es X.env)).any (·.1) = false := by rfl) :
    PE X (.Call (.Name x p) (e :: es) [] pos) (tCall sp dvs E t) := by
  constructor
  intro pins s σ H Q I h
  have args := ha.run pos pins s σ H _ I h
  refine wpAny_Call_Name_kw (ld_glob I hg hm (PySem.W.callWith_K (h₀ := X.base) I.ok.mod.kin hk (thn args ?_) he hpl) hdb)
  rintro us s1 ⟨vs, H1, J, r, q⟩
  refine ⟨J.kIn, wpAny_call (codeAny_mono (F.go X.A gd X.stack s1 H1 ⟨us, []⟩ (us ++ ds) (vs ++ dvs) Q E hr J.env0 (hb s1 us J.kIn ?_) (r.append hd) q) ?_)⟩
  · rw [← (r.append hd).length]
    exact F.len _ _ _ _ q
  · intro res s2 hq
    match res, hq with
    | .error e, hq => exact hx pins σ H1 s1 e s2 J hq
    | .ok (.ret u), hq => exact J.after hq
end
end GU
/-! ### repr of things -/
namespace GU
open PySem PySem.Spec PyProof.Rows L2
mutual
def Sh : PyData → Prop
  | .none => True
  | .bool _ => True
  | .int i => i.natAbs.log2 < 1920
  | .str x => ∀ c ∈ x.cps.toList, c < 16 ^ 8
  | .list xs => ShAll xs
  | .tuple xs => ShAll xs
  | .dict _ => False
def ShAll : List PyData → Prop
  | [] => True
  | x :: xs => Sh x ∧ ShAll xs
end
mutual
def cost : PyData → Nat
  | .none => 4
  | .bool _ => 5
  | .int _ => 1921
  | .str x => 10 * x.length + 4
  | .list xs => costAll xs + 3
  | .tuple xs => costAll xs + 3
  | .dict _ => 0
def costAll : List PyData → Nat
  | [] => 0
  | x :: xs => cost x + 2 + costAll xs
end
mutual
theorem sh_ok : ∀ {d : PyData}, Sh d → d.showable = true ∧ d.hasDict = false ∧ d.shown.length ≤ cost d
  | .none, _ => ⟨rfl, rfl, by decide +kernel⟩
  | .bool b, _ => ⟨rfl, rfl, by cases b <;> decide +kernel⟩
  | .int i, h => ⟨decide_eq_true h, rfl, int_text_len_1921 h⟩
  | .str x, h => ⟨rfl, rfl, Nat.le_trans (StrLaws.reprText_len x h) (Nat.add_le_add_left (by decide) _)⟩
  | .list xs, h => by
    obtain ⟨a, b, c⟩ := shAll_ok (xs := xs) h
    refine ⟨by rw [PyData.showable]; exact a, by rw [PyData.hasDict]; exact b, ?_⟩
    rw [PyData.shown, cost]
    exact Nat.le_trans (listText_len_le _) (by omega)
  | .tuple xs, h => by
    obtain ⟨a, b, c⟩ := shAll_ok (xs := xs) h
    refine ⟨by rw [PyData.showable]; exact a, by rw [PyData.hasDict]; exact b, ?_⟩
    rw [PyData.shown, cost]
    exact Nat.le_trans (tupleText_len_le _) (by omega)
  | .dict _, h => h.elim
theorem shAll_ok : ∀ {xs : List PyData}, ShAll xs → PyData.showableAll xs = true ∧ PyData.hasDictAll xs = false ∧ ((PyData.shownAll xs).map (·.length)).sum + 2 * (PyData.shownAll xs).length ≤ costAll xs
  | [], _ => ⟨rfl, rfl, Nat.le_refl _⟩
  | x :: xs, h => by
    obtain ⟨a1, b1, c1⟩ := sh_ok h.1
    obtain ⟨a2, b2, c2⟩ := shAll_ok h.2
    refine ⟨by rw [PyData.showableAll, a1, a2]; rfl, by rw [PyData.hasDictAll, b1, b2]; rfl, ?_⟩
    rw [PyData.shownAll, costAll, List.map_cons, List.sum_cons, List.length_cons]
    omega
end
section
variable {X : Cx} {k : Nat}
/-- repr of any thing of numbers, truths, texts, None, lists and tuples -/
theorem call_reprD (gd : X.A.guards = some []) (hr : Room k X.A) : CallR X (.builtin "repr") (fun xs H Q => ∃ v d, xs = [v] ∧ Dp X.K H v d ∧ Sh d ∧ d.depth ≤ 50 ∧ cost d ≤ sizeLine ∧ Q (.str d.shown) H) := by
  intro pins s σ H xs us Q I r h
  obtain ⟨v, d, rfl, dp, sh, deep, fits, q⟩ := h
  obtain ⟨u, rfl, ru⟩ := vals1 r
  obtain ⟨a, b, c⟩ := sh_ok sh
  have hu := hr.un
  cases dp with
  | non => cases ru; exact PySem.P.repr_of_none ⟨.str _, H, I.tok _, ⟨_, rfl⟩, q⟩
  | bl x => cases ru; exact PySem.P.repr_of_bool ⟨.str _, H, I.tok _, ⟨_, rfl⟩, q⟩
  | int i =>
    obtain ⟨t, rfl⟩ := ru
    exact PySem.P.repr_of_int sh ⟨.str _, H, I.tok _, ⟨_, rfl⟩, q⟩
  | str x =>
    obtain ⟨t, rfl⟩ := ru
    exact PySem.P.repr_of_str ⟨.str _, H, I.tok _, ⟨_, rfl⟩, q⟩ (Nat.le_trans c fits)
  | lst h1 h2 =>
    obtain ⟨as, rd⟩ := Dp.reads I _ _ _ (.lst h1 h2) ru
    cases ru
    exact repr_of_reads' rd a (PyData.noDict_hsm b) gd (by omega) (fun _ _ e => e) (fun h' u tk kp => ⟨.str _, H, I.turnedL (ch := []) (h' := h') (t' := tk) (fun b o _ e => kp b o e) (fun b hb => by cases hb), ⟨_, rfl⟩, q⟩) (Nat.le_trans c fits)
  | tup h1 h2 =>
    obtain ⟨as, rd⟩ := Dp.reads I _ _ _ (.tup h1 h2) ru
    cases ru
    exact repr_of_reads' rd a (PyData.noDict_hsm b) gd (by omega) (fun _ _ e => e) (fun h' u tk kp => ⟨.str _, H, I.turnedL (ch := []) (h' := h') (t' := tk) (fun b o _ e => kp b o e) (fun b hb => by cases hb), ⟨_, rfl⟩, q⟩) (Nat.le_trans c fits)
end
end GU

set_option Elab.async false
set_option linter.all false
set_option maxRecDepth 100000
set_option maxHeartbeats 2000000
/-! Numbers, texts, None and tuples of these, to any depth, as data (NestedKey): what stays, ==, in, <. -/
namespace My
open PySem PySem.Spec PyProof.Rows L2 PySem.SeqAt
mutual
inductive Nk (H : Hp) : V → NestedKey → Prop
  | non : Nk H .non .none
  | int (i : Int) : Nk H (.int i) (.num i)
  | str (z : Str) : Nk H (.str z) (.text z)
  | tup {a : Addr} {xs : List V} {ks : List NestedKey} : H a = some (.tup xs) → NkAll H xs ks → Nk H (.ref a) (.tup ks)
inductive NkAll (H : Hp) : List V → List NestedKey → Prop
  | nil : NkAll H [] []
  | cons {x : V} {k : NestedKey} {xs : List V} {ks : List NestedKey} : Nk H x k → NkAll H xs ks → NkAll H (x :: xs) (k :: ks)
end
/-- all tuples stay -/
def Tups (H H' : Hp) : Prop := ∀ b xs, H b = some (.tup xs) → H' b = some (.tup xs)
theorem Tups.refl (H : Hp) : Tups H H := fun _ _ e => e
theorem Tups.trans {H H1 H2 : Hp} (a : Tups H H1) (b : Tups H1 H2) : Tups H H2 := fun c xs e => b c xs (a c xs e)
theorem Tups.same {H H' : Hp} (s : Same H H') : Tups H H' := fun b xs e => s b _ e
theorem Tups.gk {Ts : List Addr} {H H' : Hp} (g : Gk Ts H H') : Tups H H' := fun b xs e => g.tup e
theorem Tups.kp {t : Addr} {H H' : Hp} {n : Nat} (hT : Tap H t n) (k : Kp t H H') : Tups H H' := fun b xs e => k b _ (fun z => by
  obtain ⟨_, _, _, _, _, e1, _⟩ := hT
  rw [z, e1] at e
  cases e) e
mutual
theorem Nk.at {H H' : Hp} (t : Tups H H') : ∀ {k : NestedKey} {v : V}, Nk H v k → Nk H' v k
  | .none, _, .non => .non
  | .num _, _, .int i => .int i
  | .text _, _, .str z => .str z
  | .tup _, _, .tup e h => .tup (t _ _ e) (NkAll.at t h)
theorem NkAll.at {H H' : Hp} (t : Tups H H') : ∀ {ks : List NestedKey} {xs : List V}, NkAll H xs ks → NkAll H' xs ks
  | [], _, .nil => .nil
  | _ :: _, _, .cons h r => .cons (h.at t) (r.at t)
end
mutual
theorem Nk.inj {H : Hp} : ∀ {k k' : NestedKey} {v : V}, Nk H v k → Nk H v k' → k = k'
  | .none, _, _, .non, h => by cases h; rfl
  | .num _, _, _, .int i, h => by cases h; rfl
  | .text _, _, _, .str z, h => by cases h; rfl
  | .tup _, _, _, .tup e a, h => by
    cases h with
    | tup e2 b =>
      rw [e] at e2
      cases e2
      rw [NkAll.inj a b]
theorem NkAll.inj {H : Hp} : ∀ {ks ks' : List NestedKey} {xs : List V}, NkAll H xs ks → NkAll H xs ks' → ks = ks'
  | [], _, _, .nil, h => by cases h; rfl
  | _ :: _, _, _, .cons a r, h => by
    cases h with
    | cons b t => rw [Nk.inj a b, NkAll.inj r t]
end
mutual
theorem Nk.dp {K : PySem.W.Frag} {H : Hp} : ∀ {k : NestedKey} {v : V}, Nk H v k → Dp K H v k.data
  | .none, _, .non => .non
  | .num _, _, .int i => .int i
  | .text _, _, .str z => .str z
  | .tup _, _, .tup e h => .tup (.inl (.inl e)) (NkAll.dp h)
theorem NkAll.dp {K : PySem.W.Frag} {H : Hp} : ∀ {ks : List NestedKey} {xs : List V}, NkAll H xs ks → DpAll K H xs (NestedKey.datas ks)
  | [], _, .nil => .nil
  | _ :: _, _, .cons h r => .cons h.dp r.dp
end
theorem NkAll.length {H : Hp} : ∀ {ks : List NestedKey} {xs : List V}, NkAll H xs ks → xs.length = ks.length
  | [], _, .nil => rfl
  | _ :: _, _, .cons _ r => congrArg (· + 1) r.length
theorem NkAll.get {H : Hp} : ∀ {ks : List NestedKey} {xs : List V} {i : Nat} {x : V}, NkAll H xs ks → xs[i]? = some x → ∃ k, ks[i]? = some k ∧ Nk H x k
  | [], _, _, _, .nil, e => by simp at e
  | k :: _, _, 0, _, .cons h _, e => ⟨k, rfl, by cases e; exact h⟩
  | _ :: _, _, i + 1, _, .cons _ r, e => r.get (i := i) (by simpa using e)
theorem NkAll.get' {H : Hp} : ∀ {ks : List NestedKey} {xs : List V} {i : Nat} {k : NestedKey}, NkAll H xs ks → ks[i]? = some k → ∃ x, xs[i]? = some x ∧ Nk H x k
  | [], _, _, _, .nil, e => by simp at e
  | _ :: _, x :: _, 0, _, .cons h _, e => ⟨x, rfl, by cases e; exact h⟩
  | _ :: _, _, i + 1, _, .cons _ r, e => r.get' (i := i) (by simpa using e)
theorem NkAll.app {H : Hp} : ∀ {ks ls : List NestedKey} {xs ys : List V}, NkAll H xs ks → NkAll H ys ls → NkAll H (xs ++ ys) (ks ++ ls)
  | [], _, _, _, .nil, h => h
  | _ :: _, _, _, _, .cons a r, h => .cons a (r.app h)
section
variable {X : Cx} {pins : List (Addr × Obj)} {σ : L2.St} {H : Hp} {s : Shared}
mutual
theorem Nk.is (I : Inv X pins σ H s) : ∀ {k : NestedKey} {v : V} {u : Value}, Nk H v k → RelV v u → NestedIs s.heap k u
  | .none, _, _, .non, r => by cases r; exact .none
  | .num _, _, _, .int i, r => by obtain ⟨t, rfl⟩ := r; exact .int i t
  | .text _, _, _, .str z, r => by obtain ⟨t, rfl⟩ := r; exact .text z t
  | .tup _, _, _, .tup e h, r => by
    cases r
    obtain ⟨_, its, rv, ⟨o, ho, hc, n, hd⟩⟩ := I.hok _ _ e
    exact .tup ho hc hd (NkAll.is I h (by simpa using rv))
theorem NkAll.is (I : Inv X pins σ H s) : ∀ {ks : List NestedKey} {xs : List V} {us : List Value}, NkAll H xs ks → Vals xs us → NestedAll s.heap ks us
  | [], _, _, .nil, r => by cases r; exact .nil
  | _ :: _, _, _, .cons a h, r => by
    cases r with
    | cons r1 r2 => exact .cons (a.is I r1) (h.is I r2)
end
end
/-! ### in -/
open Classical in
noncomputable def eqK (h : Heap) (k : NestedKey) (y : Value) : Bool := decide (NestedIs h k y)
theorem eqK_is {h : Heap} {k k' : NestedKey} {y : Value} (hy : NestedIs h k' y) : eqK h k y = decide (k' = k) := by
  unfold eqK
  by_cases e : k' = k
  · subst e
    rw [@decide_eq_true _ (Classical.propDecidable _) hy, decide_eq_true rfl]
  · rw [decide_eq_false e]
    exact @decide_eq_false _ (Classical.propDecidable _) fun z => e (NestedIs.inj _ _ _ hy z)
theorem any_eqK {h : Heap} {k : NestedKey} : ∀ {ks : List NestedKey} {us : List Value}, NestedAll h ks us → us.any (eqK h k) = decide (k ∈ ks)
  | [], _, .nil => rfl
  | k' :: ks, _, .cons a r => by
    rw [List.any_cons, any_eqK r, eqK_is a, Bool.eq_iff_iff]
    simp only [Bool.or_eq_true, decide_eq_true_eq, List.mem_cons]
    exact or_congr ⟨Eq.symm, Eq.symm⟩ Iff.rfl
theorem all_is {h : Heap} : ∀ {ks : List NestedKey} {us : List Value} {y : Value}, NestedAll h ks us → y ∈ us → ∃ k, k ∈ ks ∧ NestedIs h k y
  | [], _, _, .nil, e => by cases e
  | k :: _, _, _, .cons a r, e => by
    rcases List.mem_cons.mp e with e | e
    · exact ⟨k, .head _, e ▸ a⟩
    · obtain ⟨k2, h2, h3⟩ := all_is r e
      exact ⟨k2, .tail _ h2, h3⟩
def rInN (K : PySem.W.Frag) (neg : Bool) : R2 := fun x y H Q => ∃ (p : Addr) (xs : List V) (k : NestedKey) (ks : List NestedKey), y = .ref p ∧ (SqL K H p xs ∨ SqT K H p xs) ∧ Nk H x k ∧ NkAll H xs ks ∧ k.depth ≤ 50 ∧
  Q (.bl (if neg then !decide (k ∈ ks) else decide (k ∈ ks))) H
section
variable {X : Cx}
theorem in_run {pins : List (Addr × Obj)} {σ : L2.St} {H : Hp} {s : Shared} {its : List Value} {xs : List V} {ks : List NestedKey} {k : NestedKey} {x : V} {v : Value} (I : Inv X pins σ H s) (hu : X.A.units + 64 < cLine) (r : Vals xs its) (hx : Nk H x k) (rx : RelV x v) (hk : NkAll H xs ks) (hd : k.depth ≤ 50) :
    its.toArray.any (eqK s.heap k) = decide (k ∈ ks) ∧ ∀ y, y ∈ its.toArray → EqAt X.A.in1 s y v (eqK s.heap k y) := by
  have ha := hk.is I r
  refine ⟨by rw [show its.toArray.any (eqK s.heap k) = its.any (eqK s.heap k) by simp, any_eqK ha], fun y hy => ?_⟩
  obtain ⟨k', _, h'⟩ := all_is ha (by simpa using hy)
  rw [eqK_is h', NestedKey.decide_eq]
  exact eqAt_key k' k X.A.in1 s y v h' (hx.is I rx) (by show X.A.units + 1 + _ < _; omega)
theorem op_notInN (hu : X.A.units + 64 < cLine) : OpR X (compareOp .NotIn) (rInN X.K true) := by
  intro pins s σ H x y v u Q I rx ry h
  obtain ⟨p, xs, k, ks, rfl, hq, hx, hk, hd, q⟩ := h
  cases ry
  rcases hq with hq | hq
  · obtain ⟨its, r, pl, hz⟩ := I.list hq
    obtain ⟨e1, e2⟩ := in_run I hu r hx rx hk hd
    refine notIn_listAt (eqK s.heap k) pl.isList e2 ⟨.bl _, H, I, rfl, ?_⟩
    rw [e1]
    exact q
  · obtain ⟨its, r, pl, hz⟩ := I.tuple hq
    obtain ⟨e1, e2⟩ := in_run I hu r hx rx hk hd
    refine notIn_tupleAt (eqK s.heap k) pl e2 ⟨.bl _, H, I, rfl, ?_⟩
    rw [e1]
    exact q
theorem op_inN (hu : X.A.units + 64 < cLine) : OpR X (compareOp .In) (rInN X.K false) := by
  intro pins s σ H x y v u Q I rx ry h
  obtain ⟨p, xs, k, ks, rfl, hq, hx, hk, hd, q⟩ := h
  cases ry
  rcases hq with hq | hq
  · obtain ⟨its, r, pl, hz⟩ := I.list hq
    obtain ⟨e1, e2⟩ := in_run I hu r hx rx hk hd
    refine in_listAt (eqK s.heap k) pl.isList e2 ⟨.bl _, H, I, rfl, ?_⟩
    rw [e1]
    exact q
  · obtain ⟨its, r, pl, hz⟩ := I.tuple hq
    obtain ⟨e1, e2⟩ := in_run I hu r hx rx hk hd
    refine in_tupleAt (eqK s.heap k) pl e2 ⟨.bl _, H, I, rfl, ?_⟩
    rw [e1]
    exact q
end
end My

set_option Elab.async false
set_option linter.all false
set_option maxRecDepth 100000
set_option maxHeartbeats 2000000
/-! x < y of numbers, texts and tuples of these: the first place that differs decides, what stands behind it may be of any kinds. -/
namespace My
open PySem PySem.Spec PyProof.Rows L2 PySem.SeqAt
mutual
/-- what Python's x < y tells, where it tells anything -/
def ltK : NestedKey → NestedKey → Option Bool
  | .num a, .num b => some (decide (a < b))
  | .text x, .text y => some (decide (x.cps.toList < y.cps.toList))
  | .tup xs, .tup ys => ltAll xs ys
  | _, _ => none
def ltAll : List NestedKey → List NestedKey → Option Bool
  | [], [] => some false
  | [], _ :: _ => some true
  | _ :: _, [] => some false
  | x :: xs, y :: ys => if x = y then ltAll xs ys else ltK x y
end
mutual
/-- a value that is such a thing (a truth is none) -/
inductive Ns (h : Heap) : NestedKey → Value → Prop
  | none : Ns h .none .none
  | int (i : Int) (t : Tok) : Ns h (.num i) (.int i t)
  | text (x : Str) (t : Tok) : Ns h (.text x) (.str x t)
  | tup {a : Addr} {o : Obj} {vs : Array Value} {n : Nat} {ks : List NestedKey} : h.get? a = some o → o.cls = .type "tuple" → o.data = .seq vs n → NsAll h ks vs.toList → Ns h (.tup ks) (.ref a)
inductive NsAll (h : Heap) : List NestedKey → List Value → Prop
  | nil : NsAll h [] []
  | cons {k : NestedKey} {v : Value} {ks : List NestedKey} {vs : List Value} : Ns h k v → NsAll h ks vs → NsAll h (k :: ks) (v :: vs)
end
mutual
theorem Ns.is {h : Heap} : ∀ {k : NestedKey} {v : Value}, Ns h k v → NestedIs h k v
  | .none, _, .none => .none
  | .num _, _, .int i t => .int i t
  | .text _, _, .text x t => .text x t
  | .tup _, _, .tup e c d r => .tup e c d (NsAll.is r)
theorem NsAll.is {h : Heap} : ∀ {ks : List NestedKey} {vs : List Value}, NsAll h ks vs → NestedAll h ks vs
  | [], _, .nil => .nil
  | _ :: _, _, .cons a r => .cons a.is r.is
end
section
variable {X : Cx} {pins : List (Addr × Obj)} {σ : L2.St} {H : Hp} {s : Shared}
mutual
theorem Nk.ns (I : Inv X pins σ H s) : ∀ {k : NestedKey} {v : V} {u : Value}, Nk H v k → RelV v u → Ns s.heap k u
  | .none, _, _, .non, r => by cases r; exact .none
  | .num _, _, _, .int i, r => by obtain ⟨t, rfl⟩ := r; exact .int i t
  | .text _, _, _, .str z, r => by obtain ⟨t, rfl⟩ := r; exact .text z t
  | .tup _, _, _, .tup e h, r => by
    cases r
    obtain ⟨_, its, rv, ⟨o, ho, hc, n, hd⟩⟩ := I.hok _ _ e
    exact .tup ho hc hd (NkAll.ns I h (by simpa using rv))
theorem NkAll.ns (I : Inv X pins σ H s) : ∀ {ks : List NestedKey} {xs : List V} {us : List Value}, NkAll H xs ks → Vals xs us → NsAll s.heap ks us
  | [], _, _, .nil, r => by cases r; exact .nil
  | _ :: _, _, _, .cons a h, r => by
    cases r with
    | cons r1 r2 => exact .cons (a.ns I r1) (h.ns I r2)
end
end
theorem depth_mem : ∀ {xs : List NestedKey} {x : NestedKey}, x ∈ xs → x.depth ≤ NestedKey.depthAll xs
  | _ :: _, _, .head _ => by rw [NestedKey.depthAll]; omega
  | _ :: _, _, .tail _ h => by have := depth_mem h; rw [NestedKey.depthAll]; omega
section
open AutoSeq1 (wpAny_loadPart')
open MeetsSeq MeetsSeq2 MeetsSeq3 SeqRoads2
theorem tuple_ltK (l b : Addr) (items items2 : Array Value) (n n2 : Nat) (dd dd2 : Option Addr) (sl sl2 : Array (Option Value)) (xs ys : List NestedKey) (k : Bool) :
    Meets (Builtin.«tuple.__lt__» ⟨[.ref l, .ref b], []⟩) (fun A R s => s.heap.get? l = some ⟨.type "tuple", dd, .seq items n, sl⟩ ∧ s.heap.get? b = some ⟨.type "tuple", dd2, .seq items2 n2, sl2⟩ ∧
      NsAll s.heap xs items.toList ∧ NsAll s.heap ys items2.toList ∧ ltAll xs ys = some k ∧
      (∀ x ∈ xs, ∀ y u v, Ns s.heap x u → Ns s.heap y v → EqAt A.in1 s u v (decide (x = y))) ∧
      (∀ x ∈ xs, ∀ y u v c, Ns s.heap x u → Ns s.heap y v → ltK x y = some c → RcLt A.in1 s u v c) ∧ R (.ok (.ret (.bool k))) s) := by
  refine .of_wp fun prog w A R s h => ?_
  obtain ⟨hp, g, d, tk, os⟩ := s
  obtain ⟨hl, hb, h1, h2, hk, heq, hlt, h⟩ := h
  have f2 := AutoSeq1.sub_tuple_tuple
  wp_walk using wpAny_loadPart' hl, wpAny_loadPart' hb, wpAny_forIn_list _ (fun rest c s' => c.1 = none ∧ s' = ⟨hp, g, d, tk, os⟩ ∧ ∃ xs' ys' us vs, rest = List.zip us vs ∧ NsAll hp xs' us ∧ NsAll hp ys' vs ∧ (∀ x ∈ xs', x ∈ xs) ∧
    ltAll xs' ys' = some k ∧ us.length + items2.size = vs.length + items.size) _
  case turn =>
    rintro ⟨u, v⟩ rest c s' ⟨hc, rfl, xs', ys', us, vs, hz, a1, a2, sub, hk', hn⟩
    cases a1 with
    | nil => simp at hz
    | @cons x _ xs2 us2 p1 q1 =>
      cases a2 with
      | nil => simp at hz
      | @cons y _ ys2 vs2 p2 q2 =>
        rw [List.zip_cons_cons] at hz
        cases hz
        refine wpAny_bind (heq x (sub x (.head _)) y _ _ p1 p2 prog w _ _ ?_)
        by_cases e : x = y
        · rw [ltAll, if_pos e] at hk'
          rw [decide_eq_true e]
          wp_walk
          exact ⟨rfl, rfl, xs2, ys2, us2, vs2, rfl, q1, q2, fun z hz => sub z (.tail _ hz), hk', by simp only [List.length_cons] at hn; omega⟩
        · rw [ltAll, if_neg e] at hk'
          rw [decide_eq_false e, if_pos (by decide)]
          dsimp only
          refine wpAny_bind (wpAny_rule ?_)
          refine wpAny_bind (hlt x (sub x (.head _)) y _ _ k p1 p2 hk' prog w _ _ ?_)
          wp_walk
          exact ⟨_, rfl, h⟩
  case fin =>
    rintro ⟨c1, c2⟩ s' ⟨hc, rfl, xs', ys', us, vs, hz, a1, a2, sub, hk', hn⟩
    simp only at hc
    subst hc
    have fin : decide (items.size < items2.size) = k := by
      cases a1 with
      | nil =>
        cases a2 with
        | nil =>
          rw [ltAll] at hk'
          cases hk'
          simp only [List.length_nil] at hn
          exact decide_eq_false (by omega)
        | cons _ _ =>
          rw [ltAll] at hk'
          cases hk'
          simp only [List.length_nil, List.length_cons] at hn
          exact decide_eq_true (by omega)
      | cons _ _ =>
        cases a2 with
        | nil =>
          rw [ltAll] at hk'
          cases hk'
          simp only [List.length_nil, List.length_cons] at hn
          exact decide_eq_false (by omega)
        | cons _ _ => simp at hz
    wp_walk
    refine ⟨_, rfl, ?_⟩
    rw [← fin] at h
    simpa [Builtin.Tuple.tupleCompareSizes] using h
  case h => exact ⟨rfl, rfl, xs, ys, _, _, rfl, h1, h2, fun _ h => h, hk, by simp; omega⟩
theorem rcLt_num {A : Around} {s : Shared} {i j : Int} {t u : Tok} {k : Bool} (e : ltK (.num i) (.num j) = some k) : RcLt A s (.int i t) (.int j u) k := by
  rw [ltK] at e
  cases e
  exact fun prog w E Q h => PyProof.Rows.lt_int h
theorem rcLt_text {A : Around} {s : Shared} {x y : Str} {t u : Tok} {k : Bool} (e : ltK (.text x) (.text y) = some k) : RcLt A s (.str x t) (.str y u) k := by
  rw [ltK] at e
  cases e
  exact fun prog w E Q h => PySem.P.lt_str h
theorem rcLt_tup {A : Around} {s : Shared} {l b : Addr} {o o2 : Obj} {items items2 : Array Value} {n n2 : Nat} {xs ys : List NestedKey} {k : Bool} (ho : s.heap.get? l = some o) (hc : o.cls = .type "tuple") (hd : o.data = .seq items n) (r : NsAll s.heap xs items.toList)
    (ho2 : s.heap.get? b = some o2) (hc2 : o2.cls = .type "tuple") (hd2 : o2.data = .seq items2 n2) (r2 : NsAll s.heap ys items2.toList) (e : ltAll xs ys = some k) (hu : A.units + (NestedKey.depthAll xs + 1) < cLine)
    (ih : ∀ x ∈ xs, ∀ y u v c, Ns s.heap x u → Ns s.heap y v → ltK x y = some c → RcLt A.in1 s u v c) : RcLt A s (.ref l) (.ref b) k := fun prog w E Q h => by
  obtain ⟨cls, dd, data, sl⟩ := o
  obtain ⟨cls2, dd2, data2, sl2⟩ := o2
  simp only at hc hd hc2 hd2
  subst hc hd hc2 hd2
  refine richCompare_meets_room (op := .Lt) ⟨_, ho, rfl⟩ ⟨_, ho2, rfl⟩ F.slot_tuple_lt F.entry_tuple_lt (F.args_tuple_lt_2 _ _) (tuple_ltK l b items items2 n n2 dd dd2 sl sl2 xs ys k)
    ⟨ho, ho2, r, r2, e, fun x hx y u v p q => ?_, ih, (fun x => nomatch x), h⟩ (by omega)
  rw [NestedKey.decide_eq]
  have := depth_mem hx
  exact eqAt_key x y A.in1 s u v p.is q.is (by show A.units + 1 + min x.depth y.depth < cLine; omega)
end
end My

set_option Elab.async false
set_option linter.all false
set_option maxRecDepth 100000
set_option maxHeartbeats 2000000
namespace My
open PySem PySem.Spec PyProof.Rows L2 PySem.SeqAt
theorem depth_tup (xs : List NestedKey) : (NestedKey.tup xs).depth = NestedKey.depthAll xs + 1 := by rw [NestedKey.depth]
theorem rcLtN : ∀ (n : Nat) {x y : NestedKey} {A : Around} {s : Shared} {a b : Value} {k : Bool}, x.depth ≤ n → Ns s.heap x a → Ns s.heap y b → ltK x y = some k → A.units + n < cLine → RcLt A s a b k := by
  intro n
  induction n with
  | zero =>
    intro x y A s a b k hd p q e hu
    cases p with
    | none => cases q <;> simp [ltK] at e
    | int i t => cases q with
      | int j u => exact rcLt_num e
      | _ => simp [ltK] at e
    | text i t => cases q with
      | text j u => exact rcLt_text e
      | _ => simp [ltK] at e
    | tup _ _ _ _ => rw [depth_tup] at hd; omega
  | succ n ih =>
    intro x y A s a b k hd p q e hu
    cases p with
    | none => cases q <;> simp [ltK] at e
    | int i t => cases q with
      | int j u => exact rcLt_num e
      | _ => simp [ltK] at e
    | text i t => cases q with
      | text j u => exact rcLt_text e
      | _ => simp [ltK] at e
    | tup ho hc hdd r => cases q with
      | tup ho2 hc2 hd2 r2 =>
        rw [ltK] at e
        rw [depth_tup] at hd
        refine rcLt_tup ho hc hdd r ho2 hc2 hd2 r2 e (by omega) fun x hx y u v c p q ec => ?_
        have := depth_mem hx
        exact ih (by omega) p q ec (by show A.units + 1 + n < cLine; omega)
      | _ => simp [ltK] at e
def rLtN : R2 := fun x y H Q => ∃ (a b : NestedKey) (k : Bool), Nk H x a ∧ Nk H y b ∧ a.depth ≤ 50 ∧ ltK a b = some k ∧ Q (.bl k) H
theorem op_ltN {X : Cx} (hu : X.A.units + 64 < cLine) : OpR X (compareOp .Lt) rLtN := by
  intro pins s σ H x y v u Q I rx ry h
  obtain ⟨a, b, k, ha, hb, hd, e, q⟩ := h
  exact rcLtN 50 hd (ha.ns I rx) (hb.ns I ry) e (by omega) X.prog X.w _ _ ⟨.bl _, H, I, rfl, q⟩
end My

set_option Elab.async false
set_option linter.all false
set_option maxRecDepth 100000
set_option maxHeartbeats 2000000
/-! Sorting by keys that are tuples with a number first, the first place that differs decides. -/
namespace My
open PySem PySem.Spec PyProof.Rows L2 PySem.SeqAt PySem.W
abbrev toks (k : NestedKey) : List (Int ⊕ List Nat) := keyToks k.data
abbrev toksAll (ks : List NestedKey) : List (Int ⊕ List Nat) := keyToksAll (NestedKey.datas ks)
abbrev lexT (a b : List (Int ⊕ List Nat)) : Bool := PyProof.Rows.lexLt itemOrd a b
theorem toks_num (i : Int) : toks (.num i) = [.inl i] := by unfold toks; rw [NestedKey.data, keyToks]
theorem toks_text (x : Str) : toks (.text x) = [.inr x.cps.toList] := by unfold toks; rw [NestedKey.data, keyToks]
theorem toks_tup (ks : List NestedKey) : toks (.tup ks) = toksAll ks := by unfold toks toksAll; rw [NestedKey.data, keyToks]
theorem toksAll_nil : toksAll [] = [.inl 0] := by unfold toksAll; rw [NestedKey.datas, keyToksAll]
theorem toksAll_cons (k : NestedKey) (ks : List NestedKey) : toksAll (k :: ks) = .inl 1 :: (toks k ++ toksAll ks) := by unfold toks toksAll; rw [NestedKey.datas, keyToksAll]
theorem lexT_int {i j : Int} (ne : i ≠ j) (l m : List (Int ⊕ List Nat)) : lexT (.inl i :: l) (.inl j :: m) = decide (i < j) := by
  unfold lexT
  rw [lex_diff (O := itemOrd) (by intro z; cases z; exact ne rfl)]
  rfl
theorem lexT_str {x y : Str} (ne : x ≠ y) (l m : List (Int ⊕ List Nat)) : lexT (.inr x.cps.toList :: l) (.inr y.cps.toList :: m) = decide (x.cps.toList < y.cps.toList) := by
  have h1 := lex_atom (p := .inr x.cps.toList) (q := .inr y.cps.toList) (fun z => ne (str_of_cps (Sum.inr.inj z))) l m
  have h2 := dataLt_str x y
  unfold dataLt at h2
  simp only [keyToks] at h2
  exact h1.trans h2
mutual
theorem lex_key : ∀ (x y : NestedKey) (c : Bool) (l m : List (Int ⊕ List Nat)), x ≠ y → ltK x y = some c → lexT (toks x ++ l) (toks y ++ m) = c
  | .num i, .num j, c, l, m, ne, e => by
    rw [ltK] at e
    cases e
    rw [toks_num, toks_num]
    exact lexT_int (fun z => ne (by rw [z])) _ _
  | .text x, .text y, c, l, m, ne, e => by
    rw [ltK] at e
    cases e
    rw [toks_text, toks_text]
    exact lexT_str (fun z => ne (by rw [z])) _ _
  | .tup xs, .tup ys, c, l, m, ne, e => by
    rw [ltK] at e
    rw [toks_tup, toks_tup]
    exact lex_keys xs ys c l m (fun z => ne (by rw [z])) e
  | .none, y, c, l, m, ne, e => by cases y <;> simp [ltK] at e
  | .num i, .none, c, l, m, ne, e => by simp [ltK] at e
  | .num i, .text _, c, l, m, ne, e => by simp [ltK] at e
  | .num i, .tup _, c, l, m, ne, e => by simp [ltK] at e
  | .text i, .none, c, l, m, ne, e => by simp [ltK] at e
  | .text i, .num _, c, l, m, ne, e => by simp [ltK] at e
  | .text i, .tup _, c, l, m, ne, e => by simp [ltK] at e
  | .tup i, .none, c, l, m, ne, e => by simp [ltK] at e
  | .tup i, .num _, c, l, m, ne, e => by simp [ltK] at e
  | .tup i, .text _, c, l, m, ne, e => by simp [ltK] at e
theorem lex_keys : ∀ (xs ys : List NestedKey) (c : Bool) (l m : List (Int ⊕ List Nat)), xs ≠ ys → ltAll xs ys = some c → lexT (toksAll xs ++ l) (toksAll ys ++ m) = c
  | [], [], c, l, m, ne, e => absurd rfl ne
  | [], y :: ys, c, l, m, ne, e => by
    rw [ltAll] at e
    cases e
    rw [toksAll_nil, toksAll_cons]
    exact lexT_int (by decide) _ _
  | x :: xs, [], c, l, m, ne, e => by
    rw [ltAll] at e
    cases e
    rw [toksAll_nil, toksAll_cons]
    exact lexT_int (by decide) _ _
  | x :: xs, y :: ys, c, l, m, ne, e => by
    rw [ltAll] at e
    rw [toksAll_cons, toksAll_cons]
    show lexT (.inl 1 :: (toks x ++ toksAll xs ++ l)) (.inl 1 :: (toks y ++ toksAll ys ++ m)) = c
    unfold lexT
    rw [lex_self (O := itemOrd), List.append_assoc, List.append_assoc]
    by_cases h : x = y
    · rw [if_pos h] at e
      subst h
      rw [lex_pre]
      exact lex_keys xs ys c l m (fun z => ne (by rw [z])) e
    · rw [if_neg h] at e
      exact lex_key x y c _ _ h e
end
theorem ltAll_self : ∀ xs : List NestedKey, ltAll xs xs = some false
  | [] => by rw [ltAll]
  | x :: xs => by rw [ltAll, if_pos rfl, ltAll_self xs]
theorem lex_tup {xs ys : List NestedKey} {c : Bool} (e : ltAll xs ys = some c) : lexT (toks (.tup xs)) (toks (.tup ys)) = c := by
  rw [toks_tup, toks_tup]
  by_cases h : xs = ys
  · subst h
    rw [ltAll_self] at e
    cases e
    exact lex_irrefl _
  · have := lex_keys xs ys c [] [] h e
    rwa [List.append_nil, List.append_nil] at this
open Classical in
/-- the kind of keys that such things make in a heap -/
noncomputable def nkKind (h : Heap) (ks : List NestedKey) : PyProof.Rows.KeyKind where
  toKeyOrd := listOrd itemOrd
  keyOf v := if q : ∃ k, k ∈ ks ∧ Ns h k v then some (toks q.choose) else none
  dflt := ([] : List (Int ⊕ List Nat))
theorem nk_some {h : Heap} {ks : List NestedKey} {k : NestedKey} {v : Value} (hk : k ∈ ks) (hv : Ns h k v) : (nkKind h ks).keyOf v = some (toks k) := by
  have q : ∃ k, k ∈ ks ∧ Ns h k v := ⟨k, hk, hv⟩
  have e : (nkKind h ks).keyOf v = some (toks q.choose) := dif_pos q
  rw [e, NestedIs.inj _ _ _ q.choose_spec.2.is hv.is]
theorem nk_inv {h : Heap} {ks : List NestedKey} {v : Value} {t : List (Int ⊕ List Nat)} (e : (nkKind h ks).keyOf v = some t) : ∃ k, k ∈ ks ∧ Ns h k v ∧ t = toks k := by
  by_cases q : ∃ k, k ∈ ks ∧ Ns h k v
  · have e2 : (nkKind h ks).keyOf v = some (toks q.choose) := dif_pos q
    rw [e2] at e
    exact ⟨_, q.choose_spec.1, q.choose_spec.2, (Option.some.inj e).symm⟩
  · have e2 : (nkKind h ks).keyOf v = none := dif_neg q
    rw [e2] at e
    cases e
end My

set_option Elab.async false
set_option linter.all false
set_option maxRecDepth 100000
set_option maxHeartbeats 2000000
namespace My
open PySem PySem.Spec PyProof.Rows L2 PySem.SeqAt PySem.W
section
variable {prog : Program} {w : World} {A : Around} {E : Value → Shared → Prop} {s : Shared}
theorem one_ltN {f : Bool} {x y : NestedKey} {a b : Value} {c : Bool} {n : Nat} {Q : Bool → Shared → Prop} (hf : f = true → ∃ i, x = .num i) (p : Ns s.heap x a) (q : Ns s.heap y b) (e : ltK x y = some c) (hd : x.depth ≤ n) (hu : A.units + n < cLine) (hq : Q c s) :
    wpAny (model prog w) A (oneLt' f a b) Q E s := by
  cases f with
  | false =>
    rw [oneLt'_eq]
    simp only [Bool.false_eq_true, if_false]
    exact wpAny_bind (rcLtN n hd p q e hu prog w E _ (wpAny_truthy_bool hq))
  | true =>
    obtain ⟨i, rfl⟩ := hf rfl
    cases p
    cases q with
    | int j u =>
      rw [ltK] at e
      cases e
      exact oneLt_int hq
    | _ => simp [ltK] at e
theorem katLexN {b fin : Bool} {n : Nat} {Q : Bool → Shared → Prop} : ∀ (xs ys : List NestedKey) (i : Nat) (us vs : List Value) (c : Bool), NsAll s.heap xs us → NsAll s.heap ys vs → ltAll xs ys = some c → (∀ x ∈ xs, x.depth ≤ n) → A.units + n < cLine →
    (b = true → i = 0 → ∀ x r, xs = x :: r → ∃ j, x = .num j) → fin = decide (us.length < vs.length) → Q c s → KatLex prog w A b fin Q (us.zip vs) i s
  | [], [], i, _, _, c, .nil, .nil, e, _, _, _, hf, hq => by
    rw [ltAll] at e
    cases e
    subst hf
    exact kat_nil hq
  | [], y :: ys, i, _, _, c, .nil, .cons q qs, e, _, _, _, hf, hq => by
    rw [ltAll] at e
    cases e
    subst hf
    exact kat_nil (by simpa using hq)
  | x :: xs, [], i, _, _, c, .cons p ps, .nil, e, _, _, _, hf, hq => by
    rw [ltAll] at e
    cases e
    subst hf
    exact kat_nil (by simpa using hq)
  | x :: xs, y :: ys, i, _, _, c, .cons p ps, .cons q qs, e, hd, hu, hb, hf, hq => by
    rw [List.zip_cons_cons]
    have dx := hd x (.head _)
    refine kat_cons (eqAt_key x y A s _ _ p.is q.is (by omega) prog w _ _ ?_)
    rw [← NestedKey.decide_eq]
    rw [ltAll] at e
    by_cases h : x = y
    · rw [if_pos h] at e
      rw [decide_eq_true h]
      exact kat_yes (katLexN xs ys (i + 1) _ _ c ps qs e (fun z hz => hd z (.tail _ hz)) hu (fun _ hi => absurd hi (Nat.succ_ne_zero i)) (by rw [hf]; simp) hq)
    · rw [if_neg h] at e
      rw [decide_eq_false h]
      refine kat_no (one_ltN (n := n) (fun hb2 => ?_) p q e dx hu hq)
      rw [Bool.and_eq_true, beq_iff_eq] at hb2
      exact hb hb2.1 hb2.2 x xs rfl
theorem each_tups {h : Heap} : ∀ {vs : List Value} {ks : List NestedKey}, EachIs (fun v k => Ns h k v) vs ks → (∀ k ∈ ks, ∃ i r, k = .tup (.num i :: r)) → ∃ fs, KatTups h vs fs ∧ fs.length = vs.length ∧ ∀ f ∈ fs, ∃ i t, f = Value.int i t
  | _, _, .nil, _ => ⟨[], KatTups.nil, rfl, fun f hf => by cases hf⟩
  | _, _, .cons (b := k) p t, hk => by
    obtain ⟨fs, h1, h2, h3⟩ := each_tups t fun k hk2 => hk k (.tail _ hk2)
    obtain ⟨i, r, rfl⟩ := hk k (.head _)
    cases p with
    | @tup a o vs n _ ho hc hd hr =>
      cases q : vs.toList with
      | nil => rw [q] at hr; cases hr
      | cons f fr =>
        rw [q] at hr
        cases hr with
        | cons p1 p2 =>
          obtain ⟨u, rfl⟩ : ∃ u, f = Value.int i u := by cases p1; exact ⟨_, rfl⟩
          refine ⟨_ :: fs, KatTups.cons ho hc hd (by rw [← Array.getElem?_toList, q]; rfl) h1, by rw [List.length_cons, List.length_cons, h2], fun g hg => ?_⟩
          rcases List.mem_cons.mp hg with rfl | hg
          · exact ⟨_, _, rfl⟩
          · exact h3 g hg
theorem sortsN {vs : List Value} {ks : List NestedKey} {n : Nat} (e : EachIs (fun v k => Ns s.heap k v) vs ks) (hh : ∀ k ∈ ks, ∃ i r, k = .tup (.num i :: r)) (hc : ∀ k ∈ ks, ∀ k' ∈ ks, ∃ c, ltK k k' = some c) (hd : ∀ k ∈ ks, k.depth ≤ n) (hu : A.units + n < cLine) :
    SortsAt prog w A s (nkKind s.heap ks) vs := by
  refine ⟨fun v hv => ?_, tuples' ((Value.type "int") != Value.type "tuple"), ?_, fun h2 E Q hq => ?_⟩
  · obtain ⟨k, hk, p⟩ := e.left v hv
    exact ⟨_, nk_some hk p⟩
  · intro E x y a b Q ha hb hq
    obtain ⟨k, hk, p, rfl⟩ := nk_inv ha
    obtain ⟨k', hk', p', rfl⟩ := nk_inv hb
    obtain ⟨c, ec⟩ := hc k hk k' hk'
    have dk := hd k hk
    obtain ⟨i, r, rfl⟩ := hh k hk
    obtain ⟨i', r', rfl⟩ := hh k' hk'
    rw [depth_tup] at dk
    rw [ltK] at ec
    have hq : Q (lexT (toks (.tup (.num i :: r))) (toks (.tup (.num i' :: r')))) s := hq
    rw [lex_tup ec] at hq
    cases p with
    | tup h1 h2 h3 h4 =>
      cases p' with
      | tup k1 k2 k3 k4 =>
        refine kat_lt h1 h3 k1 k3 (katLexN (n := n) _ _ 0 _ _ c h4 k4 ec (fun x hx => ?_) hu (fun _ _ x r ex => ?_) (by simp) hq)
        · have := depth_mem hx
          omega
        · obtain ⟨rfl, rfl⟩ := List.cons.inj ex
          exact ⟨_, rfl⟩
  · obtain ⟨fs, t1, t2, t3⟩ := each_tups e hh
    refine kat_kind (T := Value.type "int") t1 (by omega) (fun f hf => ?_) (beq_self_eq_true _) hq
    obtain ⟨i, t, rfl⟩ := t3 f hf
    exact looks_reads (Reads.int i t)
end
end My

set_option Elab.async false
set_option linter.all false
set_option maxRecDepth 100000
set_option maxHeartbeats 2000000
/-! sorted(.., key=f), f a def of the text that tells a tuple of each item. -/
namespace My
open PySem PySem.Spec PyProof.Rows L2 PySem.SeqAt PySem.W
/-- a key's promise: F of the item's data, all else stays -/
def spKey (F : NestedKey → NestedKey) (C : NestedKey → Prop) : Sp := fun vs H Q _ => ∃ x k, vs = [x] ∧ Nk H x k ∧ C k ∧ ∀ v H', Same H H' → Nk H' v (F k) → Q v H'
/-- items with their data, by their keys -/
def leF (F : NestedKey → NestedKey) : V × NestedKey → V × NestedKey → Bool := sortLe (listOrd itemOrd) false fun b => toks (F b.2)
theorem zip_each : ∀ {xs : List V} {ks : List NestedKey} {vs : List Value}, Vals xs vs → xs.length = ks.length → EachIs (fun (v : Value) (b : V × NestedKey) => RelV b.1 v) vs (xs.zip ks)
  | [], [], _, .nil, _ => .nil
  | _ :: _, k :: ks, _, .cons r t, h => .cons r (zip_each t (by simpa using h))
theorem each_vals : ∀ {vs : List Value} {bs : List (V × NestedKey)}, EachIs (fun (v : Value) (b : V × NestedKey) => RelV b.1 v) vs bs → Vals (bs.map Prod.fst) vs
  | _, _, .nil => .nil
  | _, _, .cons r t => .cons r (each_vals t)
theorem each_snd {R : Value → NestedKey → Prop} : ∀ {vs : List Value} {xs : List V} {ks : List NestedKey}, EachIs R vs ks → xs.length = ks.length → EachIs (fun v (b : V × NestedKey) => R v b.2) vs (xs.zip ks)
  | _, [], [], .nil, _ => .nil
  | _, x :: xs, _ :: _, .cons r t, h => .cons r (each_snd t (by simpa using h))
section
variable {X : Cx} {pins : List (Addr × Obj)} {σ : L2.St} {H : Hp} {s : Shared} {f a : Addr} {fd : FuncData} {ps : List Str} {j n : Nat} {F : NestedKey → NestedKey} {C : NestedKey → Prop}
theorem Room.in2 {A : Around} (r : Room (j + 1) A) : Room j A.in1.in1 := ⟨r.hd, by have := r.dp; show A.depth + 3 * j + 5 < _; omega, by have := r.un; show A.units + 1 + 1 + 16 * j + 200 < _; omega⟩
/-- one call of the key, some objects of the sort's own pinned -/
theorem key_call (G : FnOk X.prog X.w X.K X.mg X.base CX0 j f fd ps (spKey F C)) (hr : Room (j + 1) X.A) (hb : Binds X.K fd ps []) (I : Inv X pins σ H s) {x : V} {v : Value} {k : NestedKey} (rv : RelV x v) (hx : Nk H x k) (hC : C k) {Q : Value → Shared → Prop} {E : Value → Shared → Prop}
    (h : ∀ u s' y H', Inv X pins σ H' s' → RelV y u → Same H H' → Nk H' y (F k) → Q u s') : wpAny (model X.prog X.w) X.A.in1.in1 (call (.ref f) [v]) Q E s := by
  have sp : spKey F C [x] H (fun y H' => Same H H' ∧ Nk H' y (F k)) E0 := ⟨x, k, rfl, hx, hC, fun y H' s1 n1 => ⟨s1, n1⟩⟩
  have hl : ([v] ++ ([] : List Value)).length = ps.length := by
    have := G.len _ _ _ _ sp
    simpa using this
  refine wpAny_call (codeAny_mono (G.run X.A.in1.in1 X.stack s H ⟨[v], []⟩ [v] [x] _ E0 (Room.in2 hr) I.env0.in1.in1 (hb s [v] I.kIn hl) (.cons rv .nil) sp) fun r s' hq => ?_)
  match r, hq with
  | .error e, hq => exact hq.elim
  | .ok (.ret u), hq =>
    obtain ⟨y, H', I', ry, s1, n1⟩ := I.after hq
    exact h u s' y H' I' ry s1 n1
end
end My

set_option Elab.async false
set_option linter.all false
set_option maxRecDepth 100000
set_option maxHeartbeats 2000000
namespace My
open PySem PySem.Spec PyProof.Rows L2 PySem.SeqAt PySem.W
theorem each_snocN {R : Value → NestedKey → Prop} {v : Value} {k : NestedKey} (h : R v k) : ∀ {vs : List Value} {ks : List NestedKey}, EachIs R vs ks → EachIs R (vs ++ [v]) (ks ++ [k])
  | _, _, .nil => .cons h .nil
  | _, _, .cons a t => .cons a (each_snocN h t)
section
variable {X : Cx} {pins : List (Addr × Obj)} {σ : L2.St} {H : Hp} {s : Shared} {f a : Addr} {fd : FuncData} {ps : List Str} {j n : Nat} {F : NestedKey → NestedKey} {C : NestedKey → Prop}
/-- a key's value, as it is known to the sort -/
def IsKey (H : Hp) (v : Value) (k : NestedKey) : Prop := ∃ x, Nk H x k ∧ RelV x v
theorem IsKey.at {H H' : Hp} {v : Value} {k : NestedKey} (h : IsKey H v k) (t : Tups H H') : IsKey H' v k := let ⟨x, a, b⟩ := h; ⟨x, a.at t, b⟩
theorem sort_key {xs : List V} {vs : List Value} {ks : List NestedKey} {P : PySem.Fin → Shared → Prop} {E : Value → Shared → Prop} (G : FnOk X.prog X.w X.K X.mg X.base CX0 j f fd ps (spKey F C)) (hr : Room (j + 1) X.A) (hb : Binds X.K fd ps [])
    (I : Inv X pins σ H s) (fa : FpOk X pins H a) (ho : s.heap.get? a = some (seqObj "list" vs.toArray n)) (rv : Vals xs vs) (hk : NkAll H xs ks) (hC : ∀ k ∈ ks, C k) (hh : ∀ k ∈ ks, ∃ i r, F k = .tup (.num i :: r))
    (hc : ∀ k ∈ ks, ∀ k' ∈ ks, ∃ c, ltK (F k) (F k') = some c) (hd : ∀ k ∈ ks, (F k).depth ≤ 50) (hz : vs.length ≤ sizeLine)
    (h : ∀ H' s', Same H H' → H' a = none → Inv X pins σ (upd H' a (.lst (((xs.zip ks).mergeSort (leF F)).map Prod.fst))) s' → P (.done (.ret .none)) s') :
    wpAny (model X.prog X.w) X.A.in1.in1 (ksk_tree a (.ref f) false) P E s := by
  have lk : xs.length = ks.length := hk.length
  have lv : xs.length = vs.length := rv.length
  unfold ksk_tree
  refine wpAny_bind (listItems_at ho rfl ?_)
  refine wpAny_bind (listUpdate_at ho rfl ?_ (by rw [List.size_toArray]; exact hz) (Nat.zero_le _))
  obtain ⟨e1, ho1⟩ : ∃ e1, (s.heap.update a (Obj.mapSeq fun _ => (#[] : Array Value))).get? a = some (seqObj "list" #[] e1) := ⟨_, get?_update_seq ho fun _ => #[]⟩
  have s1 := Heap.SameBut.update s.heap a (Obj.mapSeq fun _ => (#[] : Array Value))
  have I1 : Inv X pins σ H { s with heap := s.heap.update a (Obj.mapSeq fun _ => (#[] : Array Value)) } := I.turnedL (ch := [a]) (t' := s.toks) (fun b o hb e => (s1.2 b (fun z => hb (by simp [z]))).trans e) (fun b hb => by rw [List.mem_singleton.mp hb]; exact fa)
  generalize s.heap.update a (Obj.mapSeq fun _ => (#[] : Array Value)) = h1 at ho1 I1 ⊢
  refine wpAny_bind (seqEpoch_at ho1 rfl ?_)
  refine wpAny_bind (wpAny_newTuple ?_ (by show vs.length ≤ _; exact hz))
  refine wpAny_bind (wpAny_newList ?_ (Nat.zero_le _))
  refine wpAny_holding ?_
  show wpAny _ _ (ksk_rest a (.ref f) false vs.toArray e1 (.ref _)) _ _ { s with heap := (h1.push (seqObj "tuple" vs.toArray 0)).push (seqObj "list" #[] 0) }
  have I2 : Inv X pins σ H { s with heap := h1.push (seqObj "tuple" vs.toArray 0) } := I1.kept (t' := s.toks) fun b u e => Heap.get?_push_of_some _ e
  have I3 : Inv X pins σ H { s with heap := (h1.push (seqObj "tuple" vs.toArray 0)).push (seqObj "list" #[] 0) } := I2.kept (t' := s.toks) fun b u e => Heap.get?_push_of_some _ e
  have ho3 : ((h1.push (seqObj "tuple" vs.toArray 0)).push (seqObj "list" #[] 0)).get? a = some (seqObj "list" #[] e1) := Heap.get?_push_of_some _ (Heap.get?_push_of_some _ ho1)
  have hk3 : ((h1.push (seqObj "tuple" vs.toArray 0)).push (seqObj "list" #[] 0)).get? (h1.push (seqObj "tuple" vs.toArray 0)).objs.size = some (seqObj "list" #[] 0) := Heap.get?_push_size _ rfl
  have fk : FpOk X pins H (h1.push (seqObj "tuple" vs.toArray 0)).objs.size := I2.fpOk (Nat.le_refl _) (I2.hok.fresh (Nat.le_refl _))
  have hka : (h1.push (seqObj "tuple" vs.toArray 0)).objs.size ≠ a := fun z => by
    have := Heap.lt_size (Heap.get?_push_of_some (seqObj "tuple" vs.toArray 0) ho1)
    rw [← z] at this
    exact Nat.lt_irrefl _ this
  generalize (h1.push (seqObj "tuple" vs.toArray 0)).push (seqObj "list" #[] 0) = h3 at I3 ho3 hk3 ⊢
  generalize (h1.push (seqObj "tuple" vs.toArray 0)).objs.size = kS at hk3 fk hka ⊢
  clear I1 I2 ho1 s1
  unfold ksk_rest
  refine wpAny_bind (wpAny_rule ?_)
  rw [List.forIn_toArray]
  refine wpAny_bind (ksk_fold (fun i s' => ∃ H' kA e, Inv X pins σ H' s' ∧ Same H H' ∧ H' a = none ∧ H' kS = none ∧ s'.heap.get? kS = some (seqObj "list" kA e) ∧ s'.heap.get? a = some (seqObj "list" #[] e1) ∧ EachIs (IsKey H') kA.toList ((ks.map F).take i)) vs 0 _
    ⟨H, #[], 0, I3, Same.refl _, fa.1, fk.1, hk3, ho3, by rw [List.take_zero]; exact EachIs.nil⟩ ?step ?done)
  case step =>
    rintro i v s' hv ⟨H', kA, e, I', sm, na, nk, gk, ga, ek⟩
    simp only [Nat.zero_add] at ek ⊢
    have hi : i < vs.length := (List.getElem?_eq_some_iff.mp hv).1
    have hxi : xs[i]? = some xs[i] := List.getElem?_eq_getElem (by omega)
    obtain ⟨k, hki, nkx⟩ := hk.get hxi
    obtain ⟨v2, hv2, rx⟩ := rv.get hxi
    obtain rfl : v2 = v := Option.some.inj (hv2.symm.trans hv)
    have szA : kA.size ≤ vs.length := by
      have h1 := ek.length
      rw [Array.length_toList, List.length_take, List.length_map] at h1
      omega
    have Ip := I'.pinned (fp := [a, kS]) (fun b hb => by
      rcases List.mem_cons.mp hb with rfl | hb
      · exact ⟨na, fa.2⟩
      · rw [List.mem_singleton.mp hb]; exact ⟨nk, fk.2⟩) (fun b hb => by
      rcases List.mem_cons.mp hb with rfl | hb
      · exact ⟨_, ga, fun v z => by cases z⟩
      · rw [List.mem_singleton.mp hb]; exact ⟨_, gk, fun v z => by cases z⟩)
    refine wpAny_bind (wpAny_attempt (key_call G hr hb Ip rx (nkx.at (.same sm)) (hC k (List.mem_of_getElem? hki)) fun u s2 y H2 I2 ry sm2 ny => ?_))
    have pa := I2.pin (a, seqObj "list" #[] e1) (List.mem_append_right _ (List.mem_append_right _ (mem_pinsAt (by simp) ga)))
    have pk := I2.pin (kS, seqObj "list" kA e) (List.mem_append_right _ (List.mem_append_right _ (mem_pinsAt (by simp) gk)))
    have I2 := I2.unpinned
    try dsimp only
    have s3 := Heap.SameBut.update s2.heap kS (Obj.mapSeq (·.push u))
    obtain ⟨c2, hc2⟩ : ∃ c2, (s2.heap.update kS (Obj.mapSeq (·.push u))).get? kS = some (seqObj "list" (kA.push u) c2) := ⟨_, get?_update_seq pk.1 (·.push u)⟩
    refine wpAny_bind (listUpdate_at pk.1 rfl ?_ (Nat.le_trans szA hz) (by rw [Array.size_push]; omega))
    refine wpAny_pure ⟨rfl, H2, kA.push u, c2, ?_, sm.trans sm2, pa.2.1, pk.2.1, hc2, (s3.2 a hka.symm).trans pa.1, ?_⟩
    · exact I2.turnedL (ch := [kS]) (t' := s2.toks) (fun b o hb e => (s3.2 b (fun z => hb (by simp [z]))).trans e) (fun b hb => by rw [List.mem_singleton.mp hb]; exact ⟨pk.2.1, fk.2⟩)
    · have e2 : (ks.map F).take (i + 1) = (ks.map F).take i ++ [F k] := by
        rw [List.take_add_one, List.getElem?_map, hki]
        rfl
      rw [e2, Array.toList_push]
      exact each_snocN ⟨y, ny, ry⟩ (ek.mono fun v k q => q.at (.same sm2))
  case done =>
    rintro s' ⟨H', kA, e, I', sm, na, nk, gk, ga, ek⟩
    rw [List.take_of_length_le (by rw [List.length_map]; omega)] at ek
    have szA : kA.size = vs.length := by
      have h1 := ek.length
      rw [Array.length_toList, List.length_map] at h1
      omega
    refine wpAny_bind (listItems_at gk rfl ?_)
    have en : EachIs (fun v k => Ns s'.heap k v) kA.toList (ks.map F) := ek.mono fun v k q => let ⟨x, a, b⟩ := q; a.ns I' b
    have mem : ∀ {k : NestedKey}, k ∈ ks.map F → ∃ k0, k0 ∈ ks ∧ F k0 = k := fun h => List.mem_map.mp h
    have S : SortsAt X.prog X.w X.A.in1.in1 s' (nkKind s'.heap (ks.map F)) kA.toList := sortsN (n := 50) en
      (fun k hk => by obtain ⟨k0, h0, rfl⟩ := mem hk; exact hh k0 h0)
      (fun k hk k' hk' => by obtain ⟨k0, h0, rfl⟩ := mem hk; obtain ⟨k1, h1, rfl⟩ := mem hk'; exact hc k0 h0 k1 h1)
      (fun k hk => by obtain ⟨k0, h0, rfl⟩ := mem hk; exact hd k0 h0) (by have := hr.un; show X.A.units + 1 + 1 + 50 < cLine; omega)
    have hid : (hideAll s'.heap [kS]).get? kS = none := hideAll_none _ (by simp)
    have kp : KeepsBut a (hideAll s'.heap [kS]) s'.heap := fun b o _ q => of_hideAll _ q
    refine keyH_end (κ := nkKind s'.heap (ks.map F)) (b := false) (vs := vs) (h₁ := hideAll s'.heap [kS]) kp hid gk ga hka S szA hz fun h4 tk c k4 n4 => ?_
    have out := sortVals_each (κ := nkKind s'.heap (ks.map F)) (rev := false) (R := fun (v : Value) (b : V × NestedKey) => RelV b.1 v) (ks := kA.toList) (vs := vs) (bs := xs.zip ks) (fun b => toks (F b.2)) (zip_each rv lk) (by
      have e3 : EachIs (fun v k => (nkKind s'.heap (ks.map F)).keyOf v = some (toks (F k))) kA.toList ks := each_of_map F ((each_mem en).mono fun v k q => nk_some q.2 q.1)
      exact each_snd e3 lk)
    have keep : ∀ b o, b ∉ [a, kS] → s'.heap.get? b = some o → h4.get? b = some o := fun b o nb q => k4 b o (fun z => nb (by simp [z])) (hideAll_get _ q fun z => nb (by simp [List.mem_singleton.mp z]))
    have I4 : Inv X pins σ H' { s' with heap := hideAll s'.heap [], toks := s'.toks } := I'
    refine h H' _ sm na ?_
    have rel : Vals (((xs.zip ks).mergeSort (leF F)).map Prod.fst) (sortVals (nkKind s'.heap (ks.map F)) false kA.toList vs) := each_vals out
    have lo : (((xs.zip ks).mergeSort (leF F)).map Prod.fst).length ≤ sizeLine := by
      rw [List.length_map, List.length_mergeSort, List.length_zip]
      omega
    have I5 : Inv X pins σ H' { s' with heap := h4, toks := tk } := by
      refine I'.turnedL (ch := [a, kS]) (t' := tk) keep fun b hb => ?_
      rcases List.mem_cons.mp hb with rfl | hb
      · exact ⟨na, fa.2⟩
      · rw [List.mem_singleton.mp hb]; exact ⟨nk, fk.2⟩
    exact I5.take (t' := tk) (fun b ob _ e => e) ⟨na, fa.2⟩ ⟨lo, _, c, rel, n4⟩
end
end My

set_option Elab.async false
set_option linter.all false
set_option maxRecDepth 100000
set_option maxHeartbeats 2000000
/-! Dicts whose keys are tuples of numbers, texts and such tuples, all values True. -/
namespace My
open PySem PySem.Spec PyProof.Rows L2 PySem.SeqAt PySem.W
def tri (xs : List (NestedKey × Addr)) : List (NestedKey × Addr × Value) := xs.map fun p => (p.1, p.2, Value.bool true)
def NDraw (P : Program) (w : World) (d : Addr) (xs : List (NestedKey × Addr)) (h : Heap) : Prop :=
  ∃ o es ep, h.get? d = some o ∧ o.ExactDict ∧ o.data = .dict es ep ∧ es.toList = (tri xs).map (entryOfKey (nestedKind P w)) ∧ ((tri xs).map (·.1)).Nodup ∧ (d == sysModules) = false
/-- such a dict -/
def ND (P : Program) (w : World) (d : Addr) (xs : List (NestedKey × Addr)) : HO := .ext (NDraw P w d xs)
/-- such a dict (of none, too), its keys there -/
def NdAt (P : Program) (w : World) (H : Hp) (d : Addr) (xs : List (NestedKey × Addr)) : Prop := (H d = some (ND P w d xs) ∨ (xs = [] ∧ H d = some (.dK []))) ∧ ∀ p ∈ xs, Nk H (.ref p.2) p.1 ∧ p.1.depth ≤ 8
def putN (xs : List (NestedKey × Addr)) (k : NestedKey) (a : Addr) : List (NestedKey × Addr) := if k ∈ xs.map (·.1) then xs else xs ++ [(k, a)]
theorem tri_keys (xs : List (NestedKey × Addr)) : (tri xs).map (·.1) = xs.map (·.1) := by
  unfold tri
  rw [List.map_map]
  rfl
theorem atKey_some {xs : List (NestedKey × Addr)} {k : NestedKey} : (atKey (tri xs) k).isSome = decide (k ∈ xs.map (·.1)) := by
  induction xs with
  | nil => rfl
  | cons p xs ih =>
    unfold tri atKey at *
    rw [List.map_cons, List.find?_cons]
    by_cases e : p.1 = k
    · subst e
      simp
    · have e2 : ¬ k = p.1 := fun z => e z.symm
      simp only [decide_eq_false e]
      rw [ih, List.map_cons]
      simp [List.mem_cons, e2]
theorem stored_tri (xs : List (NestedKey × Addr)) (k : NestedKey) (a : Addr) : storedH (tri xs) k a (.bool true) = tri (putN xs k a) := by
  unfold storedH putN
  rw [atKey_some]
  by_cases e : k ∈ xs.map (·.1)
  · rw [decide_eq_true e, if_pos rfl, if_pos e]
    unfold tri
    rw [List.map_map]
    refine List.map_congr_left fun p _ => ?_
    show putAt k (Value.bool true) (p.1, p.2, Value.bool true) = _
    unfold putAt
    split <;> rfl
  · rw [decide_eq_false e, if_neg Bool.false_ne_true, if_neg e]
    unfold tri
    rw [List.map_append]
    rfl
section
variable {X : Cx} {pins : List (Addr × Obj)} {σ : L2.St} {H : Hp} {s : Shared} {d : Addr} {xs : List (NestedKey × Addr)}
theorem nd_full (I : Inv X pins σ H s) (h : NdAt X.prog X.w H d xs) : s.heap.DictOfH (nestedKind X.prog X.w) d (tri xs) ∧ (d == sysModules) = false := by
  have keys : ∀ x ∈ tri xs, (nestedKind X.prog X.w).is s.heap x.1 x.2.1 := fun x hx => by
    obtain ⟨p, hp, rfl⟩ := List.mem_map.mp hx
    exact ⟨(h.2 p hp).1.is I rfl, (h.2 p hp).2⟩
  rcases h.1 with e | ⟨rfl, e⟩
  · obtain ⟨⟨o, es, ep, h1, h2, h3, h4, h5, h6⟩, _⟩ := (show ObjOk X.prog X.w H s.heap d (ND X.prog X.w d xs) from I.hok d _ e)
    exact ⟨⟨o, es, ep, h1, h2, h3, h4, keys, h5⟩, h6⟩
  · obtain ⟨z, hd, vs, rel, o, es, ep, h1, h2, h3, h4⟩ := (show ObjOk X.prog X.w H s.heap d (.dK []) from I.hok d _ e)
    cases rel
    have e0 : es.toList = [] := by
      have := h4.2.1
      cases q : es.toList with
      | nil => rfl
      | cons a b => rw [q] at this; cases this
    exact ⟨⟨o, es, ep, h1, h2, h3, e0, keys, List.nodup_nil⟩, hd⟩
theorem nd_new {P : Program} {w : World} {H : Hp} {h : Heap} (m : h.DictOfH (nestedKind P w) d (tri xs)) (hd : (d == sysModules) = false) : ObjOk P w H h d (ND P w d xs) := by
  obtain ⟨o, es, ep, h1, h2, h3, h4, _, h5⟩ := m
  refine ⟨⟨o, es, ep, h1, h2, h3, h4, h5, hd⟩, ⟨o, h1⟩, ?_⟩
  rintro g1 g2 ⟨o, es, ep, k1, k2⟩ up
  exact ⟨o, es, ep, up o k1, k2⟩
theorem nd_mut {P : Program} {w : World} {H : Hp} (h : NdAt P w H d xs) : Mut (H d) := by
  rcases h.1 with e | ⟨_, e⟩ <;> rw [e] <;> trivial
/-- behind d[k] = True -/
theorem nd_put {P : Program} {w : World} {H : Hp} {a : Addr} {k : NestedKey} (h : NdAt P w H d xs) (hk : Nk H (.ref a) k) (hd : k.depth ≤ 8) (nd : ∀ ys, H d ≠ some (.tup ys)) : NdAt P w (upd H d (ND P w d (putN xs k a))) d (putN xs k a) := by
  have t : Tups H (upd H d (ND P w d (putN xs k a))) := fun b ys e => by
    rw [upd_ne (fun z => nd ys (by rw [← z]; exact e))]
    exact e
  refine ⟨.inl upd_same, fun p hp => ?_⟩
  unfold putN at hp
  split at hp
  · exact ⟨(h.2 p hp).1.at t, (h.2 p hp).2⟩
  · rcases List.mem_append.mp hp with hp | hp
    · exact ⟨(h.2 p hp).1.at t, (h.2 p hp).2⟩
    · rw [List.mem_singleton.mp hp]
      exact ⟨hk.at t, hd⟩
theorem nd_ntup {P : Program} {w : World} {H : Hp} (h : NdAt P w H d xs) : ∀ ys, H d ≠ some (.tup ys) := fun ys z => by
  rcases h.1 with e | ⟨_, e⟩
  · rw [e] at z; cases z
  · rw [e] at z; cases z
theorem nd_dictSet {A : Around} {a : Addr} {k : NestedKey} {E : Value → Shared → Prop} {Q : Unit → Shared → Prop} (hu : A.units + 8 < cLine) (I : Inv X pins σ H s) (h : NdAt X.prog X.w H d xs) (hk : Nk H (.ref a) k) (hd : k.depth ≤ 8) (hz : xs.length < sizeLine)
    (q : ∀ s', Inv X pins σ (upd H d (ND X.prog X.w d (putN xs k a))) s' → Q () s') : wpAny (model X.prog X.w) A (dictSet d (.ref a) (.bool true)) Q E s := by
  obtain ⟨m, hs⟩ := nd_full I h
  refine wpAny_dictSet_heap (knd := nestedKind X.prog X.w) (hsz := by unfold tri; rw [List.length_map]; omega) hu ⟨hk.is I rfl, hd⟩ m fun h' m' sb => q _ ?_
  rw [stored_tri] at m'
  have he : ∃ o, h'.get? d = some o := let ⟨o, _, _, g, _⟩ := m'; ⟨o, g⟩
  exact d_write I (nd_mut h) sb he (nd_new m' hs)
theorem nd_setItem {A : Around} {a : Addr} {k : NestedKey} {E : Value → Shared → Prop} {Q : Unit → Shared → Prop} (hu : A.units + 9 < cLine) (I : Inv X pins σ H s) (h : NdAt X.prog X.w H d xs) (hk : Nk H (.ref a) k) (hd : k.depth ≤ 8) (hz : xs.length < sizeLine)
    (q : ∀ s', Inv X pins σ (upd H d (ND X.prog X.w d (putN xs k a))) s' → Q () s') : wpAny (model X.prog X.w) A (setItem (.ref d) (.ref a) (.bool true)) Q E s := by
  obtain ⟨m, hs⟩ := nd_full I h
  refine wpAny_setItem_heap (knd := nestedKind X.prog X.w) (hsz := by unfold tri; rw [List.length_map]; omega) (by show A.units + 1 + 8 < cLine; omega) ⟨hk.is I rfl, hd⟩ m fun h' m' sb => q _ ?_
  rw [stored_tri] at m'
  have he : ∃ o, h'.get? d = some o := let ⟨o, _, _, g, _⟩ := m'; ⟨o, g⟩
  exact d_write I (nd_mut h) sb he (nd_new m' hs)
end
section
variable {X : Cx} {o i value : Expr} {td ty tv : TE} {pos pos' : Pos}
/-- d[k] = True -/
def sDPutN (P : Program) (w : World) (td ty tv : TE) : TS := fun D σ H => tv σ H fun v H1 => td σ H1 fun x H2 => ty σ H2 fun y H3 => ∃ d a k xs, v = .bl true ∧ x = .ref d ∧ y = .ref a ∧ NdAt P w H3 d xs ∧ Nk H3 (.ref a) k ∧ k.depth ≤ 8 ∧ xs.length < sizeLine ∧ D.nx σ (upd H3 d (ND P w d (putN xs k a)))
theorem ps_dputN (hu : X.A.units + 64 < cLine) (ho : PE X o td) (hi : PE X i ty) (hv : PE X value tv) (hs : swapsWith value (some (.Subscript o i pos')) pos.line X.env = pure false) : PS X (.Assign [.Subscript o i pos'] value pos) (sDPutN X.prog X.w td ty tv) := by
  constructor
  intro pins s σ H D I h
  refine wpAny_Assign_Subscript (thn (hv.run pins s σ H _ I h) ?_) hs
  rintro r s1 ⟨v, H1, I1, rv, q1⟩
  refine thn (ho.run pins s1 σ H1 _ I1 q1) ?_
  rintro u s2 ⟨x, H2, I2, rx, q2⟩
  refine thn (hi.run pins s2 σ H2 _ I2 q2) ?_
  rintro iv s3 ⟨y, H3, I3, ry, d, a, k, xs, rfl, rfl, rfl, hn, hk, hd, hz, q3⟩
  cases rv
  cases rx
  cases ry
  exact nd_setItem (by omega) I3 hn hk hd hz fun s4 I4 => ⟨σ, _, I4, q3⟩
/-- k in d, k not in d -/
def rInD (P : Program) (w : World) (neg : Bool) : R2 := fun x y H Q => ∃ d a k xs, x = .ref a ∧ y = .ref d ∧ NdAt P w H d xs ∧ Nk H (.ref a) k ∧ k.depth ≤ 8 ∧ Q (.bl (if neg then !decide (k ∈ xs.map (·.1)) else decide (k ∈ xs.map (·.1)))) H
theorem op_inD (hu : X.A.units + 64 < cLine) : OpR X (compareOp .In) (rInD X.prog X.w false) := by
  intro pins s σ H x y v u Q I rx ry h
  obtain ⟨d, a, k, xs, rfl, rfl, hn, hk, hd, q⟩ := h
  cases rx
  cases ry
  obtain ⟨m, hs⟩ := nd_full I hn
  refine wpAny_in_heap (knd := nestedKind X.prog X.w) (by show X.A.units + 1 + 8 < cLine; omega) ⟨hk.is I rfl, hd⟩ hs m ⟨.bl _, H, I.tok _, rfl, ?_⟩
  rw [atKey_some]
  exact q
theorem op_notInD (hu : X.A.units + 64 < cLine) : OpR X (compareOp .NotIn) (rInD X.prog X.w true) := by
  intro pins s σ H x y v u Q I rx ry h
  obtain ⟨d, a, k, xs, rfl, rfl, hn, hk, hd, q⟩ := h
  cases rx
  cases ry
  obtain ⟨m, hs⟩ := nd_full I hn
  refine notIn_keyed (knd := nestedKind X.prog X.w) (by show X.A.units + 1 + 8 < cLine; omega) ⟨hk.is I rfl, hd⟩ hs ⟨_, m, rfl⟩ ⟨.bl _, H, I.tok _, rfl, ?_⟩
  rw [valueAt_pairsH, Option.isSome_map, atKey_some]
  exact q
end
end My

set_option Elab.async false
set_option linter.all false
set_option maxRecDepth 100000
set_option maxHeartbeats 2000000
namespace My
open PySem PySem.Spec PyProof.Rows L2 PySem.SeqAt PySem.W
theorem kdl_rawD {prog : Program} {w : World} {d : Addr} {es : Array DictEntry} {ep : Nat} (lo : (d == sysModules) = false) : KdlSrc prog w "dict" d d es.size (fun i v => ∃ hi : i < es.size, v = es[i].key) (fun h => h.DictRaw d es ep) where
  type := fun _ hm => hm.typeIs
  there := fun h hm => let ⟨o, ho, _⟩ := hm; ⟨Heap.lt_size ho, Heap.lt_size ho⟩
  keep := fun _ _ hm hk => hm.at fun o e => hk d (.inl rfl) o e
  notList := by decide
  notTuple := by decide
  hint := fun _ _ _ _ hm hq => kdl_hint_dict hm.typeIs hq
  iter := fun _ s hh hm => by
    obtain ⟨o, ho, _⟩ := id hm
    exact ⟨_, _, (fun _ _ hq => wpAny_pyIter_dict_raw lo hm hq), Walks.rawKeys hh _ d (Nat.ne_of_lt (Heap.lt_size ho)) es ep, ⟨⟨_, Heap.get?_push_size _ rfl, rfl, rfl⟩, hm.at fun o e => Heap.get?_push_of_some _ e⟩⟩
/-- what sorted tells of such a dict's keys -/
def sortD (F : NestedKey → NestedKey) (xs : List (NestedKey × Addr)) : List V := (((xs.map fun p => V.ref p.2).zip (xs.map (·.1))).mergeSort (leF F)).map Prod.fst
theorem vals_refs : ∀ {xs : List (NestedKey × Addr)} {us : List Value}, us.length = xs.length → (∀ (j : Nat) (v : Value), us[j]? = some v → ∃ p : NestedKey × Addr, xs[j]? = some p ∧ v = Value.ref p.2) → Vals (xs.map fun p => V.ref p.2) us
  | [], [], _, _ => .nil
  | p :: xs, u :: us, hl, h => by
    refine .cons ?_ (vals_refs (by simpa using hl) fun j v e => h (j + 1) v (by simpa using e))
    obtain ⟨q, e, e2⟩ := h 0 u rfl
    cases e
    exact e2
theorem nk_refs {H : Hp} : ∀ {xs : List (NestedKey × Addr)}, (∀ p ∈ xs, Nk H (.ref p.2) p.1) → NkAll H (xs.map fun p => V.ref p.2) (xs.map (·.1))
  | [], _ => .nil
  | p :: xs, h => .cons (h p (.head _)) (nk_refs fun q hq => h q (.tail _ hq))
section
variable {X : Cx} {f : Addr} {fd : FuncData} {ps : List Str} {j : Nat} {F : NestedKey → NestedKey} {C : NestedKey → Prop}
def rSortD (P : Program) (w : World) (f : Addr) (F : NestedKey → NestedKey) (C : NestedKey → Prop) : List V → List V → Hp → VK → Prop := fun vs zs H Q => ∃ (d : Addr) (xs : List (NestedKey × Addr)), vs = [.ref d] ∧ zs = [.ref f] ∧ NdAt P w H d xs ∧ (∀ p ∈ xs, C p.1) ∧
  (∀ p ∈ xs, ∃ i r, F p.1 = .tup (.num i :: r)) ∧ (∀ p ∈ xs, ∀ q ∈ xs, ∃ c, ltK (F p.1) (F q.1) = some c) ∧ (∀ p ∈ xs, (F p.1).depth ≤ 50) ∧ xs.length ≤ sizeLine ∧ ∀ H' p, Same H H' → H' p = none → H p = none → Q (.ref p) (upd H' p (.lst (sortD F xs)))
theorem cr_sortD (hcalm : X.calm = true) (G : FnOk X.prog X.w X.K X.mg X.base CX0 j f fd ps (spKey F C)) (hr : Room (j + 1) X.A) (hb : Binds X.K fd ps []) : CallRK X (.builtin "sorted") [Str.ofString "key"] (rSortD X.prog X.w f F C) := by
  intro pins s σ H vs zs us ws Q I r1 r2 h
  obtain ⟨d, xs, rfl, rfl, hn, hC, hh, hc, hd, hz, q⟩ := h
  obtain ⟨u, rfl, ru⟩ := vals1 r1
  obtain ⟨u2, rfl, ru2⟩ := vals1 r2
  cases ru
  cases ru2
  obtain ⟨m, lo⟩ := nd_full I hn
  obtain ⟨o, es, ep, g1, g2, g3, g4, g5, g6⟩ := m
  have hes : es.size = xs.length := by rw [← Array.length_toList, g4, List.length_map]; unfold tri; rw [List.length_map]
  show wpAny _ _ (call (.builtin "sorted") [.ref d] [(Str.ofString "key", .ref f)]) _ _ _
  refine call_function_entry_kw kind_sorted plain_sorted entry_sorted (ksk_s1 _ _) ?_
  unfold Builtin.«sorted»
  refine wpAny_bind (m := checkCount "sorted" 1 1 _) (wpAny_pure ?_)
  refine wpAny_bind (kdu_collect (A := X.A.in1) (kdl_rawD (es := es) (ep := ep) lo) (I.ok.hd hcalm) ⟨o, g1, g2, g3⟩ (by omega) fun h' tk acc hk hacc => ?_)
  have rv : Vals (xs.map fun p => V.ref p.2) acc.toList := vals_refs (by rw [Array.length_toList, hacc.1, hes]) fun i v e => by
    obtain ⟨hi, rfl⟩ := hacc.2 i v (by rw [← Array.getElem?_toList]; exact e)
    have hx : i < xs.length := by omega
    refine ⟨xs[i], List.getElem?_eq_getElem hx, ?_⟩
    have e2 : es[i]? = some es[i] := Array.getElem?_eq_getElem hi
    rw [← Array.getElem?_toList, g4, List.getElem?_map] at e2
    unfold tri at e2
    rw [List.getElem?_map, List.getElem?_eq_getElem hx] at e2
    rw [← Option.some.inj e2]
    rfl
  have la : acc.toList.length ≤ sizeLine := by rw [Array.length_toList, hacc.1]; omega
  have I1 : L2.Inv X pins σ H { s with heap := h', toks := tk } := I.kept hk
  refine wpAny_bind (wpAny_newList ?_ la)
  show wpAny _ _ _ _ _ { s with heap := h'.push (seqObj "list" acc.toList.toArray 0), toks := tk }
  have I2 : L2.Inv X pins σ H { s with heap := h'.push (seqObj "list" acc.toList.toArray 0), toks := tk } := I1.kept (t' := tk) fun b u e => Heap.get?_push_of_some _ e
  have hoL : (h'.push (seqObj "list" acc.toList.toArray 0)).get? h'.objs.size = some (seqObj "list" acc.toList.toArray 0) := Heap.get?_push_size _ rfl
  have fresh : H h'.objs.size = none := I1.hok.fresh (Nat.le_refl _)
  have fp : FpOk X pins H h'.objs.size := I1.fpOk (Nat.le_refl _) fresh
  refine wpAny_bind (wpAny_holding (wpAny_call_entry_kw slot_list_sort ⟨_, hoL, rfl⟩ entry_list_sort ?_ (ksk_l1 _ _)))
  rw [ksk_t1]
  have mem : ∀ {k : NestedKey}, k ∈ xs.map (·.1) → ∃ p, p ∈ xs ∧ p.1 = k := fun h => List.mem_map.mp h
  refine sort_key (X := X) (pins := pins) (σ := σ) (H := H) (s := { s with heap := h'.push (seqObj "list" acc.toList.toArray 0), toks := tk }) G hr hb I2 fp hoL rv (nk_refs fun p hp => (hn.2 p hp).1)
    (fun k hk => by obtain ⟨p, hp, rfl⟩ := mem hk; exact hC p hp) (fun k hk => by obtain ⟨p, hp, rfl⟩ := mem hk; exact hh p hp)
    (fun k hk k' hk' => by obtain ⟨p, hp, rfl⟩ := mem hk; obtain ⟨p2, hp2, rfl⟩ := mem hk'; exact hc p hp p2 hp2) (fun k hk => by obtain ⟨p, hp, rfl⟩ := mem hk; exact hd p hp) la fun H' s' sm nh I3 => ?_
  exact ⟨_, rfl, wpAny_pure ⟨_, rfl, .ref h'.objs.size, _, I3, rfl, q H' _ sm nh fresh⟩⟩
end
end My

set_option Elab.async false
set_option linter.all false
set_option maxRecDepth 100000
set_option maxHeartbeats 2000000
/-! {k: True for .. in ..}, k a tuple of numbers, texts and such tuples. -/
namespace My
open PySem PySem.Spec PyProof.Rows L2 PySem.SeqAt PySem.W
section
variable {X : Cx}
def DcStep (P : Program) (w : World) (J : It) (g : TG) (tt : TT) (tk tv : TE) (vs : List Nat) (σ : L2.St) (D : Addr) (Qd : Hp → Prop) (W : Nat → Nat → Hp → Prop) (i m : Nat) (H : Hp) : Prop :=
  (J.stop i H ∧ Qd H) ∨ (J.go i H ∧ ∃ Nx : Hp → Prop, (∀ H', Nx H' → ∃ m', m' < m ∧ W (i + 1) m' H') ∧ ∀ x H', J.yld i H x H' →
    g x (wipe σ vs) H' fun σ2 H2 => wipe σ2 vs = wipe σ vs ∧ tt σ2 H2 fun b H3 => if b = true then tk σ2 H3 fun y H4 => tv σ2 H4 fun z H5 =>
      ∃ a k xs, y = .ref a ∧ z = .bl true ∧ NdAt P w H5 D xs ∧ Nk H5 (.ref a) k ∧ k.depth ≤ 8 ∧ xs.length < sizeLine ∧ Nx (upd H5 D (ND P w D (putN xs k a))) else Nx H3)
def tDcN (P : Program) (w : World) (wi : TI) (g : TG) (tt : TT) (tk tv : TE) (vs : List Nat) : TE := fun σ H Q => wi σ H fun J H1 => ∀ D, H1 D = none →
  ∃ W : Nat → Nat → Hp → Prop, (∃ m, W 0 m (upd H1 D (.dK []))) ∧ ∀ i m H', W i m H' → DcStep P w J g tt tk tv vs σ D (fun H2 => Q (.ref D) H2) W i m H'
abbrev Blk (X : Cx) (scope : Scope) (s : Shared) (H : Hp) (C : Addr) (cl : List (Str × Addr)) (fp : List Addr) : Cx := X.blk s H scope (compEnvC scope cl C X.env) fp
theorem dcN_core {pins : List (Addr × Obj)} {s : Shared} {σ : L2.St} {H : Hp} {Q : VK} {kx vx tg iter : Expr} {ifs : List Expr} {scope : Scope} {own : List (Str × Nat)} {pos pos' : Pos} {wi : TI} {g : TG} {tt : TT} {tk tv : TE} {use : Option (Value → Sem Unit)} {Qf : Value → Shared → Prop}
    (hu : X.A.units + 64 < cLine) (calm : X.calm = true) (nd : X.N.Nodup) (I : L2.Inv X pins σ H s) (hi : PI X tg iter wi) (ok : BlkOk X.N X.env.scope scope own)
    (hg : ∀ s H C cl fp, PG (Blk X scope s H C cl fp) tg g) (ht : ∀ s H C cl fp, PTs (Blk X scope s H C cl fp) ifs tt) (hk : ∀ s H C cl fp, PE (Blk X scope s H C cl fp) kx tk) (hv : ∀ s H C cl fp, PE (Blk X scope s H C cl fp) vx tv)
    (fold : ∀ x, foldedSetIterable iter X.env x = pure x) (h : tDcN X.prog X.w wi g tt tk tv (own.map (·.2)) σ H Q)
    (back : ∀ D C s' m H', L2.Inv X pins σ H' s' → Q (.ref D) H' → s'.heap.Ns C m → FpOk X pins H' C → compPost (model X.prog X.w) X.A X.xe use Qf (.ref D) C (.ok .next) s') :
    wpAny (model X.prog X.w) X.A (comprehension (.DictComp kx vx [⟨tg, iter, ifs, 0⟩] scope pos) scope X.env pos' newDict false (eval iter X.env) use) Qf X.xe s := by
  have free : ∀ y ∈ scope.names, y.2 = .free → ∃ c, X.env.cells.lookup y.1 = some c := by
    intro y hy e
    exact (ok.free y hy e).elim (fun k => I.ok.has _ (.inl k)) fun k => I.ok.has _ (.inr k)
  refine wpAny_comprehension_free (use := use) rfl fold (closure_ok free) ok.kind (fun y hy e => by rw [ok.uniq y hy, e]) (thn (hi.run pins s σ H _ I h) fun xv s1 hx => thn hx ?_)
  rintro itv s2 ⟨it, fp, tn, J, H2, rfl, I2, T, st2, f2, q⟩
  refine wpAny_newObj_type (newEnv_comp ?_)
  obtain ⟨D, hD⟩ : ∃ D, D = s2.heap.objs.size := ⟨_, rfl⟩
  rw [← hD]
  have fresh : H2 D = none := I2.hok.fresh (Nat.le_of_eq hD.symm)
  obtain ⟨W, ⟨m0, w0⟩, turn⟩ := q D fresh
  obtain ⟨s3, hs3⟩ : ∃ s3 : Shared, s3 = { s2 with heap := s2.heap.push { cls := .type "dict", data := .dict #[] } } := ⟨_, rfl⟩
  have I3 : L2.Inv X pins σ (upd H2 D (.dK [])) s3 := by
    rw [hs3]
    refine I2.laid (t' := s2.toks) (fun b o e => Heap.get?_push_of_some _ e) (Nat.le_of_eq hD.symm) ?_
    rw [hD]
    exact dk_empty s2.heap I2.big
  have h3 : s3.heap = s2.heap.push { cls := .type "dict", data := .dict #[] } := by rw [hs3]
  have old : ∀ b ∈ fp, b < s2.heap.objs.size := fun b hb => let ⟨o, e, _⟩ := T.obj _ _ st2 b hb; Heap.lt_size e
  have f3 : ∀ b ∈ fp, FpOk X pins (upd H2 D (.dK [])) b ∧ b < s3.heap.objs.size := by
    intro b hb
    have lt := old b hb
    refine ⟨⟨?_, (f2 b hb).2⟩, by rw [h3, Heap.size_push]; exact Nat.lt_succ_of_lt lt⟩
    rw [upd_ne (by rw [hD]; exact Nat.ne_of_lt lt)]
    exact (f2 b hb).1
  have st3 : tn 0 s3.heap := T.keep _ _ _ st2 fun b _ o e => by rw [h3]; exact Heap.get?_push_of_some _ e
  have I4 := block_start I3 ok nd f3
  obtain ⟨cl, hcl⟩ : ∃ cl, cl = cellsFrom (s3.heap.objs.size + 1) scope.names (cloFrom X.env.cells scope.names []) := ⟨_, rfl⟩
  obtain ⟨C, hC⟩ : ∃ C, C = s3.heap.objs.size := ⟨_, rfl⟩
  obtain ⟨H3, hH3⟩ : ∃ H3, H3 = upd H2 D (.dK []) := ⟨_, rfl⟩
  rw [← hcl, ← hC, ← hH3] at I4
  rw [← hH3] at I3 f3 w0
  obtain ⟨s4, hs4⟩ : ∃ s4 : Shared, s4 = { s3 with heap := pushCells (s3.heap.push { cls := .type "dict", data := .dict #[] }) scope.names } := ⟨_, rfl⟩
  rw [← hs4] at I4
  rw [← hs3]
  show codeAny _ _ (.compStart (.DictComp kx vx [⟨tg, iter, ifs, 0⟩] scope pos) 0 (.ref it) (.ref D) (compEnvC scope (cellsFrom (s3.heap.objs.size + 1) scope.names (cloFrom X.env.cells scope.names [])) s3.heap.objs.size X.env)) (compPost (model X.prog X.w) X.A X.xe use Qf (.ref D) s3.heap.objs.size) { s3 with heap := pushCells (s3.heap.push { cls := .type "dict", data := .dict #[] }) scope.names }
  rw [← hcl, ← hC, ← hs4]
  have pg := hg s3 H3 C cl fp
  have pt := ht s3 H3 C cl fp
  have pk := hk s3 H3 C cl fp
  have pv := hv s3 H3 C cl fp
  have cL : (compEnvC scope cl C X.env).locals = C := rfl
  have nfp : ∀ b ∈ fp, H3 b = none := fun b hb => (f3 b hb).1.1
  have st4 : tn 0 s4.heap := T.keep _ _ _ st3 fun b _ o e => by rw [hs4]; exact pushCells_keeps _ _ _ _ (Heap.get?_push_of_some _ e)
  have stat : ∀ {σ' : L2.St} {H' : Hp} {s' : Shared}, L2.Inv (Blk X scope s3 H3 C cl fp) [] σ' H' s' → (∀ b ∈ fp, H' b = none) → ∀ b ∈ fp, FpOk (Blk X scope s3 H3 C cl fp) [] H' b := by
    intro σ' H' s' I' hn b hb
    exact ⟨hn b hb, (I'.ok.exf b hb).1, I'.ok.exfs b hb, .inl hb, fun x c e => (I'.ok.exf b hb).2 x c e, fun p hp => absurd (show p ∈ ([] : List (Addr × Obj)) ++ [] from hp) (by simp)⟩
  have loop : codeAny (model X.prog X.w) X.A (.compLoop (.DictComp kx vx [⟨tg, iter, ifs, 0⟩] scope pos) 0 (.ref it) (.ref D) (compEnvC scope cl C X.env)) (compPost (model X.prog X.w) X.A X.xe use Qf (.ref D) C) s4 := by
    refine compLoop_anyD (fun n s' => ∃ i H', L2.Inv (Blk X scope s3 H3 C cl fp) [] (wipe σ (own.map (·.2))) H' s' ∧ tn i s'.heap ∧ (∀ b ∈ fp, H' b = none) ∧ W i n H') ?_ m0 ⟨0, H3, I4, st4, nfp, w0⟩
    rintro n s5 ⟨i, H5, I5, st5, n5, w5⟩
    rcases turn i n H5 w5 with ⟨stop, qq⟩ | ⟨go, Nx, hNx, step⟩
    · refine thnF (T.done (Blk X scope s3 H3 C cl fp) rfl rfl rfl calm i [] s5 _ H5 (fun _ _ => False) I5 (stat I5 n5) st5 stop) ?_
      rintro r s6 ⟨rfl, I6⟩
      have I7 : L2.Inv X pins σ H5 s6 := I3.call' (ch := fp) I6.os I6.base I6.hok I6.bare fun b hb => ⟨(f3 b hb).1.2.2.2.1, (f3 b hb).1.2.1, (f3 b hb).1.2.2.2.2.1, (f3 b hb).1.2.2.2.2.2⟩
      have nC : H5 C = none := I6.free
      obtain ⟨m, hn, _⟩ := I6.loc
      exact back D C s6 m H5 I7 qq hn (I3.fpOk (Nat.le_of_eq hC.symm) nC)
    · refine thnF (T.item (Blk X scope s3 H3 C cl fp) rfl rfl rfl calm i [] s5 _ H5 (fun _ _ => False) I5 (stat I5 n5) st5 go) ?_
      rintro r s6 ⟨u, rfl, h6⟩
      refine thnF h6 ?_
      rintro _ s7 ⟨x, H7, I7, r7, y7, st7, n7⟩
      refine thnF (pg.run _ s7 _ H7 x u _ (I7.pinned (stat I7 n7) (T.obj _ _ st7)) r7 (step x H7 y7)) ?_
      rintro _ s8 ⟨σ8, H8, I8, hw8, q8⟩
      refine thnF (pt.run _ s8 σ8 H8 _ I8 q8) ?_
      rintro b s9 ⟨H9, I9, q9⟩
      have fin : ∀ {s' : Shared} {H' : Hp}, L2.Inv (Blk X scope s3 H3 C cl fp) ([] ++ pinsAt fp s7.heap) σ8 H' s' → Nx H' → ∃ m, m < n ∧ ∃ i H', L2.Inv (Blk X scope s3 H3 C cl fp) [] (wipe σ (own.map (·.2))) H' s' ∧ tn i s'.heap ∧ (∀ b ∈ fp, H' b = none) ∧ W i m H' := by
        intro s' H' I' nx
        obtain ⟨m', lt, w'⟩ := hNx H' nx
        have pin : ∀ b ∈ fp, ∀ o, s7.heap.get? b = some o → s'.heap.get? b = some o ∧ H' b = none := by
          intro b hb o e
          have z := I'.pin (b, o) (List.mem_append_right _ (List.mem_append_right _ (mem_pinsAt hb e)))
          exact ⟨z.1, z.2.1⟩
        refine ⟨m', lt, i + 1, H', (I'.unpinned (pins := [])).weak (by rw [← hw8, wipe_length]) (fun j v e => ?_), T.keep _ _ _ st7 fun b hb o e => (pin b hb o e).1, fun b hb => ?_, w'⟩
        · rw [← hw8] at e
          exact (wipe_some e).1
        · obtain ⟨o, e, _⟩ := T.obj _ _ st7 b hb
          exact (pin b hb o e).2
      cases b with
      | false =>
        simp only [Bool.false_eq_true, if_false] at q9 ⊢
        exact fin I9 q9
      | true =>
        simp only [if_true] at q9 ⊢
        refine thnF (pk.run _ s9 σ8 H9 _ I9 q9) ?_
        rintro z s10 ⟨yk, H10, I10, r10, q10⟩
        refine thnF (pv.run _ s10 σ8 H10 _ I10 q10) ?_
        rintro z2 s11 ⟨yv, H11, I11, r11, a, k, xs, rfl, rfl, hn, nk, dk, lz, nx⟩
        cases r10
        cases r11
        exact nd_dictSet (X := Blk X scope s3 H3 C cl fp) (by show X.A.units + 8 < cLine; omega) I11 hn nk dk lz fun s12 I12 => fin I12 nx
  exact codeAny_compStart_dict loop (T.self X.A 0 _ _ _ st4 loop)
end
end My

set_option Elab.async false
set_option linter.all false
set_option maxRecDepth 100000
set_option maxHeartbeats 2000000
namespace My
open PySem PySem.Spec PyProof.Rows L2 PySem.SeqAt PySem.W
section
variable {X : Cx} {kx vx tg iter : Expr} {ifs : List Expr} {scope : Scope} {own : List (Str × Nat)} {pos spos py : Pos} {wi : TI} {g : TG} {tt : TT} {tk tv : TE} {i : Nat} {y : Str}
theorem sw_dict {gs : List Comprehension} {l : Nat} {env : Env} (hk : env.scope.kind = .function) (hy : env.scope.names.lookup y = some .local) (hl : (py.line == pos.line) = true) (ha : (scope.names.any fun (n, k) => n == y && (k == .local || k == .cell)) = false) :
    swapsWith (.DictComp kx vx gs scope pos) (some (.Name y py)) l env = pure true := by
  have k1 : env.kindOf y = some .local := hy
  have k2 : env.blockKind = .function := by
    unfold Env.blockKind
    rw [hk]
    rfl
  unfold swapsWith
  simp only [k2, k1, ha, Expr.pos, hl]
  rfl
/-- as a value -/
theorem pe_dcN (hu : X.A.units + 64 < cLine) (calm : X.calm = true) (nd : X.N.Nodup) (hi : PI X tg iter wi) (ok : BlkOk X.N X.env.scope scope own)
    (hg : ∀ s H C cl fp, PG (Blk X scope s H C cl fp) tg g) (ht : ∀ s H C cl fp, PTs (Blk X scope s H C cl fp) ifs tt) (hk : ∀ s H C cl fp, PE (Blk X scope s H C cl fp) kx tk) (hv : ∀ s H C cl fp, PE (Blk X scope s H C cl fp) vx tv)
    (fold : ∀ x, foldedSetIterable iter X.env x = pure x := by intro _; rfl) : PE X (.DictComp kx vx [⟨tg, iter, ifs, 0⟩] scope pos) (tDcN X.prog X.w wi g tt tk tv (own.map (·.2))) := by
  constructor
  intro pins s σ H Q I h
  rw [arm_eval_DictComp]
  refine dcN_core hu calm nd I hi ok hg ht hk hv fold h ?_
  rintro D C s' m H' I' q hn ⟨f0, f1, f2, f3, f4, f5⟩
  exact ⟨m, hn, fun h2 sb => ⟨.ref D, H', I'.turned (t' := s'.toks) (fun b o hb e => (sb.2 b hb).trans e) f0 f1 f3 f4 f5, rfl, q⟩⟩
/-- name = {..} on one line, the name a local -/
theorem ps_setDcN (hu : X.A.units + 64 < cLine) (calm : X.calm = true) (nd : X.N.Nodup) (hy : X.N[i]? = some y) (hyl : X.env.scope.names.lookup y = some .local) (hsw : swapsWith (.DictComp kx vx [⟨tg, iter, ifs, 0⟩] scope pos) (some (.Name y py)) spos.line X.env = pure true)
    (hi : PI X tg iter wi) (ok : BlkOk X.N X.env.scope scope own)
    (hg : ∀ s H C cl fp, PG (Blk X scope s H C cl fp) tg g) (ht : ∀ s H C cl fp, PTs (Blk X scope s H C cl fp) ifs tt) (hk : ∀ s H C cl fp, PE (Blk X scope s H C cl fp) kx tk) (hv : ∀ s H C cl fp, PE (Blk X scope s H C cl fp) vx tv)
    (fold : ∀ x, foldedSetIterable iter X.env x = pure x := by intro _; rfl) : PS X (.Assign [.Name y py] (.DictComp kx vx [⟨tg, iter, ifs, 0⟩] scope pos) spos) (tAsg (tDcN X.prog X.w wi g tt tk tv (own.map (·.2))) (gName i)) := by
  constructor
  intro pins s σ H D I h
  rw [exec_Assign_Name_used _ _ _ _ hsw]
  refine wpAny_bind (wpAny_standAt (wpAny_bind ?_))
  show wpAny _ X.A (do let _ ← comprehension (.DictComp kx vx [⟨tg, iter, ifs, 0⟩] scope pos) scope X.env (firstIterPos [⟨tg, iter, ifs, 0⟩] pos) newDict false (eval iter X.env) (some (assign (.Name y py) X.env))) _ _ s
  have h2 : tDcN X.prog X.w wi g tt tk tv (own.map (·.2)) σ H (fun x H1 => gName i x σ H1 D.nx) := h
  refine wpAny_bind (thn (dcN_core (Qf := fun _ s' => SP X pins D .next s') hu calm nd I hi ok hg ht hk hv fold h2 ?_) fun _ s' hq => wpAny_pure (wpAny_pure hq))
  rintro L C s' m H' I' q hn ⟨f0, f1, f2, f3, f4, f5⟩
  show wpAny _ _ (assign (.Name y py) X.env (.ref L)) _ _ _
  refine wpAny_assign_Name (store_ok2 (v := V.ref L) I' nd hy (.inl hyl) rfl ?_ (.inr hyl))
  rintro s2 I2 ⟨a, sb, ha⟩
  have ne : C ≠ a := ha.elim (fun z => by rw [z]; exact f1) fun z e => f4 y a z e.symm
  exact ⟨m, hn.sameBut sb ne, fun h3 sb3 => ⟨_, H', I2.turned (t' := s2.toks) (fun b o hb e => (sb3.2 b hb).trans e) f0 f1 f3 f4 f5, q⟩⟩
end
/-- a walk's turns -/
theorem dcN_it {P : Program} {w : World} {J : It} {n : Nat} {G : Hp → Prop} {Y : Nat → Hp → V → Hp → Prop} (wk : Walk J n G Y) {g : TG} {tt : TT} {tk tv : TE} {vs : List Nat} {σ : L2.St} {H1 : Hp} {D : Addr} {Qd : Hp → Prop} (Pv : Nat → Hp → Prop) (h0 : Pv 0 (upd H1 D (.dK []))) (hG : ∀ i H, i ≤ n → Pv i H → G H)
    (hs : ∀ i x H H', i < n → Pv i H → Y i H x H' → g x (wipe σ vs) H' fun σ2 H2 => wipe σ2 vs = wipe σ vs ∧ tt σ2 H2 fun b H3 => if b = true then tk σ2 H3 fun y H4 => tv σ2 H4 fun z H5 =>
      ∃ a k xs, y = .ref a ∧ z = .bl true ∧ NdAt P w H5 D xs ∧ Nk H5 (.ref a) k ∧ k.depth ≤ 8 ∧ xs.length < sizeLine ∧ Pv (i + 1) (upd H5 D (ND P w D (putN xs k a))) else Pv (i + 1) H3)
    (hd : ∀ H, Pv n H → Qd H) : ∃ W : Nat → Nat → Hp → Prop, (∃ m, W 0 m (upd H1 D (.dK []))) ∧ ∀ i m H', W i m H' → DcStep P w J g tt tk tv vs σ D Qd W i m H' := by
  refine ⟨fun i m H => m = n - i ∧ i ≤ n ∧ Pv i H, ⟨n, by simp, Nat.zero_le _, h0⟩, ?_⟩
  rintro i m H ⟨rfl, hi, p⟩
  have q := hG i H hi p
  by_cases lt : i < n
  · exact .inr ⟨wk.goes i H lt q, Pv (i + 1), fun H' p' => ⟨n - (i + 1), by omega, rfl, lt, p'⟩, fun x H' y => hs i x H H' lt p (wk.yields i H x H' lt q y)⟩
  · obtain rfl : i = n := by omega
    exact .inl ⟨wk.stops H q, hd H p⟩
end My

set_option Elab.async false
set_option linter.all false
set_option maxRecDepth 100000
set_option maxHeartbeats 2000000
/-! Pages as data: their places, how these stand, lists that are put in order. -/
namespace My
open PySem PySem.Spec PyProof.Rows L2 PySem.SeqAt PySem.W
def HomeW (ws : List Int) : Prop := ws.length ≤ 7 ∧ ∀ w ∈ ws, 0 ≤ w ∧ w < 7
/-- what stands behind a page's day -/
inductive Rest : Str → List NestedKey → Prop
  | house {a : Str} {ws : List Int} : Plain a → HomeW ws → Rest "house" [.text a, .tup (ws.map .num)]
  | home {a : Str} {ws : List Int} : Plain a → HomeW ws → Rest "home" [.text a, .tup (ws.map .num)]
  | part {a b : Str} {ws : List Int} : Plain a → Plain b → HomeW ws → Rest "part" [.text a, .text b, .tup (ws.map .num)]
  | mourn {a : Str} {m : Int} : Plain a → 0 ≤ m → m ≤ 60 → Rest "mourn" [.text a, .num m]
  | join {a b : Str} : Plain a → Plain b → Rest "join" [.text a, .text b]
  | ahead {a b : Str} : Plain a → Plain b → Rest "ahead" [.text a, .text b]
  | card {a b : Str} : Plain a → Plain b → Rest "card" [.text a, .text b]
  | visit {a b : Str} : Plain a → Plain b → Rest "visit" [.text a, .text b]
def PgK (k : NestedKey) : Prop := ∃ z d r, k = .tup (.text z :: .num d :: r) ∧ Rest z r ∧ 0 ≤ d ∧ d < 20000
def ixK (z : Str) : Nat := kinds.idxOf z
def place : NestedKey → NestedKey
  | .tup (.text z :: .num d :: r) => .tup [.num d, .num (ixK z), .tup (.text z :: .num d :: r)]
  | k => k
theorem place_eq (z : Str) (d : Int) (r : List NestedKey) : place (.tup (.text z :: .num d :: r)) = .tup [.num d, .num (ixK z), .tup (.text z :: .num d :: r)] := rfl
theorem lt_nums : ∀ ws vs : List Int, ∃ c, ltAll (ws.map .num) (vs.map .num) = some c
  | [], [] => ⟨_, by rw [List.map_nil, ltAll]⟩
  | [], _ :: _ => ⟨true, by rw [List.map_nil, List.map_cons, ltAll]⟩
  | _ :: _, [] => ⟨false, by rw [List.map_nil, List.map_cons, ltAll]⟩
  | a :: ws, b :: vs => by
    rw [List.map_cons, List.map_cons, ltAll]
    split
    · exact lt_nums ws vs
    · exact ⟨_, by rw [ltK]⟩
theorem lt_step {x y : NestedKey} {xs ys : List NestedKey} (h1 : ∃ c, ltK x y = some c) (h2 : ∃ c, ltAll xs ys = some c) : ∃ c, ltAll (x :: xs) (y :: ys) = some c := by
  rw [ltAll]
  split
  · exact h2
  · exact h1
theorem lt_text (a b : Str) : ∃ c, ltK (.text a) (.text b) = some c := ⟨_, by rw [ltK]⟩
theorem lt_num (a b : Int) : ∃ c, ltK (.num a) (.num b) = some c := ⟨_, by rw [ltK]⟩
theorem lt_nil : ∃ c, ltAll [] [] = some c := ⟨_, by rw [ltAll]⟩
theorem lt_home (ws vs : List Int) : ∃ c, ltK (.tup (ws.map .num)) (.tup (vs.map .num)) = some c := by
  rw [ltK]
  exact lt_nums ws vs
theorem rest_lt {z : Str} {r r' : List NestedKey} (h : Rest z r) (h' : Rest z r') : ∃ c, ltAll r r' = some c := by
  have ne : ∀ {a b : String}, (Str.ofString a == Str.ofString b) = false → Str.ofString a = Str.ofString b → False := fun {a b} e z => by rw [z] at e; simp at e
  generalize hz : z = z' at h'
  cases h <;> cases h' <;> first
    | exact lt_step (lt_text _ _) (lt_step (lt_home _ _) lt_nil)
    | exact lt_step (lt_text _ _) (lt_step (lt_text _ _) (lt_step (lt_home _ _) lt_nil))
    | exact lt_step (lt_text _ _) (lt_step (lt_num _ _) lt_nil)
    | exact lt_step (lt_text _ _) (lt_step (lt_text _ _) lt_nil)
    | exact (ne (by decide +kernel) hz).elim
theorem ixK_inj {z z' : Str} {r r' : List NestedKey} (h : Rest z r) (h' : Rest z' r') (e : ixK z = ixK z') : z = z' := by
  cases h <;> cases h' <;> first | rfl | exact absurd e (by decide +kernel)
/-- each two pages' places can be compared -/
theorem place_lt {k k' : NestedKey} (h : PgK k) (h' : PgK k') : ∃ c, ltK (place k) (place k') = some c := by
  obtain ⟨z, d, r, rfl, hr, _⟩ := h
  obtain ⟨z', d', r', rfl, hr', _⟩ := h'
  rw [place_eq, place_eq, ltK]
  by_cases e : ixK z = ixK z'
  · have ez := ixK_inj hr hr' e
    subst ez
    exact lt_step (lt_num _ _) (lt_step (lt_num _ _) (lt_step (by rw [ltK]; exact lt_step (lt_text _ _) (lt_step (lt_num _ _) (rest_lt hr hr'))) lt_nil))
  · rw [ltAll]
    split
    · rw [ltAll, if_neg (fun q => e (by injection q with q; exact Int.ofNat.inj q))]
      exact lt_num _ _
    · exact lt_num _ _
theorem place_depth {k : NestedKey} (h : PgK k) : (place k).depth ≤ 50 ∧ k.depth ≤ 8 := by
  obtain ⟨z, d, r, rfl, hr, _⟩ := h
  have hn : ∀ ws : List Int, NestedKey.depthAll (ws.map .num) = 0 := fun ws => by
    induction ws with
    | nil => rw [List.map_nil, NestedKey.depthAll]
    | cons a l ih => rw [List.map_cons, NestedKey.depthAll, ih, NestedKey.depth]; rfl
  have hd : NestedKey.depthAll r ≤ 2 := by
    cases hr <;> simp only [NestedKey.depthAll, NestedKey.depth, hn] <;> decide
  rw [place_eq]
  simp only [NestedKey.depthAll, NestedKey.depth]
  omega
theorem place_head {k : NestedKey} (h : PgK k) : ∃ i r, place k = .tup (.num i :: r) := by
  obtain ⟨z, d, r, rfl, _⟩ := h
  exact ⟨_, _, rfl⟩
theorem place_inj {k k' : NestedKey} (h : PgK k) (h' : PgK k') (e : place k = place k') : k = k' := by
  obtain ⟨z, d, r, rfl, _⟩ := h
  obtain ⟨z', d', r', rfl, _⟩ := h'
  rw [place_eq, place_eq] at e
  injection e with e
  simp only [List.cons.injEq] at e
  exact e.2.2.1
end My

set_option Elab.async false
set_option linter.all false
set_option maxRecDepth 100000
set_option maxHeartbeats 2000000
namespace My
open PySem PySem.Spec PyProof.Rows L2 PySem.SeqAt PySem.W
theorem text_total {x y : Str} (h1 : ¬ x.cps.toList < y.cps.toList) (h2 : ¬ y.cps.toList < x.cps.toList) : x = y :=
  str_of_cps (strKind.total _ _ (decide_eq_false h1) (decide_eq_false h2))
theorem text_asym {x y : Str} (h1 : x.cps.toList < y.cps.toList) (h2 : y.cps.toList < x.cps.toList) : False := by
  have := strKind.trans _ _ _ (decide_eq_true h1) (decide_eq_true h2)
  rw [strKind.irrefl] at this
  cases this
mutual
theorem flipK : ∀ (x y : NestedKey) (c : Bool), x ≠ y → ltK x y = some c → ltK y x = some (!c)
  | .num i, .num j, c, ne, e => by
    rw [ltK] at e ⊢
    cases e
    have : i ≠ j := fun z => ne (by rw [z])
    by_cases h : i < j
    · rw [decide_eq_true h, decide_eq_false (by omega)]; rfl
    · rw [decide_eq_false h, decide_eq_true (by omega)]; rfl
  | .text x, .text y, c, ne, e => by
    rw [ltK] at e ⊢
    cases e
    by_cases h : x.cps.toList < y.cps.toList
    · rw [decide_eq_true h, decide_eq_false (fun h2 => text_asym h h2)]; rfl
    · rw [decide_eq_false h, decide_eq_true (Classical.byContradiction fun h2 => ne (by rw [text_total h h2]))]; rfl
  | .tup xs, .tup ys, c, ne, e => by
    rw [ltK] at e ⊢
    exact flipAll xs ys c (fun z => ne (by rw [z])) e
  | .none, y, c, ne, e => by cases y <;> simp [ltK] at e
  | .num i, .none, c, ne, e => by simp [ltK] at e
  | .num i, .text _, c, ne, e => by simp [ltK] at e
  | .num i, .tup _, c, ne, e => by simp [ltK] at e
  | .text i, .none, c, ne, e => by simp [ltK] at e
  | .text i, .num _, c, ne, e => by simp [ltK] at e
  | .text i, .tup _, c, ne, e => by simp [ltK] at e
  | .tup i, .none, c, ne, e => by simp [ltK] at e
  | .tup i, .num _, c, ne, e => by simp [ltK] at e
  | .tup i, .text _, c, ne, e => by simp [ltK] at e
theorem flipAll : ∀ (xs ys : List NestedKey) (c : Bool), xs ≠ ys → ltAll xs ys = some c → ltAll ys xs = some (!c)
  | [], [], c, ne, e => absurd rfl ne
  | [], y :: ys, c, ne, e => by
    rw [ltAll] at e
    cases e
    rw [ltAll]
    rfl
  | x :: xs, [], c, ne, e => by
    rw [ltAll] at e
    cases e
    rw [ltAll]
    rfl
  | x :: xs, y :: ys, c, ne, e => by
    rw [ltAll] at e ⊢
    by_cases h : x = y
    · subst h
      rw [if_pos rfl] at e ⊢
      exact flipAll xs ys c (fun z => ne (by rw [z])) e
    · rw [if_neg h] at e
      rw [if_neg (fun z => h z.symm)]
      exact flipK x y c h e
end
/-- the first page stands ahead of the other one -/
def ahead (k k' : NestedKey) : Bool := lexT (toks (place k)) (toks (place k'))
theorem ahead_lt {k k' : NestedKey} (h : PgK k) (h' : PgK k') : ltK (place k) (place k') = some (ahead k k') := by
  obtain ⟨c, e⟩ := place_lt h h'
  obtain ⟨i, r, e1⟩ := place_head h
  obtain ⟨i', r', e2⟩ := place_head h'
  have e3 := e
  rw [e1, e2, ltK] at e3
  have := lex_tup e3
  rw [← e1, ← e2] at this
  rw [e]
  exact congrArg some this.symm
theorem ahead_self (k : NestedKey) : ahead k k = false := lex_irrefl _
theorem ahead_trans {a b c : NestedKey} (h1 : ahead a b = true) (h2 : ahead b c = true) : ahead a c = true := lex_trans _ _ _ h1 h2
theorem ahead_flip {k k' : NestedKey} (h : PgK k) (h' : PgK k') (ne : k ≠ k') : ahead k' k = !ahead k k' := by
  have h1 := ahead_lt h h'
  have h2 := ahead_lt h' h
  rw [flipK _ _ _ (fun z => ne (place_inj h h' z)) h1] at h2
  exact (Option.some.inj h2).symm
/-- strictly rising by places -/
abbrev Ord (l : List NestedKey) : Prop := l.Pairwise fun a b => ahead a b = true
theorem ord_unique : ∀ {l m : List NestedKey}, Ord l → Ord m → (∀ k, k ∈ l ↔ k ∈ m) → l = m
  | [], [], _, _, _ => rfl
  | [], b :: _, _, _, h => absurd ((h b).mpr (.head _)) (by simp)
  | a :: _, [], _, _, h => absurd ((h a).mp (.head _)) (by simp)
  | a :: l, b :: m, hl, hm, h => by
    have ea : a = b := by
      rcases List.mem_cons.mp ((h a).mp (.head _)) with e | e
      · exact e
      · rcases List.mem_cons.mp ((h b).mpr (.head _)) with e2 | e2
        · exact e2.symm
        · have h1 := (List.pairwise_cons.mp hm).1 a e
          have h2 := (List.pairwise_cons.mp hl).1 b e2
          have := ahead_trans h1 h2
          rw [ahead_self] at this
          cases this
    subst ea
    have na : ∀ {n : List NestedKey}, Ord (a :: n) → a ∉ n := fun hn z => by
      have := (List.pairwise_cons.mp hn).1 a z
      rw [ahead_self] at this
      cases this
    rw [ord_unique (List.pairwise_cons.mp hl).2 (List.pairwise_cons.mp hm).2 fun k => ⟨fun hk => ?_, fun hk => ?_⟩]
    · rcases List.mem_cons.mp ((h k).mp (.tail _ hk)) with e | e
      · subst e; exact absurd hk (na hl)
      · exact e
    · rcases List.mem_cons.mp ((h k).mpr (.tail _ hk)) with e | e
      · subst e; exact absurd hk (na hm)
      · exact e
end My

set_option Elab.async false
set_option linter.all false
set_option maxRecDepth 100000
set_option maxHeartbeats 2000000
namespace My
open PySem PySem.Spec PyProof.Rows L2 PySem.SeqAt PySem.W
theorem zip_two (xs : List (NestedKey × Addr)) : (xs.map fun p => V.ref p.2).zip (xs.map (·.1)) = xs.map fun p => (V.ref p.2, p.1) := by
  induction xs with
  | nil => rfl
  | cons p xs ih => rw [List.map_cons, List.map_cons, List.map_cons, List.zip_cons_cons, ih]
theorem nk_pairs {H : Hp} : ∀ {l : List (V × NestedKey)}, (∀ b ∈ l, Nk H b.1 b.2) → NkAll H (l.map Prod.fst) (l.map Prod.snd)
  | [], _ => .nil
  | b :: l, h => .cons (h b (.head _)) (nk_pairs fun c hc => h c (.tail _ hc))
/-- the keys of such a dict, sorted by places -/
theorem sortD_ok {H : Hp} {F : NestedKey → NestedKey} {xs : List (NestedKey × Addr)} (hF : ∀ p ∈ xs, ∀ q ∈ xs, lexT (toks (F p.1)) (toks (F q.1)) = ahead p.1 q.1) (hk : ∀ p ∈ xs, Nk H (.ref p.2) p.1) (hp : ∀ p ∈ xs, PgK p.1) (nd : (xs.map (·.1)).Nodup) :
    ∃ ks, NkAll H (sortD F xs) ks ∧ Ord ks ∧ ∀ k, k ∈ ks ↔ k ∈ xs.map (·.1) := by
  have pm := List.mergeSort_perm ((xs.map fun p => V.ref p.2).zip (xs.map (·.1))) (leF F)
  have pw := sort_pairwise (sortLe_total (listOrd itemOrd) false fun b : V × NestedKey => toks (F b.2)) ((xs.map fun p => V.ref p.2).zip (xs.map (·.1)))
  unfold sortD
  change List.Pairwise (fun a b => leF F a b = true) (((xs.map fun p => V.ref p.2).zip (xs.map (·.1))).mergeSort (leF F)) at pw
  generalize ((xs.map fun p => V.ref p.2).zip (xs.map (·.1))).mergeSort (leF F) = l at pm pw ⊢
  rw [zip_two] at pm
  have mem : ∀ b ∈ l, ∃ p ∈ xs, b = (V.ref p.2, p.1) := fun b hb => by
    obtain ⟨p, hp, e⟩ := List.mem_map.mp (pm.mem_iff.mp hb)
    exact ⟨p, hp, e.symm⟩
  have pk : (l.map Prod.snd).Perm (xs.map (·.1)) := by
    have := pm.map Prod.snd
    rwa [List.map_map] at this
  refine ⟨l.map Prod.snd, nk_pairs fun b hb => ?_, ?_, fun k => pk.mem_iff⟩
  · obtain ⟨p, hp, rfl⟩ := mem b hb
    exact hk p hp
  · have nl : (l.map Prod.snd).Nodup := pk.nodup_iff.mpr nd
    have nl2 : l.Pairwise fun a b => a.2 ≠ b.2 := List.pairwise_map.mp nl
    refine List.pairwise_map.mpr ((pw.and nl2).imp_of_mem fun {a b} ha hb h => ?_)
    obtain ⟨p, hp1, rfl⟩ := mem a ha
    obtain ⟨q, hq1, rfl⟩ := mem b hb
    have h1 : (!lexT (toks (F q.1)) (toks (F p.1))) = true := h.1
    rw [hF q hq1 p hp1] at h1
    have := ahead_flip (hp p hp1) (hp q hq1) h.2
    rw [this] at h1
    simpa using h1
theorem putN_keys (xs : List (NestedKey × Addr)) (k : NestedKey) (a : Addr) : (∀ x, x ∈ (putN xs k a).map (·.1) ↔ x = k ∨ x ∈ xs.map (·.1)) ∧ ((xs.map (·.1)).Nodup → ((putN xs k a).map (·.1)).Nodup) ∧ (putN xs k a).length ≤ xs.length + 1 := by
  unfold putN
  split
  · rename_i h
    exact ⟨fun x => ⟨.inr, fun e => e.elim (fun z => by rw [z]; exact h) id⟩, id, Nat.le_succ _⟩
  · rename_i h
    refine ⟨fun x => ?_, fun nd => ?_, by rw [List.length_append]; exact Nat.le_refl _⟩
    · rw [List.map_append, List.mem_append]
      constructor
      · rintro (e | e)
        · exact .inr e
        · exact .inl (by simpa using e)
      · rintro (e | e)
        · exact .inr (by simpa using e)
        · exact .inl e
    · rw [List.map_append, List.nodup_append]
      refine ⟨nd, by simp, fun x hx y hy => ?_⟩
      obtain rfl : y = k := by simpa using hy
      exact fun z => h (by rw [← z]; exact hx)
theorem putN_mem {xs : List (NestedKey × Addr)} {k : NestedKey} {a : Addr} {p : NestedKey × Addr} (h : p ∈ putN xs k a) : p ∈ xs ∨ p = (k, a) := by
  unfold putN at h
  split at h
  · exact .inl h
  · rcases List.mem_append.mp h with h | h
    · exact .inl h
    · exact .inr (List.mem_singleton.mp h)
end My

set_option Elab.async false
set_option linter.all false
set_option maxRecDepth 100000
set_option maxHeartbeats 2000000
/-! a lambda of one parameter handed to a def, and called there: its body's reading is told with the value -/
namespace LM
open PySem PySem.Spec PyProof.Rows L2
/-- the names of a lambda with the parameter k: k alone is its own, the others are captured ones and globals -/
structure Scp (sc scope : Scope) (k : Str) : Prop where
  fn : scope.kind = .function
  nco : scope.isCoroutine = false
  ngen : scope.isGenerator = false
  ncell : ∀ y ∈ scope.names, y.2 ≠ .cell
  par : scope.names.lookup k = some .local
  one : ∀ y ∈ scope.names, y.2 = .local → y.1 = k
  cap : ∀ y ∈ scope.names, y.2 = .free → sc.names.lookup y.1 = some .cell ∨ sc.names.lookup y.1 = some .free
def scpB (sc scope : Scope) (k : Str) : Bool :=
  decide (scope.kind = .function) && !scope.isCoroutine && !scope.isGenerator && decide (scope.names.lookup k = some .local) && scope.names.all fun y => !decide (y.2 = .cell) && (!decide (y.2 = .local) || decide (y.1 = k)) && (!decide (y.2 = .free) || (decide (sc.names.lookup y.1 = some .cell) || decide (sc.names.lookup y.1 = some .free)))
theorem scp_by {sc scope : Scope} {k : Str} (h : scpB sc scope k = true) : Scp sc scope k := by
  unfold scpB at h
  simp only [Bool.and_eq_true, Bool.or_eq_true, Bool.not_eq_true', decide_eq_true_eq, decide_eq_false_iff_not, List.all_eq_true] at h
  obtain ⟨⟨⟨⟨a, b⟩, c⟩, d⟩, e⟩ := h
  exact ⟨a, b, c, fun y hy => (e y hy).1.1, d, fun y hy z => (e y hy).1.2.resolve_left fun q => q z, fun y hy z => (e y hy).2.resolve_left fun q => q z⟩
section
variable {X : Cx} {pins : List (Addr × Obj)} {σ : L2.St} {H HZ : Hp} {s s1 : Shared} {scope : Scope} {k : Str}
/-- each captured name has a cell in the maker's frame -/
theorem Scp.held (L : Scp X.env.scope scope k) (ok : X.Ok) {y : Str × NameKind} (hy : y ∈ scope.names) (e : y.2 = .free) : ∃ c, X.env.cells.lookup y.1 = some c := ok.has _ (L.cap y hy e)
/-- the body's context: the library's, with the parameter as one more name -/
def cx1 (X : Cx) (A : Around) (outer : List Env) (s : Shared) (H : Hp) (E : XK) (scope : Scope) (f c' : Addr) (k : Str) : Cx := { LamX.lamCx X A outer s H E scope f c' with N := X.N ++ [k] }
/-- a cell that the body sees is the maker's -/
theorem clo_cell (L : Scp X.env.scope scope k) (ok : X.Ok) {y : Str} {c : Addr} (e : (cloFrom X.env.cells scope.names []).lookup y = some c) : X.env.cells.lookup y = some c := by
  rcases cloFrom_mem (PySem.mem_of_lookup e) with z | ⟨m, d⟩
  · cases z
  · obtain ⟨c1, hc⟩ := L.held ok m rfl
    have hc : X.env.cells.lookup y = some c1 := hc
    rw [d, hc]
    rfl
theorem clo_has {y : Str} (m : scope.names.lookup y = some .free) : ∃ c, (cloFrom X.env.cells scope.names []).lookup y = some c := mem_lookup (cloFrom_has (cells := X.env.cells) (acc := []) (PySem.mem_of_lookup m))
theorem begin1 {A : Around} {outer : List Env} {E : XK} {f c' : Addr} {h₁ : Heap} {tk : Nat} {v : V} {u : Value} (I : Inv X pins σ H s) (L : Scp X.env.scope scope k) (nk : k ∉ X.N) (e0 : Env0 X.prog X.w X.K X.mg X.base A outer s1 HZ) (hd : A.handled = none)
    (un : Un (frs X.stack) [] H HZ s.heap s1.heap) (hns : h₁.Ns s1.heap.objs.size fun y => [(k, u)].reverse.lookup y) (kp : ∀ b o, s1.heap.get? b = some o → h₁.get? b = some o) (rv : RelV v u) :
    Inv (cx1 X A outer s1 HZ E scope f c' k) [] (σ ++ [some v]) HZ { s1 with heap := h₁, toks := tk } := by
  have keepC {c : Addr} {x : Option Value} (n : H c = none) (q : s.heap.IsCell c x) : h₁.IsCell c x := by
    obtain ⟨o, ho, d⟩ := q
    obtain ⟨sl, z⟩ := un.any ho n (by simp)
    exact ⟨_, kp _ _ z, d⟩
  have none_ (b : Addr) : b ∉ (cx1 X A outer s1 HZ E scope f c' k).ex := fun z => absurd (show b ∈ ([] : List Addr) from z) (by simp)
  have ncl {y : Str} (q : scope.names.lookup y = some .cell) : False := L.ncell _ (PySem.mem_of_lookup q) rfl
  have okX : (cx1 X A outer s1 HZ E scope f c' k).Ok := by
    refine ⟨e0.mod, L.fn, rfl, rfl, Nat.le_refl _, ?_, ?_, ?_, fun _ => hd, Around.frames_deeper e0.frames, .inr ⟨rfl, rfl⟩, fun b z => absurd z (none_ b), e0.bs, e0.bsz, fun b _ _ => none_ b, fun b z => absurd z (none_ b), e0.funs, e0.frf⟩
    · exact fun y z c a b => I.ok.inj y z c (clo_cell L I.ok a) (clo_cell L I.ok b)
    · exact fun y hy => Or.elim (show scope.names.lookup y = some .cell ∨ scope.names.lookup y = some .free from hy) (fun q => (ncl q).elim) clo_has
    · exact fun y c z _ => absurd (show false = true from z) Bool.false_ne_true
  refine ⟨okX, rfl, e0.bare, Un.kept kp, ⟨_, hns, ?_⟩, ?_, e0.hok.fresh (Nat.le_refl _), ?_, fun q hq => absurd (show q ∈ ([] : List (Addr × Obj)) ++ [] from hq) (by simp), e0.hok.kept kp, ?_⟩
  · intro i y x a b vis
    have a : (X.N ++ [k])[i]? = some y := a
    have vis : Vis scope y := vis
    by_cases hi : i < X.N.length
    · rw [List.getElem?_append_left hi] at a
      rw [List.getElem?_append_left (by rw [I.len]; exact hi)] at b
      have fr : scope.names.lookup y = some .free := by
        rcases vis with q | q | q
        · exact absurd (List.mem_of_getElem? a) (by rw [show y = k from L.one _ (PySem.mem_of_lookup q) rfl]; exact nk)
        · exact (ncl q).elim
        · exact q
      obtain ⟨m, _, look⟩ := I.loc
      have seen : Vis X.env.scope y := (L.cap _ (PySem.mem_of_lookup fr) rfl).elim (fun q => .inr (.inl q)) fun q => .inr (.inr q)
      obtain ⟨w', r, q⟩ := look i y x a b seen
      obtain ⟨c2, h2⟩ := clo_has (X := X) fr
      refine ⟨w', r, .inr ⟨.inr fr, c2, h2, ?_⟩⟩
      have c1 := clo_cell L I.ok h2
      rcases q with ⟨q, _⟩ | ⟨_, c3, e', z⟩
      · have q : X.env.scope.names.lookup y = some .local := q
        rcases L.cap _ (PySem.mem_of_lookup fr) rfl with q2 | q2
        · rw [show X.env.scope.names.lookup y = _ from q2] at q; cases q
        · rw [show X.env.scope.names.lookup y = _ from q2] at q; cases q
      · rw [c1] at e'
        cases e'
        exact keepC (I.freeC y _ c1) z
    · have hi2 : i = X.N.length := by
        have := (List.getElem?_eq_some_iff.mp a).1
        rw [List.length_append, List.length_singleton] at this
        omega
      subst hi2
      rw [List.getElem?_append_right (Nat.le_refl _), Nat.sub_self] at a
      rw [← I.len, List.getElem?_append_right (Nat.le_refl _), Nat.sub_self] at b
      cases a
      cases b
      refine ⟨u, rv, .inl ⟨L.par, ?_⟩⟩
      simp
  · intro y c e
    obtain ⟨w', z⟩ := I.cell y c (clo_cell L I.ok e)
    exact ⟨w', keepC (I.freeC y c (clo_cell L I.ok e)) z⟩
  · intro y c e
    have e := clo_cell L I.ok e
    obtain ⟨x, o, ho, _⟩ := I.cell y c e
    exact un.free c o ho (I.freeC y c e) (by simp)
  · show (σ ++ [some v]).length = (X.N ++ [k]).length
    rw [List.length_append, List.length_append, I.len]
    rfl
theorem noX {P : Program} {w : World} {outer : List Env} {H : Hp} {s s' : Shared} {u : Value} (z : L2.CX P w outer H s C8.E0 u s') : False := by
  obtain ⟨_, _, _, _, _, _, _, _, _, _, _, _, z⟩ := z
  exact z
/-- what a lambda's object is -/
abbrev obj1 (X : Cx) (params : Arguments) (body : Expr) (scope : Scope) (pm : Value) (c' : Addr) (ctv : Value) : Obj := PySem.W.kla_obj "<lambda>" (X.env.qual ++ "<lambda>") params body scope (cloFrom X.env.cells scope.names []) pm c' ctv
/-- the parameter takes the one value -/
def Bind1 (params : Arguments) (body : Expr) (scope : Scope) (k : Str) : Prop := ∀ (q : Str) (cl : List (Str × Addr)) (pm cv ctv u : Value), bindArgs (PySem.W.kla_fn "<lambda>" q params body scope cl pm cv ctv) ⟨[u], []⟩ = pure [(k, u)]
/-- a(e), in the def that got the lambda as its i-th name -/
theorem act1 {Ng : List Str} {qg : Str} {sg : Scope} {g f c' : Addr} {cdg pm ctv : Value} {params : Arguments} {body e : Expr} {n i : Nat} {a : Str} {pn : List (Addr × Obj)} {xe : Value → Shared → Prop} {tb te : TE} {p1 p2 : Pos}
    (I : Inv X pins σ H s) (L : Scp X.env.scope scope k) (nk : k ∉ X.N) (hf : s.heap.get? f = some (obj1 X params body scope pm c' ctv)) (hfn : H f = none) (hfr : f ∉ frs X.stack) (hb : Bind1 params body scope k)
    (hr : Room (n + 1) (X.A.deeper (envOfC qg sg s.heap.objs.size g cdg))) (hbody : ∀ (A : Around) (outer : List Env) (s : Shared) (H : Hp), Room n (A.deeper (LamX.lamEnv X scope s.heap.objs.size f c')) → PE (cx1 X A outer s H C8.E0 scope f c' k) body tb)
    (he : PE ((cxOf C8.CX0 X.prog X.w X.K X.mg X.base Ng qg sg g cdg X.A X.stack s H C8.E0).tr pn xe) e te) (hst : starEach [e] ((cxOf C8.CX0 X.prog X.w X.K X.mg X.base Ng qg sg g cdg X.A X.stack s H C8.E0).tr pn xe).env = [(false, eval e ((cxOf C8.CX0 X.prog X.w X.K X.mg X.base Ng qg sg g cdg X.A X.stack s H C8.E0).tr pn xe).env)])
    (hN : Ng[i]? = some a) (hv : Vis sg a) (hd : (a == ("__debug__" : Str)) = false := by decide) (hcd : (a == ("__classdict__" : Str)) = false := by decide) :
    PE ((cxOf C8.CX0 X.prog X.w X.K X.mg X.base Ng qg sg g cdg X.A X.stack s H C8.E0).tr pn xe) (.Call (.Name a p1) [e] [] p2) (fun σZ HZ Q => σZ[i]? = some (some (.ref f)) ∧ te σZ HZ fun x H1 => H1 c' = some (LamX.CodeO c' (X.env.qual ++ "<lambda>")) ∧ tb (σ ++ [some x]) H1 Q) := by
  refine ⟨fun pinsZ sZ σZ HZ Q IZ ⟨hs, ht⟩ => ?_⟩
  refine wpAny_Call_Name_kw (thn ((pe_var (pos := p1) (i := i) hN hv hd hcd).run pinsZ sZ σZ HZ (fun v H1 => v = .ref f ∧ H1 = HZ) IZ ⟨.ref f, hs, rfl, rfl⟩) fun u0 s0 ⟨v0, H0, I0, r0, q0⟩ => ?_)
  obtain ⟨rfl, rfl⟩ := q0
  obtain rfl : u0 = Value.ref f := r0
  have at0 : s0.heap.get? f = some (obj1 X params body scope pm c' ctv) := I0.base.keep f _ hf hfn hfr fun z => nomatch (show f ∈ ([] : List Addr) from z)
  refine PySem.W.callWith_F (first := []) ⟨_, _, _, _, at0⟩ ?_ (hst.trans rfl) rfl
  rw [hst]
  show wpAny _ _ (spliced ((false, eval e _) :: _)) _ _ s0
  refine Calls.spliced_cons (thn (he.run pinsZ s0 σZ H0 _ I0 ht) fun u s1 ⟨x, H1, I1, r1, hc, ht1⟩ => ?_)
  have at1 : s1.heap.get? f = some (obj1 X params body scope pm c' ctv) := I1.base.keep f _ hf hfn hfr fun z => nomatch (show f ∈ ([] : List Addr) from z)
  refine Calls.spliced_nil ⟨⟨_, _, _, _, at1⟩, ?_⟩
  have un : Un (frs X.stack) [] H H1 s.heap s1.heap := I1.base
  obtain ⟨⟨oc, vs, t, hoc, hdc, hvc⟩, _, _⟩ := I1.hok c' _ hc
  have run : codeAny (model X.prog X.w) (X.A.deeper (envOfC qg sg s.heap.objs.size g cdg)) (.call (.ref f) ⟨[u], []⟩) (CR C8.CX0 (envOfC qg sg s.heap.objs.size g cdg :: X.stack) X.prog X.w H1 s1 Q C8.E0) s1 := by
    refine PySem.W.kla_callFunE hr.depth at1 rfl L.nco L.ngen rfl ⟨c', oc, vs, t, rfl, hoc, hdc, hvc⟩ ?_
    rw [hb]
    refine wpAny_pure (wpAny_newFunctionEnv L.ncell (fun y hy => by rw [List.mem_singleton.mp hy]; exact L.par) (fun h₁ hns hsb => ⟨I1.nolimit.fresh _ hsb, ?_⟩) L.fn)
    show codeAny _ _ (.expr body (LamX.lamEnv X scope s1.heap.objs.size f c')) _ _
    have kp (b : Addr) (o : Obj) (z : s1.heap.get? b = some o) : h₁.get? b = some o := hsb.extBut b o (Nat.ne_of_lt (Heap.lt_size z)) (Heap.get?_push_of_some _ z)
    have J := begin1 (E := C8.E0) (f := f) (c' := c') (tk := s1.toks + [(k, u)].length) I L nk I1.env0 hr.hd un hns kp r1
    refine PySem.W.kla_codeExpr (wpAny_mono ((hbody _ _ s1 H1 (hr.deeper _)).run [] _ _ H1 Q J ht1) ?_ ?_)
    · exact fun v s' ⟨w', H', J', rv, q⟩ => ⟨w', H', J'.os, J'.bare, J'.base, J'.hok, rv, q⟩
    · exact fun e s' hq => wpAny_mono hq (fun _ _ z => (noX z).elim) fun _ _ z => (noX z).elim
  refine wpAny_call (codeAny_mono run fun r s' hq => ?_)
  cases r with
  | error e => exact (show False from hq).elim
  | ok fl =>
    cases fl with
    | ret u => exact I1.after hq
    | next => exact False.elim hq
    | brk => exact False.elim hq
    | cont => exact False.elim hq
/-- H1 is H but for the table at P, whose codes all bear the name q, and for new things -/
def Made (P : Addr) (q : Str) (H H1 : Hp) : Prop := (∀ b o, b ≠ P → H b = some o → H1 b = some o) ∧ LamX.TabS H1 P q
/-- the lambda's object is made; of the tables its maker's alone is touched -/
theorem make1 {c P : Addr} {params : Arguments} {body : Expr} {pos : Pos} {E Q : Value → Shared → Prop} (I : Inv X pins σ H s) (TB : LamX.TabB X.base X.mg c P) (hcode : X.env.code = .ref c) (hT : LamX.TabS H P (X.env.qual ++ "<lambda>")) (hdef : defaultsOf params X.env = ([], [])) (L : Scp X.env.scope scope k)
    (h : ∀ (f c' : Addr) (pm ctv : Value) (H1 : Hp) (s' : Shared), Inv X pins σ H1 s' → Made P (X.env.qual ++ "<lambda>") H H1 → s'.heap.get? f = some (obj1 X params body scope pm c' ctv) → H1 f = none → f ∉ frs X.stack → H1 c' = some (LamX.CodeO c' (X.env.qual ++ "<lambda>")) → Q (.ref f) s') :
    wpAny (model X.prog X.w) X.A (eval (.Lambda params body scope pos) X.env) Q E s := by
  obtain ⟨ps, hP, tri, own⟩ := id hT
  have cl := closure_ok (env := X.env) (scope := scope) fun y hy e => L.held I.ok hy e
  have glob := I.mod.glob.keeps I.bk
  have cod := TB.code.keeps I.bk
  have blt : s.heap.BuiltinsAt X.mg P := TB.bm.keeps I.bk
  have objP : s.heap.get? P = some { cls := .none, data := .fields ps } := I.hok P _ hP
  have off (f : Addr) (hf : s.heap.objs.size ≤ f) : f ∉ frs X.stack := fun z => (List.mem_cons.mp (I.stkSub _ z)).elim (fun e => absurd hf (Nat.not_le.mpr (by rw [e]; exact I.lt))) (I.nofs hf)
  refine PySem.W.kla_eval hdef ?_
  cases found : codeAmong pos ps.toList with
  | some cv =>
    obtain ⟨c', rfl, hco⟩ := own pos cv found
    refine PySem.W.kla_makeFunctionHit (mg := X.mg) (c := c) (P := P) (ps := ps) cl I.ok.glob glob hcode cod objP tri found blt fun ctv h' tk grow more => ?_
    exact h _ c' _ ctv H _ (I.kept fun b o e => Heap.get?_push_of_some _ (grow b o e)) ⟨fun _ _ _ e => e, hT⟩ (Heap.get?_push_size _ rfl) (I.hok.fresh more) (off _ more) hco
  | none =>
    refine PySem.W.kla_makeFunction (mg := X.mg) (c := c) (P := P) (ps := ps) cl I.ok.glob glob hcode cod objP tri found TB.gP blt fun c' ctv h' tk grow ge lt rec_ tab => ?_
    obtain ⟨c2, oc, vs, t, ec, hoc, hd, hv⟩ := rec_
    cases ec
    have fresh : H c' = none := I.hok.fresh ge
    have more : s.heap.objs.size ≤ h'.objs.size := Nat.le_trans ge (Nat.le_of_lt lt)
    have Pc : P ≠ c' := ne_of_none hP fresh
    have eL : (ps ++ #[rawInt pos.line, rawInt pos.col, Value.ref c']).toList = ps.toList ++ [rawInt pos.line, rawInt pos.col, Value.ref c'] := by simp
    have J := LamX.inv_table (q := X.env.qual ++ "<lambda>") (t' := tk) (more := #[rawInt pos.line, rawInt pos.col, Value.ref c']) (h' := h'.push (obj1 X params body scope ((X.mg "__name__").getD .none) c' ctv)) I hP (fun b o hb e => Heap.get?_push_of_some _ (grow b o hb e)) (Heap.get?_push_of_some _ tab) ge ⟨oc, vs, t, Heap.get?_push_of_some _ hoc, hd, hv⟩
    have stay (b : Addr) (o : HO) (n : b ≠ P) (e : H b = some o) : upd (upd H P (.tbl (ps ++ #[rawInt pos.line, rawInt pos.col, Value.ref c']))) c' (LamX.CodeO c' (X.env.qual ++ "<lambda>")) b = some o := by rw [upd_ne (ne_of_none e fresh), upd_ne n]; exact e
    refine h _ c' _ ctv _ _ J ⟨stay, _, by rw [upd_ne Pc, upd_same], by rw [eL]; exact PySem.TriplesOk_snoc _ _ _ _ tri, fun p' cv z => ?_⟩ (Heap.get?_push_size _ rfl) ?_ (off _ more) upd_same
    · rw [eL] at z
      rcases LamX.among_app _ tri z with z | z
      · obtain ⟨c0, e1, e2⟩ := own p' cv z
        exact ⟨c0, e1, stay _ _ (fun q => by rw [q, hP] at e2; exact LamX.codeO_ne ps (Option.some.inj e2).symm) e2⟩
      · exact ⟨c', z, upd_same⟩
    · rw [upd_ne (Nat.ne_of_gt lt), upd_ne (Nat.ne_of_gt (Nat.lt_of_lt_of_le (Heap.lt_size objP) more))]
      exact I.hok.fresh more
/-- the def that gets a thing and a lambda, and calls the lambda by the name a: TT is what it makes of the body's reading -/
def Gives1 (X : Cx) (Ng : List Str) (x : Str) (sg : Scope) (g : Addr) (cdg : Value) (bg : List Stmt) (a q : Str) (TT : V → (V → Hp → VK → Prop) → Hp → VK → Prop) : Prop :=
  ∀ (v : V) (f c' : Addr) (s : Shared) (H : Hp) (Q : VK) (tl : V → Hp → VK → Prop),
    (∀ (e : Expr) (te : TE) (p1 p2 : Pos) (pn : List (Addr × Obj)) (xe : Value → Shared → Prop), PE ((cxOf C8.CX0 X.prog X.w X.K X.mg X.base Ng x sg g cdg X.A X.stack s H C8.E0).tr pn xe) e te → starEach [e] ((cxOf C8.CX0 X.prog X.w X.K X.mg X.base Ng x sg g cdg X.A X.stack s H C8.E0).tr pn xe).env = [(false, eval e ((cxOf C8.CX0 X.prog X.w X.K X.mg X.base Ng x sg g cdg X.A X.stack s H C8.E0).tr pn xe).env)] →
      PE ((cxOf C8.CX0 X.prog X.w X.K X.mg X.base Ng x sg g cdg X.A X.stack s H C8.E0).tr pn xe) (.Call (.Name a p1) [e] [] p2) (fun σZ HZ Q => σZ[1]? = some (some (.ref f)) ∧ te σZ HZ fun x H1 => H1 c' = some (LamX.CodeO c' q) ∧ tl x H1 Q)) →
    H c' = some (LamX.CodeO c' q) → TT v tl H Q → ∃ t, PSs (cxOf C8.CX0 X.prog X.w X.K X.mg X.base Ng x sg g cdg X.A X.stack s H C8.E0).nox bg t ∧ t { nx := fun _ H' => Q .non H', rt := Q } (L2.start Ng [v, .ref f]) H
/-- x(e1, lambda k: body): e1's value, then all as the def makes of the body -/
def tLam1 (P : Addr) (q : Str) (t1 : TE) (TT : V → (V → Hp → VK → Prop) → Hp → VK → Prop) (tb : TE) : TE := fun σ H Q => t1 σ H fun v H0 => LamX.TabS H0 P q ∧ ∀ H1, Made P q H0 H1 → TT v (fun x H' Q' => tb (σ ++ [some x]) H' Q') H1 Q
theorem lamcall1 {TT : V → (V → Hp → VK → Prop) → Hp → VK → Prop} {x a0 a : Str} {st : Stmt} {fd : FuncData} {g c P : Addr} {n : Nat} {Ng : List Str}
    {params : Arguments} {body e1 : Expr} {t1 tb : TE} {p lpos pos : Pos} (hg : Gl X x) (hm : X.mg x = some (.ref g)) (F : Fun X.K x x st g fd) (hb : L2.Binds X.K fd [a0, a] []) (Sg : FnScope Ng [a0, a] (defScope st)) (hNg : Ng[1]? = some a) (hva : Vis (defScope st) a) (hG : ∀ cdv, Gives1 X Ng x (defScope st) g cdv (defBody st) a (X.env.qual ++ "<lambda>") TT)
    (TB : LamX.TabB X.base X.mg c P) (hcode : X.env.code = .ref c) (hr : Room (n + 2) X.A) (L : Scp X.env.scope scope k) (nk : k ∉ X.N) (hdef : defaultsOf params X.env = ([], [])) (hbi : Bind1 params body scope k)
    (h1 : PE X e1 t1) (hs1 : starEach [e1, .Lambda params body scope lpos] X.env = [(false, eval e1 X.env), (false, eval (.Lambda params body scope lpos) X.env)])
    (hbody : ∀ (A : Around) (outer : List Env) (s : Shared) (H : Hp) (f c' : Addr), Room n (A.deeper (LamX.lamEnv X scope s.heap.objs.size f c')) → PE (cx1 X A outer s H C8.E0 scope f c' k) body tb)
    (hdb : (x == ("__debug__" : Str)) = false := by decide) (hd : (a == ("__debug__" : Str)) = false := by decide) (hcd : (a == ("__classdict__" : Str)) = false := by decide) :
    PE X (.Call (.Name x p) [e1, .Lambda params body scope lpos] [] pos) (tLam1 P (X.env.qual ++ "<lambda>") t1 TT tb) := by
  obtain ⟨oc, od, kV, doc, pm, an, cdv, ct, osl, rfl, lk, hcg⟩ := F.ex
  refine ⟨fun pins s σ H Q I h => ?_⟩
  refine wpAny_Call_Name_kw (ld_glob I hg hm ?_ hdb)
  refine PySem.W.callWith_K (h₀ := X.base) I.ok.mod.kin F.kp ?_ (hs1.trans rfl) rfl
  rw [hs1]
  refine Calls.spliced_cons (thn (h1.run pins s σ H _ I h) fun u0 s0 ⟨v, H0, I0, r0, hT, hq⟩ => ?_)
  refine Calls.spliced_cons (make1 I0 TB hcode hT hdef L fun f c' pm' ctv H1 s' I1 md hf hfn hfr hco => ?_)
  refine Calls.spliced_nil ⟨I1.kIn, ?_⟩
  have run : codeAny (model X.prog X.w) X.A (.call (.ref g) ⟨[u0, .ref f], []⟩) (CR C8.CX0 X.stack X.prog X.w H1 s' Q C8.E0) s' := by
    refine LamX.run_ofS (N := Ng) (ps := [a0, a]) (us := [u0, .ref f]) (vs := [v, .ref f]) lk hcg Sg hr I1.env0 (hb s' [u0, .ref f] I1.kIn rfl) (.cons r0 (.cons rfl .nil)) rfl fun hr' => ?_
    obtain ⟨t', a1, a2⟩ := hG cdv v f c' s' H1 Q (fun x H' Q' => tb (σ ++ [some x]) H' Q') (fun e te p1 p2 pn xe he hst => act1 (i := 1) I1 L nk hf hfn hfr hbi hr' (fun A outer s H hr2 => hbody A outer s H f c' hr2) he hst hNg hva hd hcd) hco (hq H1 md)
    exact ⟨t', a1.nox, a2⟩
  refine wpAny_call (codeAny_mono run fun r s2 z => ?_)
  cases r with
  | error e => exact (show False from z).elim
  | ok fl => cases fl with
    | ret u => exact I1.after z
    | next => exact False.elim z
    | brk => exact False.elim z
    | cont => exact False.elim z
end
end LM

set_option Elab.async false
set_option linter.all false
set_option maxRecDepth 100000
set_option maxHeartbeats 2000000
/-! tables of codes, where some defs have generator expressions and others lambdas: the same words as in Kinds, Pages -/
namespace LT
open PySem PySem.Spec PyProof.Rows L2 My
/-- tables of generator expressions; tables of lambdas with the lambdas' name -/
structure TL where
  g : List Addr
  l : List (Addr × Str)
structure Tbs (Ts : TL) (H : Hp) : Prop where
  gen : ∀ P ∈ Ts.g, GxR.TabG H P
  lam : ∀ e ∈ Ts.l, LamX.TabS H e.1 e.2
  ap : ∀ P ∈ Ts.g, ∀ e ∈ Ts.l, e.1 ≠ P
  fn : ∀ e ∈ Ts.l, ∀ e' ∈ Ts.l, e.1 = e'.1 → e.2 = e'.2
variable {Ts : TL} {H H' H1 H2 : Hp}
instance : CoeFun (Tbs Ts H) fun _ => ∀ P ∈ Ts.g, GxR.TabG H P := ⟨Tbs.gen⟩
/-- lists, dicts and sets may change: tables and codes are none of them -/
theorem Tbs.keep (h : Tbs Ts H) (k : ∀ b o, H b = some o → (∀ xs, o ≠ .lst xs) → (∀ kvs, o ≠ .dK kvs) → H' b = some o) : Tbs Ts H' := by
  refine ⟨fun P hP => ?_, fun e he => ?_, h.ap, h.fn⟩
  · obtain ⟨ps, a, b⟩ := h.gen P hP
    exact ⟨ps, k _ _ a (fun xs z => by cases z) (fun xs z => by cases z), b⟩
  · obtain ⟨ps, a, b, c⟩ := h.lam e he
    refine ⟨ps, k _ _ a (fun xs z => by cases z) (fun xs z => by cases z), b, fun pos cv hc => ?_⟩
    obtain ⟨c0, e1, e2⟩ := c pos cv hc
    exact ⟨c0, e1, k _ _ e2 (fun xs z => by unfold LamX.CodeO at z; cases z) (fun xs z => by unfold LamX.CodeO at z; cases z)⟩
theorem Tbs.same (h : Tbs Ts H) (s : Same H H') : Tbs Ts H' := h.keep fun b o e _ _ => s b o e
theorem Tbs.new {p : Addr} {o : HO} (h : Tbs Ts H) (hp : H p = none) : Tbs Ts (upd H p o) := h.same (same_upd hp)
theorem Tbs.lst {f : Addr} {xs : List V} {o : HO} (h : Tbs Ts H) (hf : H f = some (.lst xs)) : Tbs Ts (upd H f o) := h.keep fun b u e n _ => by
  rw [upd_ne (fun z => by rw [z, hf] at e; exact n xs (Option.some.inj e).symm)]
  exact e
def Tk (Ts : TL) (H H' : Hp) : Prop := (∀ b, b ∉ Ts.g → H' b = H b) ∧ Tbs Ts H'
theorem Tk.of {P : Addr} (h : Tbs Ts H) (hP : P ∈ Ts.g) (t : GxR.Tabbed P H H1) : Tk Ts H H1 := by
  obtain ⟨t1, t2⟩ := t
  refine ⟨fun b hb => t2 b fun z => hb (by rw [z]; exact hP), fun P' hP' => ?_, fun e he => ?_, h.ap, h.fn⟩
  · by_cases z : P' = P
    · rw [z]; exact t1
    · obtain ⟨ps, a, b⟩ := h.gen P' hP'
      exact ⟨ps, by rw [t2 _ z]; exact a, b⟩
  · obtain ⟨ps, a, b, c⟩ := h.lam e he
    refine ⟨ps, by rw [t2 _ (h.ap P hP e he)]; exact a, b, fun pos cv hc => ?_⟩
    obtain ⟨c0, e1, e2⟩ := c pos cv hc
    refine ⟨c0, e1, ?_⟩
    obtain ⟨ps2, a2, _⟩ := h.gen P hP
    rw [t2 _ (fun z => by rw [z, a2] at e2; exact LamX.codeO_ne ps2 (Option.some.inj e2).symm)]
    exact e2
def Gk (Ts : TL) (H H' : Hp) : Prop := (∀ b o, H b = some o → (∀ ps, o ≠ .tbl ps) → H' b = some o) ∧ Tbs Ts H'
theorem Gk.refl (h : Tbs Ts H) : Gk Ts H H := ⟨fun _ _ e _ => e, h⟩
theorem Gk.trans (a : Gk Ts H H1) (b : Gk Ts H1 H2) : Gk Ts H H2 := ⟨fun x o e n => b.1 x o (a.1 x o e n) n, b.2⟩
theorem Tk.gk (t : Tk Ts H H') (h : Tbs Ts H) : Gk Ts H H' := ⟨fun b o e n => by
  rw [t.1 b fun hb => ?_]
  · exact e
  · obtain ⟨ps, a, _⟩ := h.gen b hb
    rw [a] at e
    exact n ps (Option.some.inj e).symm, t.2⟩
theorem Gk.of_same (s : Same H H') (h : Tbs Ts H) : Gk Ts H H' := ⟨fun _ _ e _ => s _ _ e, h.same s⟩
theorem Gk.new {p : Addr} {o : HO} (h : Tbs Ts H) (hp : H p = none) : Gk Ts H (upd H p o) := .of_same (same_upd hp) h
theorem Gk.tup {b : Addr} {xs : List V} (t : Gk Ts H H') (e : H b = some (.tup xs)) : H' b = some (.tup xs) := t.1 _ _ e fun ps z => by cases z
theorem Gk.tups (g : Gk Ts H H') : Tups H H' := fun b xs e => g.tup e
/-- a lambda is made -/
theorem Gk.made {P : Addr} {q : Str} (h : Tbs Ts H) (hm : (P, q) ∈ Ts.l) (m : LM.Made P q H H1) : Gk Ts H H1 := by
  obtain ⟨m1, m2⟩ := m
  obtain ⟨ps0, a0, _⟩ := h.lam _ hm
  have ne {b : Addr} {o : HO} (e : H b = some o) (n : ∀ ps, o ≠ .tbl ps) : b ≠ P := fun z => by
    rw [z, a0] at e
    exact n ps0 (Option.some.inj e).symm
  refine ⟨fun b o e n => m1 b o (ne e n) e, fun P' hP' => ?_, fun e he => ?_, h.ap, h.fn⟩
  · obtain ⟨ps, a, b⟩ := h.gen P' hP'
    exact ⟨ps, m1 _ _ (fun z => h.ap P' hP' _ hm z.symm) a, b⟩
  · by_cases z : e.1 = P
    · have := h.fn e he _ hm z
      rw [z, this]
      exact m2
    · obtain ⟨ps, a, b, c⟩ := h.lam e he
      refine ⟨ps, m1 _ _ z a, b, fun pos cv hc => ?_⟩
      obtain ⟨c0, e1, e2⟩ := c pos cv hc
      exact ⟨c0, e1, m1 _ _ (ne e2 LamX.codeO_ne) e2⟩
theorem tbs_at {f : Addr} {o u : HO} (h : Tbs Ts H) (hf : H f = some u) (n : ∀ ps, u ≠ .tbl ps) (n2 : ∀ c q, u ≠ LamX.CodeO c q) : Tbs Ts (upd H f o) := by
  refine ⟨fun P hP => ?_, fun e he => ?_, h.ap, h.fn⟩
  · obtain ⟨ps, a, b⟩ := h.gen P hP
    exact ⟨ps, by rw [upd_ne (fun z => by rw [z, hf] at a; exact n ps (Option.some.inj a))]; exact a, b⟩
  · obtain ⟨ps, a, b, c⟩ := h.lam e he
    refine ⟨ps, by rw [upd_ne (fun z => by rw [z, hf] at a; exact n ps (Option.some.inj a))]; exact a, b, fun pos cv hc => ?_⟩
    obtain ⟨c0, e1, e2⟩ := c pos cv hc
    exact ⟨c0, e1, by rw [upd_ne (fun z => by rw [z, hf] at e2; exact n2 _ _ (Option.some.inj e2))]; exact e2⟩
end LT

set_option Elab.async false
set_option linter.all false
set_option maxRecDepth 100000
set_option maxHeartbeats 2000000
/-! The end of a law whose promise wants that no repr is under way, with tables of codes. -/
namespace GU
open PySem PySem.Spec PyProof.Rows L2
/-- what is tracked at the head: the script's list (where it is not the text's own) and the tables -/
def headH (own : Bool) (a : Addr) (T : List Addr) (o : Obj) (xs : List V) : Hp := fun b =>
  if b ∈ T then some (.tbl #[]) else if b = a ∧ own = false then some (.frz o (.lst xs)) else none
section
variable {own : Bool} {a b : Addr} {T : List Addr} {o : Obj} {xs : List V}
theorem head_tbl (h : b ∈ T) : headH own a T o xs b = some (.tbl #[]) := if_pos h
theorem head_scr (h : a ∉ T) (e : own = false) : headH own a T o xs a = some (.frz o (.lst xs)) := (if_neg h).trans (if_pos ⟨rfl, e⟩)
theorem head_cases (b : Addr) : (b ∈ T ∧ headH own a T o xs b = some (.tbl #[])) ∨ (b ∉ T ∧ b = a ∧ own = false ∧ headH own a T o xs b = some (.frz o (.lst xs))) ∨ (b ∉ T ∧ ¬ (b = a ∧ own = false) ∧ headH own a T o xs b = none) := by
  by_cases h : b ∈ T
  · exact .inl ⟨h, if_pos h⟩
  · by_cases k : b = a ∧ own = false
    · exact .inr (.inl ⟨h, k.1, k.2, (if_neg h).trans (if_pos k)⟩)
    · exact .inr (.inr ⟨h, k, (if_neg h).trans (if_neg k)⟩)
end
theorem law_callG {P : Program} {w : World} {K : PySem.W.Frag} {mg mb : Str → Option Value} {CX : CXT} {k : Nat} {fa a : Addr} {cs : List (Addr × Addr)} {fd : FuncData} {x : Str} {sp : Sp} {s : Shared} {vs : List Value} {ns : List Int}
    (inK : K.In s.heap) (glob : s.heap.Ns mainGlobals mg) (bltn : s.heap.Ns builtinsNs mb) (boot : ∀ x : Str, x ≠ "__name__" → mb x = bootBuiltins x) (lim : s.heap.NoLimit) (gens : s.gens = #[])
    (tabs : ∀ p ∈ cs, s.heap.get? p.2 = some { cls := .none, data := .fields #[] }) (far : ∀ p ∈ cs, K.lookup p.2 = none) (heads : ∀ p ∈ cs, PySem.W.CodeHd s.heap p.1 p.2)
    (bmod : ∃ (bm : Addr) (ob : Obj), mg "__builtins__" = some (.ref bm) ∧ bm ≠ builtinsNs ∧ s.heap.get? bm = some ob ∧ ob.cls = .type "module" ∧ ob.dict = some builtinsNs ∧ ob.data = .plain)
    (scr : s.heap.get? a = some { cls := .type "list", data := .seq vs.toArray }) (nums : IntsAre vs ns) (few : ns.length ≤ sizeLine) (room : Room k callerA)
    (F : ∀ base : Heap, K.In base → base.Ns mainGlobals mg → (∀ p ∈ cs, LamX.TabB base mg p.1 p.2) → FnG P w K mg base CX k fa fd [x] sp) (binds : ∀ (s : Shared) (u : Value), BindsTo s fd ⟨[u], []⟩ [(x, u)])
    (want : ∀ H : Hp, (∀ p ∈ cs, H p.2 = some (.tbl #[])) → SqL K H a (ns.map V.int) → sp [.ref a] H (fun v _ => v = .bl true) fun _ _ _ => False)
    (calm : ∀ H e s', CX [] H s (fun _ _ _ => False) e s' → False) :
    codeAny (model P w) callerA (.call (.ref fa) ⟨[.ref a], []⟩) (fun r s' => r = .ok (.ret (.bool true)) ∧ OldK s.heap s'.heap ∧ s'.os = s.os ∧ AllBare s'.gens) s := by
  let T := cs.map (·.2)
  let oA : Obj := { cls := .type "list", data := .seq vs.toArray }
  have tabT : ∀ b ∈ T, s.heap.get? b = some { cls := .none, data := .fields #[] } := by
    intro b hb
    obtain ⟨p, hp, rfl⟩ := List.mem_map.mp hb
    exact tabs p hp
  have farT : ∀ b ∈ T, K.lookup b = none := by
    intro b hb
    obtain ⟨p, hp, rfl⟩ := List.mem_map.mp hb
    exact far p hp
  have inT : ∀ p ∈ cs, p.2 ∈ T := fun p hp => List.mem_map.mpr ⟨p, hp, rfl⟩
  have apart : a ∉ T := fun z => by
    have q := (tabT a z).symm.trans scr
    cases congrArg Obj.data (Option.some.inj q)
  obtain ⟨own, hown⟩ : ∃ own : Bool, own = (K.lookup a).isSome := ⟨_, rfl⟩
  generalize hH : headH own a T oA (ns.map V.int) = H
  have cases3 := fun b => hH ▸ head_cases (own := own) (a := a) (T := T) (o := oA) (xs := ns.map V.int) b
  have vals := vals_ints nums
  have read : SqL K H a (ns.map V.int) := by
    cases e : K.lookup a with
    | none =>
      rw [e] at hown
      exact .inl (.inr ⟨oA, hH ▸ head_scr apart hown⟩)
    | some o =>
      obtain rfl : o = oA := Option.some.inj ((inK a o e).symm.trans scr)
      exact .inr ⟨oA, vs.toArray, _, e, rfl, rfl, rfl, by rw [List.size_toArray, nums.length]; exact few, by simpa using vals⟩
  have hok : HOk P w H s.heap := by
    intro b u e
    rcases cases3 b with ⟨hb, z⟩ | ⟨_, rfl, _, z⟩ | ⟨_, _, z⟩
    · cases z.symm.trans e
      exact tabT b hb
    · cases z.symm.trans e
      exact ⟨scr, by rw [List.length_map]; exact few, vs, _, vals, scr⟩
    · cases z.symm.trans e
  have clear : ∀ {b : Addr} {o : Obj}, s.heap.get? b = some o → (∀ vs n, o.data ≠ .seq vs n) → o.data ≠ .fields #[] → H b = none := by
    intro b o e h1 h2
    rcases cases3 b with ⟨hb, _⟩ | ⟨_, rfl, _, _⟩ | ⟨_, _, z⟩
    · cases (tabT b hb).symm.trans e
      exact (h2 rfl).elim
    · cases scr.symm.trans e
      exact (h1 _ _ rfl).elim
    · exact z
  have names : ∀ {b : Addr} {m : Str → Option Value}, s.heap.Ns b m → (hidT s.heap H).Ns b m := by
    rintro b m ⟨o, es, ep, e, d, r⟩
    exact ⟨o, es, ep, hidT_get e (clear e (fun vs n z => by rw [d] at z; cases z) fun z => by rw [d] at z; cases z), d, r⟩
  have inB : K.In (hidT s.heap H) := by
    intro b o e
    refine hidT_get (inK b o e) ?_
    rcases cases3 b with ⟨hb, _⟩ | ⟨_, rfl, ho, _⟩ | ⟨_, _, z⟩
    · cases (farT b hb).symm.trans e
    · rw [hown, e] at ho
      cases ho
    · exact z
  have md : L2.Mod K mg (hidT s.heap H) := ⟨inB, names glob, ⟨mb, names bltn, boot⟩, lim.imp fun mc h => ⟨names h.1, h.2⟩⟩
  have tb : ∀ p ∈ cs, LamX.TabB (hidT s.heap H) mg p.1 p.2 := by
    intro p hp
    obtain ⟨og, eg, pg, ag, dg, rg⟩ := id glob
    refine ⟨?_, ?_, fun z => ?_⟩
    · obtain ⟨o, us, file, tf, flags, tg, inF, text, tt, e1, r1, r2, r3, rest⟩ := heads p hp
      refine ⟨o, us, file, tf, flags, tg, inF, text, tt, hidT_get e1 (clear e1 (fun vs n z => ?_) fun z => ?_), r1, r2, r3, rest⟩
      · cases r2.symm.trans z
      · cases r2.symm.trans z
        simp at r3
    · obtain ⟨bm, ob, b1, b2, b3, b4, b5, b6⟩ := bmod
      refine ⟨bm, ob, b1, b2, fun q => ?_, fun q => ?_, hidT_get b3 (clear b3 (fun vs n z => ?_) fun z => ?_), b4, b5, b6⟩
      · rw [q] at b3
        cases ag.symm.trans b3
        cases dg.symm.trans b6
      · rw [q] at b3
        cases (tabs p hp).symm.trans b3
        cases b6
      · cases b6.symm.trans z
      · cases b6.symm.trans z
    · rw [z] at ag
      cases (tabs p hp).symm.trans ag
      cases dg
  have env : Env0 P w K mg (hidT s.heap H) callerA [] s H :=
    { frames := rfl, mod := md, bs := fun b o e => of_hidT e, bsz := Nat.le_of_eq (hidT_size _ _), funs := trivial, frf := fun b hb => absurd (show b ∈ ([] : List Addr) from hb) (by simp), hok := hok, bare := .of_eq gens }
  have hT : ∀ p ∈ cs, H p.2 = some (.tbl #[]) := fun p hp => hH ▸ head_tbl (inT p hp)
  refine codeAny_mono ((F _ inB (names glob) tb).go callerA rfl [] s H ⟨[.ref a], []⟩ [.ref a] [.ref a] _ _ room env (binds s (.ref a)) (.cons rfl .nil) (want H hT read)) ?_
  intro r s' h
  match r, h with
  | .error e, h => exact (calm H e s' h).elim
  | .ok (.ret u), h =>
    obtain ⟨v, H', os, bare, un, hok', rel, q⟩ := h
    obtain rfl : v = .bl true := q
    obtain rfl : u = Value.bool true := rel
    have same : ∀ b o, b ∉ T → s.heap.get? b = some o → s'.heap.get? b = some o := by
      intro b o nb e
      rcases cases3 b with ⟨hb, _⟩ | ⟨_, rfl, _, z⟩ | ⟨_, _, z⟩
      · exact absurd hb nb
      · have e2 := (hok' b _ (un.frzs b _ _ z)).1
        cases scr.symm.trans e
        exact e2
      · exact un.keep b o e z (fun z => absurd (show b ∈ ([] : List Addr) from z) (by simp)) (by simp)
    have more : ∀ p ∈ cs, ∃ ps : Array Value, s'.heap.get? p.2 = some { cls := .none, data := .fields ps } := by
      intro p hp
      obtain ⟨ps, z⟩ := un.tbls p.2 #[] (hT p hp)
      exact ⟨_, hok' p.2 _ z⟩
    refine ⟨rfl, ⟨fun b o e => ?_, fun b o e => ?_⟩, os, bare⟩
    all_goals
      by_cases hb : b ∈ T
      case neg => first | exact .inl (same b o hb e) | exact ⟨o, same b o hb e⟩
      obtain ⟨p, hp, rfl⟩ := List.mem_map.mp hb
      obtain ⟨ps, hm⟩ := more p hp
    · cases (tabs p hp).symm.trans e
      exact .inr (.inl ⟨((heads p hp).tab (tabs p hp)).isCodeTable, rfl, #[], ps, rfl, by rw [Array.empty_append]; exact hm⟩)
    · exact ⟨_, hm⟩
/-- what is known of the law's promise at the head's heap -/
def LawAtG (l : PySem.W.OpenLaw) (w : World) (K : PySem.W.Frag) (CX : CXT) (k n : Nat) (x : Str) (mg : Str → Option Value) (fa : Addr) (h : Heap) : Prop :=
  ∃ (fd : FuncData) (cs : List (Addr × Addr)) (sp : Sp), (∀ p ∈ cs, h.get? p.2 = some { cls := .none, data := .fields #[] }) ∧ (∀ p ∈ cs, K.lookup p.2 = none) ∧ (∀ p ∈ cs, PySem.W.CodeHd h p.1 p.2) ∧ (∀ (s : Shared) (u : Value), BindsTo s fd ⟨[u], []⟩ [(x, u)]) ∧
    (∀ (H : Hp) (a : Addr) (ns : List Int), ns.length ≤ n → (∀ p ∈ cs, H p.2 = some (.tbl #[])) → SqL K H a (ns.map V.int) → sp [.ref a] H (fun v _ => v = .bl true) fun _ _ _ => False) ∧
    ∀ base : Heap, K.In base → base.Ns mainGlobals mg → (∀ p ∈ cs, LamX.TabB base mg p.1 p.2) → FnG l.prog w K mg base CX k fa fd [x] sp
theorem walk_G {l : PySem.W.OpenLaw} {n k : Nat} {q : Program} {loose : List Str} {XP : (Str → Option Value) → Heap → Prop} {YP : World → Heap → Prop} {d : DefRec} {K : Params → PySem.W.Frag} {CX : World → CXT} {x : Str}
    (hn : l.most = some n) (hn2 : n ≤ sizeLine) (hdf : d.params.defaults = []) (hr : Room k callerA) (hY : ∀ (w : World) (h : Heap), YP w h → (K w.params).In h)
    (F : ∀ (w : World) (mg : Str → Option Value) (fa : Addr) (h : Heap), (K w.params).In h → h.Ns mainGlobals mg → mg d.name = some (.ref fa) → GE.TabsIn q (K w.params) h → LawAtG l w (K w.params) (CX w) k n x mg fa h)
    (hCX : ∀ (w : World) (H : Hp) (s : Shared) (e : Value) (s' : Shared), CX w [] H s (fun _ _ _ => False) e s' → False) :
    PySem.W.WalkO q loose XP YP l.row.toRowW d [] (fun f vs => PySem.call f vs) := by
  refine Att.attach_callB hn hdf fun w s0 s1 mg mb fa o pm cd doc a vs ns G Y ho hd hcd hmg hobj hints hlen hbits hg => ?_
  have KX := hY w _ Y
  obtain ⟨fd, cs, sp, hT, nT, C, hb, hsp, hF⟩ := F w mg fa _ KX G.T.g hmg fun x d c P h1 h2 => PySem.W.tab_of G.T KX h1 h2
  exact law_callG KX G.T.g G.T.b G.T.builtins G.T.nolimit hg hT nT C G.T.bmain hobj hints (Nat.le_trans hlen hn2) hr hF hb (fun H hH hS => hsp H a ns hlen hH hS) fun H e s' => hCX w H s1 e s'
end GU

set_option Elab.async false
set_option linter.all false
set_option maxRecDepth 100000
set_option maxHeartbeats 2000000
/-! tuple(elt for tg in iter if ..), whatever the element calls -/
namespace GE
open PySem PySem.Spec PyProof.Rows L2 GenW
section
variable {X : Cx} {pins : List (Addr × Obj)} {σ : L2.St} {H : Hp} {s : Shared}
/-- an around from which the def's generator may be woken -/
structure Near (X : Cx) (A : Around) : Prop where
  hd : A.handled = none
  fr : A.frames = X.A.frames
  dp : A.depth = X.A.depth
  un : A.units ≤ X.A.units + 8
/-- a generator that stands ready, its parts told -/
structure Parts (X : Cx) (pins : List (Addr × Obj)) (σ : L2.St) (scope : Scope) (elt tg iter : Expr) (ifs : List Expr) (gpos : Pos) (vs : List Nat) (g : TG) (tt : TT) (te : TE) (R : It → Hp → Prop) (a : Addr) (s5 : Shared) (it : Addr) (fp : List Addr) (tn : Nat → Heap → Prop) (J : It) (cenv : Env) (s4 : Shared) (H3 : Hp) (go : Obj) (gi : Nat) : Prop where
  gen : ∀ h : Heap, h.get? a = some go → h.IsGen a gi
  isg : s5.heap.IsGen a gi
  lim : s5.heap.NoLimit
  gs : s5.gens[gi]? = some (.fresh (.compStart (.GeneratorExp elt [⟨tg, iter, ifs, 0⟩] scope gpos) 0 (.ref it) .none cenv))
  T : Turn X.prog X.w X.K tg J fp it tn
  t0 : tn 0 s5.heap
  f0 : ∀ b ∈ fp, H3 b = none
  out : ∀ b ∈ fp, b < s4.heap.objs.size
  az : s4.heap.objs.size < a
  al : a < s5.heap.objs.size
  old : s4.heap.objs.size ≤ s5.heap.objs.size
  hco : cenv.scope.isCoroutine = false
  loc : cenv.locals = s4.heap.objs.size
  cel : ∀ x c, cenv.cells.lookup x = some c → c < s4.heap.objs.size
  stk : ∀ b ∈ frs X.stack, b < s4.heap.objs.size
  inv : ∀ (A : Around), Near X A → Inv (gctx X (A.deeper cenv) s4 H3 scope cenv fp) [(a, go)] (wipe σ vs) H3 s5
  pg : ∀ (A : Around), Near X A → PG (gctx X (A.deeper cenv) s4 H3 scope cenv fp) tg g
  pt : ∀ (A : Around), Near X A → PTs (gctx X (A.deeper cenv) s4 H3 scope cenv fp) ifs tt
  pe : ∀ (A : Around), Near X A → PE (gctx X (A.deeper cenv) s4 H3 scope cenv fp) elt te
  back : ∀ (A : Around) pn σ' H' s', Inv (gctx X (A.deeper cenv) s4 H3 scope cenv fp) pn σ' H' s' → Inv X pins σ H' s'
  fresh : s4.heap.objs.size ≤ s5.heap.objs.size
  read : R J H3
def MadeP (X : Cx) (pins : List (Addr × Obj)) (σ : L2.St) (scope : Scope) (elt tg iter : Expr) (ifs : List Expr) (gpos : Pos) (vs : List Nat) (g : TG) (tt : TT) (te : TE) (R : It → Hp → Prop) (u : Value) (s5 : Shared) : Prop :=
  ∃ (a it : Addr) (fp : List Addr) (tn : Nat → Heap → Prop) (J : It) (cenv : Env) (s4 : Shared) (H3 : Hp) (go : Obj) (gi : Nat), u = .ref a ∧ Parts X pins σ scope elt tg iter ifs gpos vs g tt te R a s5 it fp tn J cenv s4 H3 go gi
theorem gen_parts {c P : Addr} {elt tg iter : Expr} {ifs : List Expr} {gpos : Pos} {scope : Scope} {own : List (Str × Nat)} {wi : TI} {g : TG} {tt : TT} {te : TE} {k : Nat} {R : It → Hp → Prop}
    (hc : X.calm = true) (hN : X.N.Nodup) (hr : Room (k + 1) X.A) (TB : GxR.TabB X.base X.mg c P) (hcode : X.env.code = .ref c) (S : GSc X.N X.env.scope scope own) (hi : PI X tg iter wi)
    (hg : ∀ (A : Around) (s : Shared) (H : Hp) (C : Addr) (code : Value) (fp : List Addr), Room k A → PG (gctx X A s H scope (genEnv scope (cloFrom X.env.cells scope.names []) C code builtinsNs X.env) fp) tg g)
    (ht : ∀ (A : Around) (s : Shared) (H : Hp) (C : Addr) (code : Value) (fp : List Addr), Room k A → PTs (gctx X A s H scope (genEnv scope (cloFrom X.env.cells scope.names []) C code builtinsNs X.env) fp) ifs tt)
    (he : ∀ (A : Around) (s : Shared) (H : Hp) (C : Addr) (code : Value) (fp : List Addr), Room k A → PE (gctx X A s H scope (genEnv scope (cloFrom X.env.cells scope.names []) C code builtinsNs X.env) fp) elt te)
    (hs : ∀ v, genFold iter X.env v = pure v) (I : Inv X pins σ H s) (h : wi σ H fun J H1 => GxR.TabG H1 P ∧ ∀ H2, GxR.Tabbed P H1 H2 → R J H2) :
    wpAny (model X.prog X.w) X.A (eval (.GeneratorExp elt [⟨tg, iter, ifs, 0⟩] scope gpos) X.env) (MadeP X pins σ scope elt tg iter ifs gpos (own.map (·.2)) g tt te R) X.xe s := by
  have hfree : ∀ y ∈ scope.names, y.2 = .free → ∃ c, X.env.cells.lookup y.1 = some c := fun y hy e => by
    rcases S.blk.free y hy e with z | z
    · exact I.ok.has _ (.inl z)
    · exact I.ok.has _ (.inr z)
  refine wpAny_GeneratorExp_make S.co (closure_ok hfree) S.cell S.dot S.blk.kind (by have := hr.dp; omega) ?_ hs
  refine thn (hi.run pins s σ H _ I h) fun xv s1 hx => thn hx fun itv s2 h2 => ?_
  obtain ⟨it, fp, tn, J, H1, rfl, I2, T, t2, f2, ⟨ps, hP, htr⟩, q⟩ := h2
  have oP : s2.heap.get? P = some { cls := .none, data := .fields ps } := I2.hok P _ hP
  have cd : PySem.W.CodeHd s2.heap c P := TB.code.keeps I2.bk
  refine ⟨I2.nolimit, ?_⟩
  have nP : ∀ b ∈ fp, b ≠ P := fun b hb z => by
    have q := (f2 b hb).1
    rw [z, hP] at q
    cases q
  have rest : ∀ (code : Value) (h3 : Heap) (tk : Nat) (ps' : Array Value), Heap.ExtBut P s2.heap h3 → h3.get? P = some { cls := .none, data := .fields ps' } → (∃ more, ps' = ps ++ more) → TriplesOk ps'.toList →
      wpAny (model X.prog X.w) X.A (builtinsFor X.env.globals X.env.builtins) (fun bi s4 =>
        ∀ h', h'.Ns s4.heap.objs.size (fun y => if y = ".0" then some (.ref it) else none) → Heap.SameBut s4.heap.objs.size (s4.heap.push { cls := .type "frame", data := .dict #[] }) h' →
          (MadeP X pins σ scope elt tg iter ifs gpos (own.map (·.2)) g tt te R) (.ref h'.objs.size) { s4 with
            gens := s4.gens.push (.fresh (.compStart (.GeneratorExp elt [⟨tg, iter, ifs, 0⟩] scope gpos) 0 (.ref it) .none (genEnv scope (cloFrom X.env.cells scope.names []) s4.heap.objs.size code bi X.env))),
            toks := s4.toks + 1 + 1 + 1,
            heap := h'.push { cls := .type "generator", data := .fields #[.int s4.gens.size 0, .str "<genexpr>" (s4.toks + 1), .str (X.env.qual ++ "<genexpr>") (s4.toks + 1 + 1)] } }) X.xe { s2 with heap := h3, toks := tk } := by
    intro code h3 tk ps' hx hP3 hmore htr3
    obtain ⟨bm, ob, b1, b2, b3, b4, b5, b6, b7, b8⟩ := TB.bm
    refine wpAny_builtinsFor (m := X.mg) ?_ b1 b2 (hx _ _ b4 (I2.bk _ _ b5)) b6 b7 b8 ?_
    · rw [I2.ok.glob]
      exact (I2.mod.glob.keeps I2.bk).extBut hx TB.gP
    obtain ⟨more, rfl⟩ := hmore
    have I3 : Inv X pins σ (upd H1 P (.tbl (ps ++ more))) { s2 with heap := h3, toks := tk } := GxR.inv_tab (more := more) (h' := h3) (g' := s2.gens) (d' := s2.drawn) (t' := tk) I2 hP hx hP3 I2.bare
    have tab : GxR.Tabbed P H1 (upd H1 P (.tbl (ps ++ more))) := ⟨⟨_, upd_same, htr3⟩, fun b hb => upd_ne hb⟩
    have rd := q _ tab
    have t3 : tn 0 h3 := T.keep _ _ _ t2 fun b hb o e => hx b o (nP b hb) e
    have f3 : ∀ b ∈ fp, FpOk X pins (upd H1 P (.tbl (ps ++ more))) b ∧ b < h3.objs.size := fun b hb => by
      refine ⟨⟨?_, (f2 b hb).2⟩, ?_⟩
      · rw [upd_ne (nP b hb)]
        exact (f2 b hb).1
      · obtain ⟨o, e, _⟩ := T.obj _ _ t3 b hb
        exact Heap.lt_size e
    generalize upd H1 P (.tbl (ps ++ more)) = H3 at I3 rd f3
    intro h' hn' hs'
    generalize hs4 : ({ s2 with heap := h3, toks := tk } : Shared) = s4 at I3 hn' hs' ⊢
    have e4 : s4.heap = h3 := by rw [← hs4]
    rw [← e4] at t3 f3
    have hsz : h'.objs.size = s4.heap.objs.size + 1 := by rw [hs'.1, Heap.size_push]
    have hk : ∀ b o, s4.heap.get? b = some o → h'.get? b = some o := fun b o e => by
      rw [hs'.2 b (Nat.ne_of_lt (Heap.lt_size e))]
      exact Heap.get?_push_of_some _ e
    generalize hgo : ({ cls := .type "generator", data := .fields #[.int s4.gens.size 0, .str "<genexpr>" (s4.toks + 1), .str (X.env.qual ++ "<genexpr>") (s4.toks + 1 + 1)] } : Obj) = go
    have isg : ∀ hh : Heap, hh.get? h'.objs.size = some go → hh.IsGen h'.objs.size s4.gens.size := fun hh e => ⟨go, _, _, e, by rw [← hgo], by rw [← hgo], by rw [← hgo]⟩
    have hga : (h'.push go).get? h'.objs.size = some go := Heap.get?_push_size _ (by rw [← hgo]; rfl)
    have bare : AllBare (s4.gens.push (.fresh (.compStart (.GeneratorExp elt [⟨tg, iter, ifs, 0⟩] scope gpos) 0 (.ref it) .none (genEnv scope (cloFrom X.env.cells scope.names []) s4.heap.objs.size code builtinsNs X.env)))) := I3.bare.push rfl
    have kp5 : ∀ b o, s4.heap.get? b = some o → (h'.push go).get? b = some o := fun b o e => Heap.get?_push_of_some _ (hk b o e)
    have rmA : ∀ A, Near X A → Room k (A.deeper (genEnv scope (cloFrom X.env.cells scope.names []) s4.heap.objs.size code builtinsNs X.env)) := fun A N => by
      refine ⟨N.hd, ?_, ?_⟩
      · have := hr.dp
        have := N.dp
        show A.depth + 1 + 3 * k + 5 < _
        omega
      · have := hr.un
        have := N.un
        show A.units + 3 + 16 * k + 200 < _
        omega
    refine ⟨h'.objs.size, it, fp, tn, J, genEnv scope (cloFrom X.env.cells scope.names []) s4.heap.objs.size code builtinsNs X.env, s4, H3, go, s4.gens.size, rfl, ?_⟩
    have hs5 : (h'.push go).objs.size = h'.objs.size + 1 := Heap.size_push ..
    refine { gen := isg, isg := isg _ hga, lim := I3.nolimit.keeps kp5, gs := Array.getElem?_push_size .., T := T, t0 := T.keep _ _ _ t3 fun b _ o e => kp5 b o e, f0 := fun b hb => (f3 b hb).1.1, out := fun b hb => (f3 b hb).2, az := ?_, al := ?_, old := ?_, hco := S.co, loc := rfl, cel := ?_, stk := ?_, inv := ?_, pg := fun A N => hg _ s4 H3 s4.heap.objs.size code fp (rmA A N), pt := fun A N => ht _ s4 H3 s4.heap.objs.size code fp (rmA A N), pe := fun A N => he _ s4 H3 s4.heap.objs.size code fp (rmA A N), back := ?_, fresh := ?_, read := rd }
    · show s4.heap.objs.size < h'.objs.size
      omega
    · show h'.objs.size < (h'.push go).objs.size
      omega
    · show s4.heap.objs.size ≤ (h'.push go).objs.size
      omega
    · intro x c e
      have e : (cloFrom X.env.cells scope.names []).lookup x = some c := e
      rcases cloFrom_mem (PySem.mem_of_lookup e) with z | ⟨z, q⟩
      · cases z
      · obtain ⟨d, hd⟩ := hfree _ z rfl
        rw [hd] at q
        have q : c = d := q
        subst q
        obtain ⟨v, hv⟩ := I3.cell _ _ hd
        exact hv.lt
    · intro b hb
      rcases List.mem_cons.mp (I3.stkSub b hb) with z | z
      · rw [z]; exact I3.lt
      · obtain ⟨_, o, ho, _⟩ := I3.ok.funs.mem z
        exact Nat.lt_of_lt_of_le (Heap.lt_size ho) I3.sz
    · intro A N
      exact gen_start (code := code) (go := go) (tk := s4.toks + 1 + 1 + 1) I3 S.blk hN S.cell f3 N.hd (by show A.frames.map _ = _; rw [N.fr, I3.ok.frames]; rfl) hn' hk (fun v z => by rw [← hgo] at z; cases z) hga hsz bare
    · intro A pn σ' H' s' I'
      exact I3.call' (ch := fp) I'.os I'.base I'.hok I'.bare fun b hb => ⟨(f3 b hb).1.2.2.2.1, (f3 b hb).1.2.1, (f3 b hb).1.2.2.2.2.1, (f3 b hb).1.2.2.2.2.2⟩
    · show s4.heap.objs.size ≤ (h'.push go).objs.size
      omega
  cases hf : codeAmong gpos ps.toList with
  | none =>
    refine wpAny_genexprCodeX hcode (cd.code oP htr) (cd.tab oP) hf fun c' h' tk hx hge hlt hco' _ htab' _ => ?_
    obtain ⟨o1, v1, f1, tf, fl, t1, inF, tx, t0, op, _, _, _, _, _, _, _, _, _, htr', _⟩ := hco'
    exact rest _ h' tk _ hx htab'.2 ⟨_, rfl⟩ htr'
  | some cv =>
    refine wpAny_genexprCode_hit hcode (cd.code oP htr) hf ?_
    exact rest cv s2.heap s2.toks ps (Heap.ExtBut.refl _ _) oP ⟨#[], by simp⟩ htr
/-! ### all that is handed out is put into the list at S -/
def lo (acc : Array Value) (c : Nat) : Obj := { cls := .type "list", dict := none, data := .seq acc c, slots := #[] }
def GRt (Y : Cx) (pn : List (Addr × Obj)) (S : Addr) (Qt : List V → Hp → Prop) : GenEnd := fun _ _ r s1 =>
  ((r = .ok (.ret .none) ∨ r = .ok .next) ∧ ∃ σ' H' ys acc c, Inv Y (pn ++ [(S, lo acc c)]) σ' H' s1 ∧ Vals ys acc.toList ∧ Qt ys H') ∨ ∃ e, r = .error e ∧ (fun (_ : Value) (_ : Shared) => False) e s1
def GYt (Y : Cx) (pn : List (Addr × Obj)) (S : Addr) : Protocol := fun _ _ v s1 kap =>
  ∃ σ' H' acc c, Inv Y (pn ++ [(S, lo acc c)]) σ' H' s1 ∧ acc.size < sizeLine ∧
    ∀ (s2 : Shared) (c2 : Nat), (∀ b o, b ≠ S → s1.heap.get? b = some o → s2.heap.get? b = some o) → s2.heap.get? S = some (lo (acc.push v) c2) → s2.os = s1.os → AllBare s2.gens → kap (.send .none) s2
/-- one turn's reading; ys: what was handed out so far -/
def StepT (J : It) (g : TG) (tt : TT) (te : TE) (vs : List Nat) (σ : L2.St) (Qt : List V → Hp → Prop) (W : Nat → Nat → List V → Hp → Prop) (i m : Nat) (ys : List V) (H : Hp) : Prop :=
  (J.stop i H ∧ Qt ys H) ∨ (J.go i H ∧ ∃ Nx : List V → Hp → Prop, (∀ zs H', Nx zs H' → ∃ m', m' < m ∧ W (i + 1) m' zs H') ∧ ∀ x H', J.yld i H x H' → g x (wipe σ vs) H' fun σ2 H2 => wipe σ2 vs = wipe σ vs ∧ tt σ2 H2 fun b H3 =>
    if b = true then te σ2 H3 fun y H4 => ys.length < sizeLine ∧ Nx (ys ++ [y]) H4 else Nx ys H3)
theorem seg_turnsT {A0 : Around} {s3 : Shared} {H3 : Hp} {scope : Scope} {cenv : Env} {fp : List Addr} {pn : List (Addr × Obj)} {it S : Addr} {J : It} {tn : Nat → Heap → Prop} {elt tg iter : Expr} {ifs : List Expr} {pos : Pos} {vs : List Nat}
    {g : TG} {tt : TT} {te : TE} {Qt : List V → Hp → Prop} {W : Nat → Nat → List V → Hp → Prop} (hc : X.calm = true) (hco : cenv.scope.isCoroutine = false) (hpn : ∀ p ∈ pn, p.1 ∉ fp) (hS : S ∉ fp) (hS1 : s3.heap.objs.size ≤ S) (hS2 : S ≠ cenv.locals) (hS3 : ∀ x c, cenv.cells.lookup x = some c → c ≠ S)
    (hS4 : ∀ p ∈ pn, p.1 ≠ S) (hS5 : S ∉ frs X.stack)
    (T : Turn X.prog X.w X.K tg J fp it tn) (pg : PG (gctx X (A0.deeper cenv) s3 H3 scope cenv fp) tg g) (pt : PTs (gctx X (A0.deeper cenv) s3 H3 scope cenv fp) ifs tt) (pe : PE (gctx X (A0.deeper cenv) s3 H3 scope cenv fp) elt te)
    (turn : ∀ i m ys H', W i m ys H' → StepT J g tt te vs σ Qt W i m ys H') :
    ∀ (m n : Nat), m < n → ∀ (i : Nat) (s0 s1 : Shared) (H' : Hp) (ys : List V) (acc : Array Value) (c : Nat), Inv (gctx X (A0.deeper cenv) s3 H3 scope cenv fp) (pn ++ [(S, lo acc c)]) (wipe σ vs) H' s1 → Vals ys acc.toList → tn i s1.heap → (∀ b ∈ fp, H' b = none) → W i m ys H' →
      Seg (model X.prog X.w) A0 (GRt (gctx X (A0.deeper cenv) s3 H3 scope cenv fp) pn S Qt) (GYt (gctx X (A0.deeper cenv) s3 H3 scope cenv fp) pn S) n s0
        (.compLoop (.GeneratorExp elt [⟨tg, iter, ifs, 0⟩] scope pos) 0 (.ref it) .none cenv) ((model X.prog X.w).den (.compLoop (.GeneratorExp elt [⟨tg, iter, ifs, 0⟩] scope pos) 0 (.ref it) .none cenv)) [] s1 := by
  intro m
  induction m using Nat.strongRecOn with
  | ind m ih =>
    intro n hmn i s0 s1 H1 ys acc c I1 v1 t1 f1 w1
    have hpl : ∀ p ∈ pn ++ [(S, lo acc c)], p.1 ∉ fp := fun p hp => by
      rcases List.mem_append.mp hp with z | z
      · exact hpn p z
      · rw [List.mem_singleton.mp z]; exact hS
    have own : ∀ {pl : List (Addr × Obj)} {σ' : L2.St} {H' : Hp} {s' : Shared}, (∀ p ∈ pl, p.1 ∉ fp) → Inv (gctx X (A0.deeper cenv) s3 H3 scope cenv fp) pl σ' H' s' → (∀ b ∈ fp, H' b = none) → ∀ b ∈ fp, FpOk (gctx X (A0.deeper cenv) s3 H3 scope cenv fp) pl H' b :=
      fun {pl σ' H' s'} hpl I' hn b hb => ⟨hn b hb, (I'.ok.exf b hb).1, I'.ok.exfs b hb, .inl hb, fun x c e => (I'.ok.exf b hb).2 x c e, fun p hp z => hpl p (by simpa using hp) (by rw [z]; exact hb)⟩
    show Seg _ A0 _ _ _ s0 _ ((compTurn (.GeneratorExp elt [⟨tg, iter, ifs, 0⟩] scope pos) 0 (.ref it) .none cenv).onRaise (leaving cenv)) [] s1
    rw [compTurn_gen]
    rw [Sem.onRaise_eq_wrap]
    refine seg_bind_wrap (wpAny_standAt ?_)
    rcases turn i m ys H1 w1 with ⟨stop, qt⟩ | ⟨go, Nx, hNx, step⟩
    · refine seg_bind_wrap (wpF (T.done (gctx X (A0.deeper cenv) s3 H3 scope cenv fp) rfl rfl rfl hc i _ s1 _ H1 (fun _ _ => False) I1 (own hpl I1 f1) t1 stop) fun r s2 ⟨hr, I2⟩ => ?_)
      subst hr
      exact seg_end (.ok .next) (.inl ⟨.inr rfl, _, H1, ys, acc, c, I2, v1, qt⟩)
    · refine seg_bind_wrap (wpF (T.item (gctx X (A0.deeper cenv) s3 H3 scope cenv fp) rfl rfl rfl hc i _ s1 _ H1 (fun _ _ => False) I1 (own hpl I1 f1) t1 go) fun r s2 ⟨u, hr, h2⟩ => ?_)
      subst hr
      refine seg_bind_wrap (wpF h2 fun _ s4 ⟨x, H4, I4, r4, y4, t4, f4⟩ => ?_)
      have P4 := I4.pinned (own hpl I4 f4) (T.obj _ _ t4)
      refine seg_bind_wrap (wpF (pg.run _ s4 _ H4 x u _ P4 r4 (step x H4 y4)) fun _ s5 ⟨σ5, H5, I5, w5, q5⟩ => ?_)
      refine seg_bind_wrap (wpF (pt.run _ s5 σ5 H5 _ I5 q5) fun b s6 ⟨H6, I6, q6⟩ => ?_)
      have back : ∀ {s' : Shared} {H' : Hp}, Inv (gctx X (A0.deeper cenv) s3 H3 scope cenv fp) ((pn ++ [(S, lo acc c)]) ++ pinsAt fp s4.heap) σ5 H' s' →
          Inv (gctx X (A0.deeper cenv) s3 H3 scope cenv fp) (pn ++ [(S, lo acc c)]) (wipe σ vs) H' s' ∧ tn (i + 1) s'.heap ∧ ∀ b ∈ fp, H' b = none := fun {s' H'} I' => by
        have at' : ∀ b ∈ fp, ∀ o, s4.heap.get? b = some o → s'.heap.get? b = some o ∧ H' b = none := fun b hb o e =>
          let z := I'.pin (b, o) (List.mem_append_right _ (List.mem_append_right _ (mem_pinsAt hb e)))
          ⟨z.1, z.2.1⟩
        refine ⟨I'.unpinned.weak (by rw [← w5, wipe_length]) fun j v e => ?_, T.keep _ _ _ t4 fun b hb o e => (at' b hb o e).1, fun b hb => ?_⟩
        · rw [← w5] at e
          exact (wipe_some e).1
        · obtain ⟨o, e, _⟩ := T.obj _ _ t4 b hb
          exact (at' b hb o e).2
      cases b with
      | false =>
        have q6 : Nx ys H6 := by simpa using q6
        obtain ⟨m', hm, w'⟩ := hNx ys H6 q6
        obtain ⟨I7, t7, f7⟩ := back I6
        simp only [Bool.false_eq_true, if_false]
        exact seg_again rfl (ih m' hm n (by omega) (i + 1) s0 s6 H6 ys acc c I7 v1 t7 f7 w')
      | true =>
        rw [if_pos rfl] at q6
        simp only [if_true]
        have hy : ∀ v, yieldOut cenv v = yieldValue v := fun v => by
          unfold yieldOut
          simp [hco]
        simp only [hy]
        rw [Sem.bind_eq_wrap', Sem.bind_eq_wrap']
        rw [Sem.wrap_wrap, Sem.wrap_wrap]
        refine seg_wrap (wpF (pe.run _ s6 σ5 H6 _ I6 q6) fun v s7 ⟨yv, H7, I7, r7, hlt, qn⟩ => ?_)
        obtain ⟨I8, t8, f8⟩ := back I7
        obtain ⟨n, rfl⟩ : ∃ k, n = k + 1 := ⟨n - 1, by omega⟩
        have hsz : acc.size < sizeLine := by
          have e1 : ys.length = acc.toList.length := v1.length
          rw [← Array.length_toList, ← e1]
          exact hlt
        refine seg_at (seg_yield rfl rfl rfl ⟨_, H7, acc, c, I8, hsz, fun s9 c2 hk hS9 ho hb => ?_⟩)
        obtain ⟨m', hm, w'⟩ := hNx _ H7 qn
        have pS := I8.pin (S, lo acc c) (List.mem_append_right _ (List.mem_append_right _ (List.mem_singleton.mpr rfl)))
        have I9 : Inv (gctx X (A0.deeper cenv) s3 H3 scope cenv fp) pn (wipe σ vs) H7 s7 := I8.unpinned
        have I10 : Inv (gctx X (A0.deeper cenv) s3 H3 scope cenv fp) pn (wipe σ vs) H7 { s7 with heap := s9.heap, toks := s9.toks } :=
          I9.turned (t' := s9.toks) (it := S) hk pS.2.1 hS2 (.inr hS1) hS3 fun p hp => hS4 p (by simpa using hp)
        have I11 : Inv (gctx X (A0.deeper cenv) s3 H3 scope cenv fp) (pn ++ [(S, lo (acc.push v) c2)]) (wipe σ vs) H7 s9 := by
          refine (inv_heap (s' := s9) I10 rfl ho hb).pins_of fun p hp => ?_
          rcases List.mem_append.mp hp with z | z
          · exact (inv_heap (s' := s9) I10 rfl ho hb).pin p (List.mem_append_right _ z)
          · rw [List.mem_singleton.mp z]
            exact ⟨hS9, pS.2.1, hS2, hS5, fun v z => by cases z⟩
        refine seg_again rfl (ih m' hm n (by omega) (i + 1) s9 s9 H7 _ (acc.push v) c2 I11 ?_ (T.keep _ _ _ t8 fun b hb' o e => hk b o (fun z => hS (by rw [← z]; exact hb')) e) f8 w')
        rw [Array.toList_push]
        exact v1.append (.cons r7 .nil)
/-- list.extend walks the generator -/
theorem extend_walk {Y : Cx} {pn : List (Addr × Obj)} {Qt : List V → Hp → Prop} {A : Around} {R : Result → Shared → Prop} {a S : Addr} {go : Obj} {g : Nat} {res : Value} (hh : A.handled = none) (hd : A.depth < recursionLimit)
    (hpa : (a, go) ∈ pn) (hgen : ∀ h : Heap, h.get? a = some go → h.IsGen a g) (hSa : S ≠ a)
    (eT : ∀ σ' H' s' ys acc c, Inv Y (pn ++ [(S, lo acc c)]) σ' H' s' → Vals ys acc.toList → Qt ys H' → R (.ok (.ret res)) s') :
    ∀ (n : Nat) (s1 : Shared) (gs : GenState), s1.heap.IsGen a g → s1.heap.NoLimit → s1.gens[g]? = some gs →
      gs.Goes (model Y.prog Y.w) A.in1.in1 (GRt Y pn S Qt) (GYt Y pn S) n (.send .none) (s1.setGen g .running) → codeAny (model Y.prog Y.w) A (.builtin "list.extend.loop" ⟨[.ref S, .ref a, res], []⟩) R s1 := by
  have fin : ∀ {s2 : Shared} {h' : Heap}, (∃ σ' H' ys acc c, Inv Y (pn ++ [(S, lo acc c)]) σ' H' s2 ∧ Vals ys acc.toList ∧ Qt ys H') → (∀ b o, s2.heap.get? b = some o → h'.get? b = some o) → R (.ok (.ret res)) { s2.setGen g .finished with heap := h' } := fun {s2 h'} hp hk => by
    obtain ⟨σ', H', ys, acc, c, I2, v2, q⟩ := hp
    have I3 : Inv Y (pn ++ [(S, lo acc c)]) σ' H' (s2.setGen g .finished) := inv_heap I2 rfl rfl (allBare_setGen I2.bare rfl)
    exact eT σ' H' _ ys acc c (I3.kept (t' := s2.toks) hk) v2 q
  intro n
  induction n with
  | zero =>
    intro s1 gs isg lim hgs goes
    refine codeAny_builtin F.entry_extend_loop ?_
    rw [Around.under_plainId F.plain_extend_loop _]
    show wpAny _ A.in1 (pyNext (.ref a) >>= _) _ _ s1
    refine wpAny_bind (next_genG (A := A.in1) hh lim hd isg hgs goes (fun v s2 gs' hb hv => ?_) (fun s2 hp h' hk => ?_) fun e s2 he => he.elim)
    · obtain ⟨σ', H', acc, c, I2, hz, q2⟩ := hv
      have pS := I2.pin (S, lo acc c) (List.mem_append_right _ (List.mem_append_right _ (List.mem_singleton.mpr rfl)))
      have e0 : s2.heap.get? S = some (lo acc c) := pS.1
      have hS3 := Heap.get?_update_self (Obj.mapSeq (·.push v)) e0 rfl
      exact (q2 { s2 with heap := s2.heap.update S (Obj.mapSeq (·.push v)) } _ (fun b o hbS e => (Heap.get?_update_other _ _ (Ne.symm hbS)).trans e) hS3 rfl I2.bare).elim
    · exact wpAny_pure (fin hp hk)
  | succ n ih =>
    intro s1 gs isg lim hgs goes
    have hgl : g < s1.gens.size := (Array.getElem?_eq_some_iff.mp hgs).1
    refine codeAny_builtin F.entry_extend_loop ?_
    rw [Around.under_plainId F.plain_extend_loop _]
    show wpAny _ A.in1 (pyNext (.ref a) >>= _) _ _ s1
    refine wpAny_bind (wpAny_gsz (n := g + 1) hgl (next_genG (A := A.in1) hh lim hd isg hgs goes (fun v s2 gs' hb hv => ?_) (fun s2 hp h' hk => ?_) fun e s2 he => he.elim))
    · intro hsz
      obtain ⟨σ', H', acc, c, I2, hz, q2⟩ := hv
      have pS := I2.pin (S, lo acc c) (List.mem_append_right _ (List.mem_append_right _ (List.mem_singleton.mpr rfl)))
      have e0 : s2.heap.get? S = some (lo acc c) := pS.1
      show wpAny _ A.in1 (updateSeq S (·.push v) >>= _) _ _ _
      refine wpAny_bind (wpAny_updateSeq (s := s2.setGen g gs') e0 rfl (wpAny_pure ⟨plainId_quiet F.plain_extend_loop _, ?_⟩) (Nat.le_of_lt hz) (by show (acc.push v).size ≤ sizeLine + 1; rw [Array.size_push]; omega))
      have hS3 := Heap.get?_update_self (Obj.mapSeq (·.push v)) e0 rfl
      have k3 : ∀ b o, b ≠ S → s2.heap.get? b = some o → (s2.heap.update S (Obj.mapSeq (·.push v))).get? b = some o := fun b o hbS e => (Heap.get?_update_other _ _ (Ne.symm hbS)).trans e
      have hg2 : g < s2.gens.size := by
        have z : (s2.setGen g gs').gens.size = s2.gens.size := setGen_size _ _ _
        have hsz : g + 1 ≤ (s2.setGen g gs').gens.size := hsz
        omega
      have ha2 := (I2.pin (a, go) (List.mem_append_right _ (List.mem_append_left _ hpa))).1
      have lim2 := I2.nolimit
      refine ih { s2.setGen g gs' with heap := s2.heap.update S (Obj.mapSeq (·.push v)) } gs' (hgen _ (k3 a go (Ne.symm hSa) ha2)) ?_ (setGen_at hg2) ?_
      · obtain ⟨mc, hns, hnn⟩ := lim2
        refine ⟨mc, hns.at' fun o e => k3 _ o (fun z => ?_) e, hnn⟩
        obtain ⟨oo, es, ep, ho, hdd, _⟩ := hns
        rw [z, e0] at ho
        cases ho
        cases hdd
      · exact q2 _ _ k3 hS3 rfl (allBare_setGen (s := s2.setGen g gs') (allBare_setGen I2.bare hb) rfl)
    · intro _
      exact wpAny_pure (fin hp hk)
/-- what the reading of tuple(..) asks of the walk -/
def RT (g : TG) (tt : TT) (te : TE) (vs : List Nat) (σ : L2.St) (Qt : List V → Hp → Prop) : It → Hp → Prop := fun J H2 =>
  ∃ W : Nat → Nat → List V → Hp → Prop, (∃ m, W 0 m [] H2) ∧ ∀ i m ys H', W i m ys H' → StepT J g tt te vs σ Qt W i m ys H'
theorem collect_made {scope : Scope} {elt tg iter : Expr} {ifs : List Expr} {gpos : Pos} {vs : List Nat} {g : TG} {tt : TT} {te : TE} {Qt : List V → Hp → Prop} {a it : Addr} {s5 s4 : Shared} {fp : List Addr} {tn : Nat → Heap → Prop} {J : It} {cenv : Env} {H3 : Hp} {go : Obj} {gi : Nat} {A : Around} {E : Value → Shared → Prop} {Q : List Value → Shared → Prop}
    (hc : X.calm = true) (Pt : Parts X pins σ scope elt tg iter ifs gpos vs g tt te (RT g tt te vs σ Qt) a s5 it fp tn J cenv s4 H3 go gi) (N : Near X A.in1.in1) (hd : A.depth < recursionLimit) (bare : AllBare s5.gens)
    (hQ : ∀ pn σ' H' s' ys acc, Inv (gctx X (A.in1.in1.deeper cenv) s4 H3 scope cenv fp) pn σ' H' s' → Vals ys acc → Qt ys H' → Q acc s') : wpAny (model X.prog X.w) A (collect (.ref a)) Q E s5 := by
  have hSa : s5.heap.objs.size ≠ a := Nat.ne_of_gt Pt.al
  obtain ⟨W, ⟨m0, w0⟩, turn⟩ := Pt.read
  unfold collect
  refine wpAny_bind (wpAny_runValue (codeAny_builtin F.entry_proto_collect ?_))
  rw [Around.under_plainId F.plain_proto_collect _]
  show wpAny _ A.in1 (newList [] >>= fun l => again (.builtin "list.__iadd__" ⟨[l, .ref a], []⟩)) _ _ s5
  refine wpAny_bind (wpAny_newObj_type ?_)
  refine wpAny_pure ⟨plainId_quiet F.plain_list_iadd _, codeAny_builtin F.entry_list_iadd ?_⟩
  rw [Around.under_plainId F.plain_list_iadd _]
  have k1 : ∀ b o, s5.heap.get? b = some o → (s5.heap.push { cls := .type "list", data := .seq ([] : List Value).toArray }).get? b = some o := fun b o e => Heap.get?_push_of_some _ e
  have hS1 : (s5.heap.push { cls := .type "list", data := .seq ([] : List Value).toArray }).get? s5.heap.objs.size = some { cls := .type "list", data := .seq ([] : List Value).toArray } := Heap.get?_push_size _ rfl
  have gty : ({ s5 with heap := s5.heap.push { cls := .type "list", data := .seq ([] : List Value).toArray } } : Shared).TypeIs (.ref a) "generator" := Heap.IsGen.typeIs (s := { s5 with heap := s5.heap.push { cls := .type "list", data := .seq ([] : List Value).toArray } }) (Pt.isg.keeps k1)
  show wpAny _ A.in1 (Builtin.List.listExtendWith (.ref s5.heap.objs.size) (.ref a) (.ref s5.heap.objs.size)) _ _ _
  unfold Builtin.List.listExtendWith
  refine wpAny_bind (wpAny_typeOf gty ?_)
  have h1 : Builtin.List.listSameRef (.ref s5.heap.objs.size) (.ref a) = false := by simp [Builtin.List.listSameRef, hSa]
  rw [if_neg (by rw [h1]; decide)]
  refine wpAny_bind (wpAny_pyIter_gen (s := { s5 with heap := s5.heap.push { cls := .type "list", data := .seq ([] : List Value).toArray } }) (Pt.isg.keeps k1) ?_)
  refine wpAny_bind (wpAny_holding ?_)
  unfold Builtin.List.listLengthHint
  refine wpAny_bind (wpAny_specialOf gty F.gen_no_len ?_)
  show wpAny _ A.in1 (specialOf (Value.ref a) (Str.ofString "__length_hint__") >>= _) _ _ _
  refine wpAny_bind (wpAny_specialOf gty F.gen_no_hint (wpAny_pure ?_))
  show wpAny _ A.in1 (rule "list.extend.makes-room" >>= fun _ => Builtin.List.listTouch (.ref s5.heap.objs.size) >>= fun _ => again (.builtin "list.extend.loop" ⟨[.ref s5.heap.objs.size, .ref a, .ref s5.heap.objs.size], []⟩)) _ _ _
  refine wpAny_bind (wpAny_rule (wpAny_bind ?_))
  show wpAny _ A.in1 (updateSeq s5.heap.objs.size (·.push .none) >>= fun _ => updateSeq s5.heap.objs.size (·.pop)) _ _ _
  refine wpAny_bind (wpAny_updateSeq hS1 rfl ?_)
  have hS2 := Heap.get?_update_self (Obj.mapSeq (·.push Value.none)) hS1 rfl
  refine wpAny_updateSeq hS2 rfl ?_
  have hS3 := Heap.get?_update_self (Obj.mapSeq (·.pop)) hS2 rfl
  have k3 : ∀ b o, s5.heap.get? b = some o → (((s5.heap.push { cls := .type "list", data := .seq ([] : List Value).toArray }).update s5.heap.objs.size (Obj.mapSeq (·.push Value.none))).update s5.heap.objs.size (Obj.mapSeq (·.pop))).get? b = some o := fun b o e =>
    have ne : s5.heap.objs.size ≠ b := Nat.ne_of_gt (Heap.lt_size e)
    (Heap.get?_update_other _ _ ne).trans ((Heap.get?_update_other _ _ ne).trans (k1 b o e))
  refine wpAny_pure ⟨plainId_quiet F.plain_extend_loop _, ?_⟩
  generalize ((s5.heap.push { cls := .type "list", data := .seq ([] : List Value).toArray }).update s5.heap.objs.size (Obj.mapSeq (·.push Value.none))).update s5.heap.objs.size (Obj.mapSeq (·.pop)) = h6 at hS3 k3 ⊢
  have hS6 : ∃ c, h6.get? s5.heap.objs.size = some (lo #[] c) := ⟨_, hS3⟩
  obtain ⟨c6, hS6⟩ := hS6
  have I5 := Pt.inv A.in1.in1 N
  have zS : s4.heap.objs.size ≤ s5.heap.objs.size := Pt.old
  have I6 : ∀ g' : Array GenState, AllBare g' → Inv (gctx X (A.in1.in1.deeper cenv) s4 H3 scope cenv fp) ([(a, go)] ++ [(s5.heap.objs.size, lo #[] c6)]) (wipe σ vs) H3 { s5 with heap := h6, gens := g' } := fun g' hg' => by
    have I7 : Inv (gctx X (A.in1.in1.deeper cenv) s4 H3 scope cenv fp) [(a, go)] (wipe σ vs) H3 { s5 with heap := h6, gens := g' } := inv_heap (I5.kept (t' := s5.toks) k3) rfl rfl hg'
    refine I7.pins_of fun p hp => ?_
    rcases List.mem_append.mp hp with z | z
    · exact I7.pin p (List.mem_append_right _ z)
    · rw [List.mem_singleton.mp z]
      refine ⟨hS6, I5.hok.fresh (Nat.le_refl _), ?_, fun z => ?_, fun v z => by cases z⟩
      · show s5.heap.objs.size ≠ cenv.locals
        rw [Pt.loc]
        have := Pt.az
        have := Pt.al
        exact Nat.ne_of_gt (Nat.lt_trans Pt.az Pt.al)
      · exact absurd (Pt.stk _ z) (Nat.not_lt.mpr zS)
  refine extend_walk (A := A) (Y := gctx X (A.in1.in1.deeper cenv) s4 H3 scope cenv fp) (pn := [(a, go)]) (Qt := Qt) (go := go) (g := gi) N.hd hd (List.mem_singleton.mpr rfl) Pt.gen hSa (fun σ' H' s' ys acc c I' v' q => ?_) (m0 + 1) { s5 with heap := h6 } _ (Pt.isg.keeps k3) (Pt.lim.keeps k3) Pt.gs ⟨rfl, ?_⟩
  · show wpAny _ A (load s5.heap.objs.size >>= _) _ _ s'
    have pS := (I'.pin (s5.heap.objs.size, lo acc c) (List.mem_append_right _ (List.mem_append_right _ (List.mem_singleton.mpr rfl)))).1
    refine wpAny_bind (wpAny_load pS ?_)
    exact wpAny_pure (hQ _ σ' H' s' ys acc.toList I' v' q)
  · have t6 : tn 0 h6 := Pt.T.keep _ _ _ Pt.t0 fun b _ o e => k3 b o e
    refine seg_first (fun A Q E hq => Pt.T.self A 0 _ Q E t6 hq) ?_
    refine seg_turnsT (S := s5.heap.objs.size) hc Pt.hco (fun p hp z => ?_) (fun z => ?_) zS ?_ (fun x c e z => ?_) (fun p hp => ?_) (fun z => ?_) Pt.T (Pt.pg _ N) (Pt.pt _ N) (Pt.pe _ N) turn m0 (m0 + 1) (Nat.lt_succ_self _) 0 _ _ H3 [] #[] c6 (I6 _ (allBare_setGen (s := { s5 with heap := h6 }) bare rfl)) .nil t6 Pt.f0 w0
    · rw [List.mem_singleton.mp hp] at z
      exact absurd (Pt.out _ z) (Nat.not_lt.mpr (Nat.le_of_lt Pt.az))
    · exact absurd (Pt.out _ z) (Nat.not_lt.mpr zS)
    · rw [Pt.loc]
      exact Nat.ne_of_gt (Nat.lt_trans Pt.az Pt.al)
    · have := Pt.cel x c e
      rw [z] at this
      exact absurd this (Nat.not_lt.mpr zS)
    · rw [List.mem_singleton.mp hp]
      exact Ne.symm hSa
    · exact absurd (Pt.stk _ z) (Nat.not_lt.mpr zS)
theorem code_tuple_made {scope : Scope} {elt tg iter : Expr} {ifs : List Expr} {gpos : Pos} {vs : List Nat} {g : TG} {tt : TT} {te : TE} {Qt : List V → Hp → Prop} {a it : Addr} {s5 s4 : Shared} {fp : List Addr} {tn : Nat → Heap → Prop} {J : It} {cenv : Env} {H3 : Hp} {go : Obj} {gi : Nat} {A : Around} {E : Value → Shared → Prop} {Q1 : Value → Shared → Prop}
    (hc : X.calm = true) (Pt : Parts X pins σ scope elt tg iter ifs gpos vs g tt te (RT g tt te vs σ Qt) a s5 it fp tn J cenv s4 H3 go gi) (N : Near X A.in1.in1.in1) (hd : A.depth < recursionLimit) (bare : AllBare s5.gens)
    (hQ : ∀ pn σ' H' s' ys acc, Inv (gctx X (A.in1.in1.in1.deeper cenv) s4 H3 scope cenv fp) pn σ' H' s' → Vals ys acc → Qt ys H' → acc.toArray.size ≤ sizeLine ∧ Q1 (.ref s'.heap.objs.size) { s' with heap := s'.heap.push { cls := .type "tuple", data := .seq acc.toArray } }) :
    codeAny (model X.prog X.w) A (.call (.builtin "tuple.__new__") ⟨[.type "tuple", .ref a], []⟩) (wants Q1 E) s5 := by
  refine codeAny_of_tree ?_
  show wpAny _ A.in1 (do checkBuiltinCall "tuple.__new__" ⟨[.type "tuple", .ref a], []⟩; again (.builtin "tuple.__new__" ⟨[.type "tuple", .ref a], []⟩)) _ _ s5
  refine wpAny_bind (wpAny_of_eq (F.newCall_tuple_1 _) (wpAny_pure ⟨plainId_quiet F.plain_tuple_new _, codeAny_builtin F.entry_tuple_new ?_⟩))
  rw [Around.under_plainId F.plain_tuple_new _]
  have hsub := sub_tuple_self
  have hinit := init_tuple_lookup
  have hmh := madeHere_tuple
  have hTI : s5.TypeIs (.ref a) "generator" := Pt.isg.typeIs
  wp_walk using wpAny_typeOf hTI, collect_made (A := A.in1) hc Pt N hd bare
  intro pn σ' H' s' ys acc I' v' q
  obtain ⟨hz, h1⟩ := hQ pn σ' H' s' ys acc I' v' q
  show wpAny _ _ (Builtin.Tuple.tupleExact acc.toArray >>= fun v => ret v) _ _ _
  unfold Builtin.Tuple.tupleExact
  refine wpAny_bind (wpAny_newObj_type ?_ hz)
  exact wpAny_pure h1
/-- tuple(elt for tg in iter if ..) -/
def tTG (P : Addr) (wi : TI) (g : TG) (tt : TT) (te : TE) (vs : List Nat) : TE := fun σ H Q => wi σ H fun J H1 => GxR.TabG H1 P ∧ ∀ H2, GxR.Tabbed P H1 H2 →
  RT g tt te vs σ (fun ys H' => ys.length ≤ sizeLine ∧ ∀ q, H' q = none → Q (.ref q) (upd H' q (.tup ys))) J H2
theorem pe_tupleG {c P : Addr} {elt tg iter : Expr} {ifs : List Expr} {p pos gpos : Pos} {scope : Scope} {own : List (Str × Nat)} {wi : TI} {g : TG} {tt : TT} {te : TE} {k : Nat}
    (hc : X.calm = true) (hN : X.N.Nodup) (hr : Room (k + 1) X.A) (hgl : Gl X "tuple") (hm : X.mg "tuple" = none) (TB : GxR.TabB X.base X.mg c P) (hcode : X.env.code = .ref c) (S : GSc X.N X.env.scope scope own) (hi : PI X tg iter wi)
    (hg : ∀ (A : Around) (s : Shared) (H : Hp) (C : Addr) (code : Value) (fp : List Addr), Room k A → PG (gctx X A s H scope (genEnv scope (cloFrom X.env.cells scope.names []) C code builtinsNs X.env) fp) tg g)
    (ht : ∀ (A : Around) (s : Shared) (H : Hp) (C : Addr) (code : Value) (fp : List Addr), Room k A → PTs (gctx X A s H scope (genEnv scope (cloFrom X.env.cells scope.names []) C code builtinsNs X.env) fp) ifs tt)
    (he : ∀ (A : Around) (s : Shared) (H : Hp) (C : Addr) (code : Value) (fp : List Addr), Room k A → PE (gctx X A s H scope (genEnv scope (cloFrom X.env.cells scope.names []) C code builtinsNs X.env) fp) elt te)
    (hs : ∀ v, genFold iter X.env v = pure v := by intro _; rfl) (hb : bootBuiltins "tuple" = some (.type "tuple") := by decide +kernel)
    (hse : starEach [.GeneratorExp elt [⟨tg, iter, ifs, 0⟩] scope gpos] X.env = (false, eval (.GeneratorExp elt [⟨tg, iter, ifs, 0⟩] scope gpos) X.env) :: starEach [] X.env := by rfl) :
    PE X (.Call (.Name "tuple" p) [.GeneratorExp elt [⟨tg, iter, ifs, 0⟩] scope gpos] [] pos) (tTG P wi g tt te (own.map (·.2))) := by
  refine ⟨fun pins s σ H Q I h => ?_⟩
  refine Call_ (ld_blt I hgl hm hb (PyProof.Rows.callWith_type1 (args_cons (thn (gen_parts hc hN hr TB hcode S hi hg ht he hs I h) fun u s5 hu => args_nil ?_) hse) hse rfl))
  obtain ⟨a, it, fp, tn, J, cenv, s4, H3, go, gi, rfl, Pt⟩ := hu
  have N : Near X X.A.in1.in1.in1.in1 := ⟨hr.hd, rfl, rfl, by show X.A.units + 1 + 1 + 1 + 1 ≤ X.A.units + 8; omega⟩
  have bare := (Pt.inv _ N).bare
  refine callType_codes (Q₁ := fun obj s1 => s1.TypeIs obj "tuple" ∧ EP X pins σ Q obj s1) F.called_tuple (F.typeCall_tuple_1 _) F.entry_object_init
    (code_tuple_made (A := X.A.in1) hc Pt N (by have := hr.dp; show X.A.depth < _; omega) bare fun pn σ' H' s' ys acc I' v' q => ?_) fun obj s1 h1 => ?_
  · have I2 := Pt.back _ pn σ' H' s' I'
    have el : ys.length = acc.length := v'.length
    refine ⟨by rw [List.size_toArray, ← el]; exact q.1, ⟨_, Heap.get?_push_size _ rfl, rfl⟩, .ref s'.heap.objs.size, upd H' s'.heap.objs.size (.tup ys), ?_, rfl, q.2 _ (I2.hok.fresh (Nat.le_refl _))⟩
    exact I2.laid (t' := s'.toks) (fun c o e => Heap.get?_push_of_some _ e) (Nat.le_refl _) (show ObjOk X.prog X.w _ _ _ (.tup ys) from ⟨q.1, acc, v', IsTup.new _ _⟩)
  · exact ⟨h1.1, F.args_object_init_2 obj _, object_init_meets F.called_tuple.init.lookup F.called_tuple.made (by decide) X.prog X.w X.A.in1 _ s1 ⟨h1.1, rfl, h1.2⟩⟩
end
section
variable {J : It} {n : Nat} {G : Hp → Prop} {Y : Nat → Hp → V → Hp → Prop}
theorem tg_it (w : Walk J n G Y) {g : TG} {tt : TT} {te : TE} {vs : List Nat} {σ : L2.St} {H2 : Hp} {Qt : List V → Hp → Prop} (Pv : Nat → List V → Hp → Prop) (h0 : Pv 0 [] H2) (hG : ∀ i ys H, i ≤ n → Pv i ys H → G H)
    (hs : ∀ i x ys H H', i < n → Pv i ys H → Y i H x H' → g x (wipe σ vs) H' fun σ2 H2 => wipe σ2 vs = wipe σ vs ∧ tt σ2 H2 fun b H3 =>
      if b = true then te σ2 H3 fun y H4 => ys.length < sizeLine ∧ Pv (i + 1) (ys ++ [y]) H4 else Pv (i + 1) ys H3) (hd : ∀ ys H, Pv n ys H → Qt ys H) : RT g tt te vs σ Qt J H2 := by
  refine ⟨fun i m ys H => m = n - i ∧ i ≤ n ∧ Pv i ys H, ⟨n, by simp, Nat.zero_le _, h0⟩, ?_⟩
  rintro i m ys H ⟨rfl, hi, p⟩
  have q := hG i ys H hi p
  by_cases hlt : i < n
  · exact .inr ⟨w.goes i H hlt q, Pv (i + 1), fun zs H' p' => ⟨n - (i + 1), by omega, rfl, hlt, p'⟩, fun x H' y => hs i x ys H H' hlt p (w.yields i H x H' hlt q y)⟩
  · have e : i = n := by omega
    subst e
    exact .inl ⟨w.stops H q, hd ys H p⟩
end
end GE

set_option Elab.async false
set_option linter.all false
set_option maxRecDepth 100000
set_option maxHeartbeats 2000000
/-! Pages shown and compared as data. -/
namespace My
open PySem PySem.Spec PyProof.Rows L2 PySem.SeqAt PySem.W
mutual
theorem alike_self : ∀ k : NestedKey, alike k.data k.data = true
  | .none => by rw [NestedKey.data, alike]
  | .num _ => by rw [NestedKey.data, alike]
  | .text _ => by rw [NestedKey.data, alike]
  | .tup ks => by rw [NestedKey.data, alike]; exact alike_selves ks
theorem alike_selves : ∀ ks : List NestedKey, alikeAll (NestedKey.datas ks) (NestedKey.datas ks) = true
  | [] => by rw [NestedKey.datas, alikeAll]
  | k :: ks => by rw [NestedKey.datas, alikeAll, alike_self k, alike_selves ks]; rfl
end
theorem eqv_list_self (ks : List NestedKey) : PyData.eqv (.list (NestedKey.datas ks)) (.list (NestedKey.datas ks)) = true := eqv_refl_alike _ (by rw [alike]; exact alike_selves ks)
/-- what is known of a thing that is shown and compared -/
structure Fine (d : PyData) (c : Nat) : Prop where
  sh : GU.Sh d
  cost : GU.cost d ≤ c
  lay : d.canLay0 = true
  deep : d.depth ≤ 3
structure FineAll (ds : List PyData) (c : Nat) : Prop where
  sh : GU.ShAll ds
  cost : GU.costAll ds ≤ c
  lay : PyData.canLayAll0 ds = true
  deep : PyData.depthAll ds ≤ 3
theorem FineAll.nil : FineAll [] 0 := ⟨trivial, Nat.le_refl _, by rw [PyData.canLayAll0], by rw [PyData.depthAll]; omega⟩
theorem FineAll.cons {d : PyData} {ds : List PyData} {a b : Nat} (h : Fine d a) (t : FineAll ds b) : FineAll (d :: ds) (a + 2 + b) := by
  refine ⟨⟨h.sh, t.sh⟩, ?_, by rw [PyData.canLayAll0, h.lay, t.lay]; rfl, ?_⟩
  · rw [GU.costAll]
    have := h.cost
    have := t.cost
    omega
  · rw [PyData.depthAll]
    have := h.deep
    have := t.deep
    omega
theorem Fine.mono {d : PyData} {a b : Nat} (h : Fine d a) (le : a ≤ b) : Fine d b := ⟨h.sh, Nat.le_trans h.cost le, h.lay, h.deep⟩
theorem fine_text {z : Str} (h : Plain z) : Fine (.str z) 1004 := by
  refine ⟨fun c hc => Nat.lt_of_lt_of_le (h.2 c hc) (by decide), ?_, ?_, by rw [PyData.depth]; omega⟩
  · have := h.1
    rw [GU.cost]
    omega
  · rw [PyData.canLay0]
    unfold PyData.strOk
    rw [← Array.all_toList]
    refine List.all_eq_true.mpr fun c hc => ?_
    have := h.2 c hc
    simp
    omega
theorem fine_int {i : Int} (h0 : -1000000 < i) (h1 : i < 1000000) : Fine (.int i) 1921 := ⟨small_nat h0 h1, by rw [GU.cost]; omega, by rw [PyData.canLay0], by rw [PyData.depth]; omega⟩
theorem fine_home {ws : List Int} (h : HomeW ws) : Fine (NestedKey.tup (ws.map .num)).data 14000 := by
  have key : ∀ {ws : List Int}, (∀ w ∈ ws, 0 ≤ w ∧ w < 7) → FineAll (NestedKey.datas (ws.map .num)) (1923 * ws.length) ∧ PyData.depthAll (NestedKey.datas (ws.map .num)) = 0 := by
    intro ws
    induction ws with
    | nil => intro _; exact ⟨by rw [List.map_nil, NestedKey.datas]; exact .nil, by rw [List.map_nil, NestedKey.datas, PyData.depthAll]⟩
    | cons a l ih =>
      intro h
      have ha := h a (.head _)
      obtain ⟨i1, i2⟩ := ih fun w hw => h w (.tail _ hw)
      rw [List.map_cons, NestedKey.datas, NestedKey.data]
      refine ⟨?_, by rw [PyData.depthAll, i2, PyData.depth]; rfl⟩
      have := FineAll.cons (fine_int (i := a) (by omega) (by omega)) i1
      rw [List.length_cons]
      exact ⟨this.sh, by have := this.cost; omega, this.lay, this.deep⟩
  obtain ⟨k, kd⟩ := key h.2
  have := h.1
  rw [NestedKey.data]
  refine ⟨k.sh, ?_, by rw [PyData.canLay0]; exact k.lay, by rw [PyData.depth, kd]; omega⟩
  rw [GU.cost]
  have := k.cost
  omega
theorem plain_kind {z : Str} {r : List NestedKey} (h : Rest z r) : Plain z := by
  cases h <;> exact ⟨by decide +kernel, by decide +kernel⟩
theorem fine_rest {z : Str} {r : List NestedKey} (h : Rest z r) : FineAll (NestedKey.datas r) 17000 ∧ PyData.depthAll (NestedKey.datas r) ≤ 1 := by
  have one : ∀ {ws : List Int}, (NestedKey.tup (ws.map .num)).data.depth ≤ 1 := fun {ws} => by
    have : ∀ ws : List Int, PyData.depthAll (NestedKey.datas (ws.map .num)) = 0 := fun ws => by
      induction ws with
      | nil => rw [List.map_nil, NestedKey.datas, PyData.depthAll]
      | cons a l ih => rw [List.map_cons, NestedKey.datas, NestedKey.data, PyData.depthAll, ih, PyData.depth]; rfl
    rw [NestedKey.data, PyData.depth, this]
    omega
  have up : ∀ {ds : List PyData} {c : Nat}, FineAll ds c → c ≤ 17000 → FineAll ds 17000 := fun h le => ⟨h.sh, Nat.le_trans h.cost le, h.lay, h.deep⟩
  have txt : ∀ x : Str, (NestedKey.text x).data = .str x := fun x => by rw [NestedKey.data]
  have num : ∀ x : Int, (NestedKey.num x).data = .int x := fun x => by rw [NestedKey.data]
  cases h <;> simp only [NestedKey.datas, txt, num]
  case house a b => exact ⟨up (.cons (fine_text a) (.cons (fine_home b) .nil)) (by decide), by simp only [PyData.depthAll, PyData.depth]; refine Nat.max_le.mpr ⟨Nat.zero_le _, ?_⟩; first | exact Nat.max_le.mpr ⟨one, Nat.zero_le _⟩ | exact Nat.max_le.mpr ⟨Nat.zero_le _, Nat.max_le.mpr ⟨one, Nat.zero_le _⟩⟩⟩
  case home a b => exact ⟨up (.cons (fine_text a) (.cons (fine_home b) .nil)) (by decide), by simp only [PyData.depthAll, PyData.depth]; refine Nat.max_le.mpr ⟨Nat.zero_le _, ?_⟩; first | exact Nat.max_le.mpr ⟨one, Nat.zero_le _⟩ | exact Nat.max_le.mpr ⟨Nat.zero_le _, Nat.max_le.mpr ⟨one, Nat.zero_le _⟩⟩⟩
  case part a b c => exact ⟨up (.cons (fine_text a) (.cons (fine_text b) (.cons (fine_home c) .nil))) (by decide), by simp only [PyData.depthAll, PyData.depth]; refine Nat.max_le.mpr ⟨Nat.zero_le _, ?_⟩; first | exact Nat.max_le.mpr ⟨one, Nat.zero_le _⟩ | exact Nat.max_le.mpr ⟨Nat.zero_le _, Nat.max_le.mpr ⟨one, Nat.zero_le _⟩⟩⟩
  case mourn a b c => exact ⟨up (.cons (fine_text a) (.cons (fine_int (by omega) (by omega)) .nil)) (by decide), by simp only [PyData.depthAll, PyData.depth]; omega⟩
  case join a b => exact ⟨up (.cons (fine_text a) (.cons (fine_text b) .nil)) (by decide), by simp only [PyData.depthAll, PyData.depth]; omega⟩
  case ahead a b => exact ⟨up (.cons (fine_text a) (.cons (fine_text b) .nil)) (by decide), by simp only [PyData.depthAll, PyData.depth]; omega⟩
  case card a b => exact ⟨up (.cons (fine_text a) (.cons (fine_text b) .nil)) (by decide), by simp only [PyData.depthAll, PyData.depth]; omega⟩
  case visit a b => exact ⟨up (.cons (fine_text a) (.cons (fine_text b) .nil)) (by decide), by simp only [PyData.depthAll, PyData.depth]; omega⟩
theorem fine_page {k : NestedKey} (h : PgK k) : Fine k.data 20000 ∧ k.data.depth ≤ 2 := by
  obtain ⟨z, d, r, rfl, hr, d0, d1⟩ := h
  obtain ⟨f, fd⟩ := fine_rest hr
  have t := FineAll.cons (fine_text (plain_kind hr)) (FineAll.cons (fine_int (i := d) (by omega) (by omega)) f)
  have e : (NestedKey.tup (.text z :: .num d :: r)).data = .tuple (.str z :: .int d :: NestedKey.datas r) := by
    rw [NestedKey.data, NestedKey.datas, NestedKey.datas, NestedKey.data, NestedKey.data]
  have dp : (PyData.tuple (.str z :: .int d :: NestedKey.datas r)).depth ≤ 2 := by
    rw [PyData.depth, PyData.depthAll, PyData.depthAll, PyData.depth, PyData.depth]
    omega
  rw [e]
  refine ⟨⟨t.sh, ?_, by rw [PyData.canLay0]; exact t.lay, Nat.le_trans dp (by decide)⟩, dp⟩
  rw [GU.cost]
  have := t.cost
  omega
theorem fine_pages : ∀ {ks : List NestedKey}, (∀ k ∈ ks, PgK k) → FineAll (NestedKey.datas ks) (20002 * ks.length) ∧ PyData.depthAll (NestedKey.datas ks) ≤ 2
  | [], _ => ⟨by rw [NestedKey.datas]; exact .nil, by rw [NestedKey.datas, PyData.depthAll]; omega⟩
  | k :: ks, h => by
    obtain ⟨a, b⟩ := fine_page (h k (.head _))
    obtain ⟨c, d⟩ := fine_pages fun y hy => h y (.tail _ hy)
    have t := FineAll.cons a c
    rw [NestedKey.datas]
    refine ⟨⟨t.sh, by have := t.cost; rw [List.length_cons]; omega, t.lay, t.deep⟩, by rw [PyData.depthAll]; omega⟩
theorem shaped_pages {ks : List NestedKey} (h : ∀ k ∈ ks, PgK k) : SeqAt.shaped (.list (NestedKey.datas ks)) = true := by
  obtain ⟨f, fd⟩ := fine_pages h
  unfold SeqAt.shaped
  rw [Bool.and_eq_true, PyData.canLay0, PyData.depth]
  exact ⟨f.lay, decide_eq_true (by omega)⟩
theorem eqv_nil (ks : List NestedKey) : PyData.eqv (.list (NestedKey.datas ks)) (.list []) = ks.isEmpty := by
  cases ks with
  | nil => simp [NestedKey.datas, PyData.eqv, PyData.eqvAll]
  | cons k ks => simp [NestedKey.datas, PyData.eqv, PyData.eqvAll]
theorem repr_pages {ks : List NestedKey} (h : ∀ k ∈ ks, PgK k) (n : ks.length ≤ 200) : GU.Sh (.tuple (NestedKey.datas ks)) ∧ (PyData.tuple (NestedKey.datas ks)).depth ≤ 50 ∧ GU.cost (.tuple (NestedKey.datas ks)) ≤ sizeLine := by
  obtain ⟨f, fd⟩ := fine_pages h
  refine ⟨f.sh, by rw [PyData.depth]; omega, ?_⟩
  rw [GU.cost]
  have := f.cost
  have : GU.costAll (NestedKey.datas ks) + 3 ≤ 4000403 := by omega
  exact Nat.le_trans this (by decide)
end My

set_option Elab.async false
set_option linter.all false
set_option maxRecDepth 100000
set_option maxHeartbeats 2000000
/-! Errors of the program's own that carry fields: a def with generator expressions that may raise one; isinstance of a caught one where the answer is yes; != of pages. -/
namespace GE
open PySem PySem.Spec PyProof.Rows L2
theorem FunC.okX {P : Program} {w : World} {K : PySem.W.Frag} {mg : Str → Option Value} {base : Heap} {x qual : Str} {st : Stmt} {f : Addr} {fd : FuncData} {c : Addr} {N ps : List Str} {k : Nat} {sp : Sp} (F : FunC K x qual st f fd c) (S : FnScope N ps (defScope st))
    (len : ∀ vs H Q E, sp vs H Q E → vs.length = ps.length)
    (body : ∀ (A : Around) (outer : List Env) (s : Shared) (H : Hp) (vs : List V) (Q : VK) (E : XK), Room k (A.deeper (envOfC qual (defScope st) s.heap.objs.size f (.ref c))) → sp vs H Q E →
      ∃ t, PSs (cxOf (L2.CX P w) P w K mg base N qual (defScope st) f (.ref c) A outer s H E) (defBody st) t ∧ t { nx := fun _ H' => Q .non H', rt := Q } (start N vs) H) : FnOk P w K mg base (L2.CX P w) (k + 1) f fd ps sp := by
  obtain ⟨oc, od, kV, doc, pm, an, ct, osl, rfl, lk, hcd⟩ := F.ex
  exact fn_of lk hcd S len fun A outer s H vs Q E hr h => body A outer s H vs Q E hr h
end GE
namespace My
open PySem PySem.Spec PyProof.Rows L2 PySem.W
section
variable {prog : Program} {w : World} {A : Around} {E : Value → Shared → Prop} {s : Shared} {Q : Value → Shared → Prop} {K : PySem.W.Frag} {a D : Addr} {oe : Obj} {od : Option Obj} {c : Value}
/-- the class is the thing's own, or one above it: so no look at the thing's own attribute is taken -/
theorem yes_ans (e : PySem.W.kitOne K (.ref D) c = some true) : Answers (fun s => K.In s.heap ∧ PySem.W.InstAt s.heap a oe D od) (.ref a) c true := by
  intro dep tk prog w A R s hs
  obtain ⟨h0, g0, d0, t0, o0⟩ := s
  obtain ⟨⟨kin, inst⟩, fin⟩ := hs
  have own := inst.type (M := model prog w)
  unfold Builtin.«isinstance.nested»
  refine wpAny_bind (own.at ?_)
  unfold PySem.W.kitOne at e
  by_cases same : (Value.ref D == c) = true
  · rw [if_pos same]
    first
      | exact wpAny_bind (wpAny_rule (fin t0))
      | exact wpAny_bind (wpAny_rule (wpAny_pure (fin t0)))
      | ((repeat lk); exact fin t0)
  · rw [if_neg same] at e
    rw [if_neg same]
    obtain ⟨l1, l2, l3⟩ := PySem.W.kit_cls (M := model prog w) kin e
    have above : Looks (model prog w) h0 (isInstance (.ref a) c) true := own.andThen l3
    refine wpAny_bind (l1.at ?_)
    rw [if_pos (by decide)]
    k_delta "plainIsInstance"
    refine wpAny_bind (wpAny_bind (l2.at ?_))
    rw [if_neg (by decide)]
    refine wpAny_bind (above.at ?_)
    first
      | exact wpAny_pure (wpAny_pure (fin t0))
      | (rw [if_pos rfl]; first | exact wpAny_pure (wpAny_pure (fin t0)) | exact wpAny_pure (fin t0) | exact wpAny_bind (wpAny_pure (wpAny_pure (fin t0))))
theorem is_yes (kin : K.In s.heap) (inst : PySem.W.InstAt s.heap a oe D od) (e : PySem.W.kitOne K (.ref D) c = some true) (h : ∀ tk, Q (.bool true) { s with toks := tk }) : wpAny (model prog w) A (call (.builtin "isinstance") [.ref a, c]) Q E s :=
  PySem.call_isinstance (S := fun _ R s => (K.In s.heap ∧ PySem.W.InstAt s.heap a oe D od) ∧ ∀ tk, R (.ok (.ret (.bool true))) { s with toks := tk })
    (fun prog w A R s hs => PySem.isinstance_outer (yes_ans e 0 _ prog w A R s hs) (fun z => nomatch z)) ⟨⟨kin, inst⟩, h⟩
end
/-- isinstance(e, c), e the error that the suite holds, with fields in its dict -/
def rIsY (K : PySem.W.Frag) (D a : Addr) (cls : Value) (d : Option Addr) : List V → Hp → VK → Prop := fun xs H Q => ∃ (c : V) (cv : Value) (dd : Addr) (fs : List (Str × V)), xs = [.ref a, c] ∧ (∀ u, RelV c u → u = cv) ∧ PySem.W.kitOne K (.ref D) cv = some true ∧ cls = .ref D ∧ d = some dd ∧ H dd = some (.xd fs) ∧ Q (.bl true) H
theorem call_isY {X : Cx} {a D : Addr} {oe : Obj} {d : Option Addr} {cls : Value} {pn : List (Addr × Obj)} (hz : Zc cls d oe) (hf : ∃ vs, oe.data = .fields vs) : CallR (X.suite a ((a, oe) :: pn)) (.builtin "isinstance") (rIsY X.K D a cls d) := by
  intro pins s σ H xs us Q I r h
  obtain ⟨c, cv, dd, fs, rfl, hcv, e, hc, ed, hdd, q⟩ := h
  obtain ⟨u0, u1, rfl, r0, r1⟩ : ∃ u0 u1, us = [u0, u1] ∧ RelV (.ref a) u0 ∧ RelV c u1 := by
    cases r with
    | cons r0 r =>
      cases r with
      | cons r1 r =>
        cases r
        exact ⟨_, _, rfl, r0, r1⟩
  obtain rfl : u0 = Value.ref a := r0
  obtain rfl := hcv _ r1
  subst hc ed
  obtain ⟨here, _⟩ := I.pin (a, oe) (List.mem_append_left _ List.mem_cons_self)
  obtain ⟨vs, hv⟩ := hf
  have hx : ObjOk X.prog X.w H s.heap dd (.xd fs) := I.hok dd _ hdd
  obtain ⟨mA, hns, _⟩ := hx
  obtain ⟨od, ho, _⟩ := lookIn_ns hns
  have inst : PySem.W.InstAt s.heap a oe D (some od) := ⟨here, hz.1, by unfold PySem.W.notCls; rw [hv] <;> rfl, by rw [hz.2]; exact ho⟩
  exact is_yes I.kIn inst e fun tk => ⟨.bl true, H, I.kept (t' := tk) fun _ _ z => z, rfl, q⟩
mutual
theorem eqv_key : ∀ k l : NestedKey, PyData.eqv k.data l.data = NestedKey.beq k l
  | .none, l => by cases l <;> simp [NestedKey.data, PyData.eqv, NestedKey.beq]
  | .num a, l => by cases l <;> simp [NestedKey.data, PyData.eqv, NestedKey.beq] <;> (rw [Bool.eq_iff_iff]; simp)
  | .text a, l => by cases l <;> simp [NestedKey.data, PyData.eqv, NestedKey.beq] <;> (rw [Bool.eq_iff_iff]; simp)
  | .tup ks, .none => by simp [NestedKey.data, PyData.eqv, NestedKey.beq]
  | .tup ks, .num _ => by simp [NestedKey.data, PyData.eqv, NestedKey.beq]
  | .tup ks, .text _ => by simp [NestedKey.data, PyData.eqv, NestedKey.beq]
  | .tup ks, .tup ls => by
    rw [NestedKey.data, NestedKey.data, PyData.eqv, NestedKey.beq]
    exact eqv_keys ks ls
theorem eqv_keys : ∀ ks ls : List NestedKey, PyData.eqvAll (NestedKey.datas ks) (NestedKey.datas ls) = NestedKey.beqAll ks ls
  | [], [] => by simp [NestedKey.datas, PyData.eqvAll, NestedKey.beqAll]
  | [], _ :: _ => by simp [NestedKey.datas, PyData.eqvAll, NestedKey.beqAll]
  | _ :: _, [] => by simp [NestedKey.datas, PyData.eqvAll, NestedKey.beqAll]
  | k :: ks, l :: ls => by
    rw [NestedKey.datas, NestedKey.datas, PyData.eqvAll, NestedKey.beqAll, eqv_key k l, eqv_keys ks ls]
end
theorem eqv_dec (k l : NestedKey) : PyData.eqv k.data l.data = decide (k = l) := by rw [eqv_key, NestedKey.decide_eq]
theorem shaped_page {k : NestedKey} (h : PgK k) : SeqAt.shaped k.data = true := by
  obtain ⟨f, fd⟩ := fine_page h
  unfold SeqAt.shaped
  rw [Bool.and_eq_true]
  exact ⟨f.lay, decide_eq_true (by omega)⟩
end My

set_option Elab.async false
set_option linter.all false
set_option maxRecDepth 100000
set_option maxHeartbeats 2000000
/-! A tuple whose whole object is in sight (frozen): it has no dict of its own, so that it can be asked by a method. -/
namespace My
open PySem PySem.Spec PyProof.Rows L2
/-- a tuple's object without a dict -/
def TD (o : Obj) : Prop := o.cls = .type "tuple" ∧ o.dict = none
section
variable {X : Cx} {K1 : PySem.W.Frag}
def rTupD (K : PySem.W.Frag) : List V → Hp → VK → Prop := fun xs H Q => ∃ p ys, xs = [.ref p] ∧ SqL K H p ys ∧ ∀ l o, H l = none → TD o → Q (.ref l) (upd H l (.frz o (.tup ys)))
theorem call_tupleD : CallR X (.type "tuple") (rTupD X.K) := by
  intro pins s σ H xs us Q I rs ⟨p, ys, ex, hp, q⟩
  subst ex
  obtain ⟨u, eu, ru⟩ := vals1 rs
  subst eu
  cases ru
  obtain ⟨vs, rv, pl, le⟩ := I.list hp
  have ln := rv.length
  refine call_tuple_list pl.isList (fun h' kp => ?_) (by rw [List.size_toArray]; omega)
  have J := I.kept (t' := s.toks) kp
  have at_ : (h'.push { cls := .type "tuple", data := .seq vs.toArray }).get? h'.objs.size = some { cls := .type "tuple", data := .seq vs.toArray } := Heap.get?_push_size _ rfl
  have G := J.laid (t' := s.toks) (h' := h'.push { cls := .type "tuple", data := .seq vs.toArray }) (fun b z e => Heap.get?_push_of_some _ e) (Nat.le_refl _) (show ObjOk X.prog X.w (upd H h'.objs.size (.frz { cls := .type "tuple", data := .seq vs.toArray } (.tup ys))) _ h'.objs.size (.frz { cls := .type "tuple", data := .seq vs.toArray } (.tup ys)) from ⟨at_, le, vs, rv, IsTup.new _ _⟩)
  exact ⟨.ref h'.objs.size, _, G, rfl, q _ _ (J.hok.fresh (Nat.le_refl _)) ⟨rfl, rfl⟩⟩
theorem call_tupleDK (hK : X.K = K1) : CallR X (.type "tuple") (rTupD K1) := by
  subst hK
  exact call_tupleD
variable {es : List Expr} {t : TA} {o e : Expr} {to : TE} {name : Str} {apos cpos : Pos} {id : String} {r : V → List V → Hp → VK → Prop}
def tBMD (r : V → List V → Hp → VK → Prop) (to : TE) (t : TA) : TE := fun σ H Q => to σ H fun x H1 => (∃ p ob u, x = .ref p ∧ H1 p = some (.frz ob u) ∧ TD ob) ∧ t σ H1 fun xs H2 => r x xs H2 Q
theorem pe_bmD (pa : PlainAttrs "tuple") (slot : Slot "tuple" name id) (ht : typeOf (.builtin id) = pure (.type "method_descriptor")) (hm : MtR X id r) (ho : PE X o to) (ha : PA X (e :: es) t)
    (hbase : attributeBase o name X.env (eval o X.env) = eval o X.env := by rfl)
    (hfew : ((backTo cpos (starEach (e :: es) X.env)).all (fun x => !x.1) && (backToKw cpos (keywordEach [] X.env)).all (fun x => x.1.isSome) && decide ((e :: es).length + ([] : List Keyword).length + (if ([] : List Keyword).isEmpty then 0 else 1) < 30)) = true := by rfl)
    (hline : (apos.endLine == cpos.line) = true := by rfl) (hst : starEach (e :: es) X.env = (false, eval e X.env) :: starEach es X.env := by rfl) (hpl : (backTo cpos (starEach es X.env)).any (·.1) = false := by rfl) :
    PE X (.Call (.Attribute o name apos) (e :: es) [] cpos) (tBMD r to t) := by
  refine ⟨fun pins s σ H Q I h => wpAny_Call_method_late hbase hfew hline rfl (thn (ho.run pins s σ H _ I h) fun v s1 ⟨x, H1, I1, r1, ⟨p, ob, u, ex, hp, td⟩, q1⟩ => ?_)⟩
  subst ex
  obtain rfl : v = Value.ref p := r1
  obtain ⟨g, _⟩ := I1.hok p _ hp
  refine ⟨"tuple", id, pa, slot, ht, ⟨_, g, td.1⟩, fun a e => by cases e; exact ⟨_, g, td.2⟩, ?_⟩
  have run := ha.run cpos pins s1 σ H1 _ I1 q1
  rw [hst] at run ⊢
  refine Calls.callWith_builtin (by show (false || (backTo cpos (starEach es X.env)).any (·.1)) = false; rw [hpl] <;> rfl) (Calls.evalArgs_plain ?_)
  exact thn run fun us s2 ⟨vs, H2, I2, r2, q2⟩ => hm pins s2 σ H2 (.ref p) vs (.ref p) us Q I2 rfl r2 q2
def rTupIx (K : PySem.W.Frag) : V → List V → Hp → VK → Prop := fun x xs H Q => ∃ p, ∃ ys : List Str, ∃ z j, x = .ref p ∧ xs = [.str z] ∧ SqT K H p (ys.map V.str) ∧ ys[j]? = some z ∧ (∀ m, m < j → ys[m]? ≠ some z) ∧ Q (.int (j : Nat)) H
theorem mt_tup_indexK (hK : X.K = K1) : MtR X "tuple.index" (rTupIx K1) := by
  subst hK
  exact mt_tup_index
end
end My

set_option Elab.async false
set_option linter.all false
set_option maxRecDepth 100000
set_option maxHeartbeats 2000000
/-! t[::-1], t a tuple of two. -/
namespace My
open PySem PySem.Spec PyProof.Rows L2 HT
section
variable {prog : Program} {w : World} {A : Around} {E : Value → Shared → Prop} {s : Shared}
theorem applied_back {sl : Addr} {u : Tok} {Q : Int × Int × Nat → Shared → Prop} (hs : s.heap.IsSliceOf sl .none .none (.int (-1) u)) (h : Q (1, -1, 2) s) :
    wpAny (model prog w) A (Builtin.Slice.sliceApplied (.ref sl) (pure (2 : Int))) Q E s := by
  obtain ⟨o, ho, _, hd⟩ := hs
  unfold Builtin.Slice.sliceApplied Builtin.Slice.sliceFields
  refine wpAny_bind (wpAny_bind (wpAny_field ho hd (x := .none) rfl ?_))
  refine wpAny_bind (wpAny_field ho hd (x := .none) rfl ?_)
  refine wpAny_bind (wpAny_field ho hd (x := .int (-1) u) rfl (wpAny_pure ?_))
  refine wpAny_bind (slicePart_ (.int (-1) u) ?_)
  show wpAny _ _ (if ((-1 : Int) == 0) = true then _ else _) _ _ s
  rw [if_neg (show ¬ ((-1 : Int) == 0) = true by decide)]
  exact wpAny_bind (slicePart_ .none (wpAny_bind (slicePart_ .none (wpAny_bind (wpAny_pure (wpAny_pure h))))))
theorem item_back {t sl : Addr} {a b : Value} {u : Tok} {Q : Value → Shared → Prop} (ht : IsTup s.heap t #[a, b]) (hs : s.heap.IsSliceOf sl .none .none (.int (-1) u))
    (h : Q (.ref s.heap.objs.size) { s with heap := s.heap.push { cls := .type "tuple", data := .seq #[b, a] } }) : wpAny (model prog w) A (getItem (.ref t) (.ref sl)) Q E s := by
  obtain ⟨o, ho, hc, hd⟩ := id hs
  have ty : s.TypeIs (.ref sl) "slice" := ⟨o, ho, hc⟩
  have fit : sizeOk (.seq #[b, a]) := by show 2 ≤ sizeLine; exact sz (by decide)
  unfold getItem
  try with_reducible refine wpAny_holding ?_
  first | refine wpAny_bind (wpAny_pure ?_) | skip
  refine wpAny_bind (wpAny_sequenceKey ht.typeIs (by decide) (wpAny_bind (wpAny_callSpecial?_slot (name := Str.ofString "__getitem__") ht.typeIs PyProof.Rows.slot_tuple_getitem (wpAny_call_entry PyProof.Rows.slot_tuple_getitem ht.typeIs entry_tuple_getitem ?_ (args_tuple_getitem _ _)))))
  show wpAny _ _ (Builtin.Tuple.tupleItemsOf (.ref t) >>= _) _ _ s
  refine wpAny_bind (tupleItemsOf_ ht (wpAny_bind (wpAny_typeOf ty ?_)))
  rw [if_pos (by decide)]
  refine wpAny_bind (applied_back hs ?_)
  show wpAny _ _ (if (((1 : Int) == 0) && ((-1 : Int) == 1) && ((2 : Nat) == 2)) = true then _ else _) _ _ s
  rw [if_neg (by decide)]
  have e : ((List.range 2).filterMap fun (k : Nat) => (#[a, b] : Array Value)[((1 : Int) + (k : Int) * (-1)).toNat]?).toArray = #[b, a] := rfl
  rw [e]
  first
    | exact wpAny_bind (m := Builtin.Tuple.tupleExact _) (wpAny_newObj_type (wpAny_pure ⟨_, rfl, wpAny_pure h⟩) fit)
    | exact wpAny_bind (m := Builtin.Tuple.tupleExact _) (wpAny_newObj_type (wpAny_bind (wpAny_pure (wpAny_pure ⟨_, rfl, wpAny_pure h⟩))) fit)
    | exact wpAny_bind (wpAny_bind (m := Builtin.Tuple.tupleExact _) (wpAny_newObj_type (wpAny_pure (wpAny_pure ⟨_, rfl, wpAny_pure h⟩)) fit))
    | exact wpAny_bind (wpAny_bind (m := Builtin.Tuple.tupleExact _) (wpAny_newObj_type (wpAny_pure ⟨_, rfl, wpAny_pure h⟩) fit))
end
section
variable {X : Cx} {K1 : PySem.W.Frag}
def tRevP (K : PySem.W.Frag) (te : TE) : TE := fun σ H Q => te σ H fun x H1 => ∃ a p q, x = .ref a ∧ SqT K H1 a [p, q] ∧ ∀ b, H1 b = none → Q (.ref b) (upd H1 b (.tup [q, p]))
theorem pe_revP {e : Expr} {te : TE} {k : Nat} {p1 p2 p3 pos : Pos} (hK : X.K = K1) (he : PE X e te) : PE X (.Subscript e (.Slice none none (some (.UnaryOp .USub (.Constant (.int 1) k p1) p2)) p3) pos) (tRevP K1 te) := by
  subst hK
  have step : PO X (some (.UnaryOp .USub (.Constant (.int 1) k p1) p2)) (tPart (tUn (rU fun i => .int (-i)) (tC (.int 1)))) := po_some (pe_un un_neg pe_int)
  constructor
  intro pins s σ H Q I h
  refine Subscript_ (thn (he.run pins s σ H _ I h) ?_)
  rintro v s1 ⟨x, H1, I1, r1, a, p, q, rfl, hx, hq⟩
  cases r1
  refine wpAny_Slice (thn (po_none.run pins s1 σ H1 (fun o G => o = none ∧ G = H1) I1 ⟨rfl, rfl⟩) ?_)
  rintro vl s2 ⟨o1, G1, I2, q1, rfl, rfl⟩
  refine thn (po_none.run pins s2 σ G1 (fun o G => o = none ∧ G = G1) I2 ⟨rfl, rfl⟩) ?_
  rintro vu s3 ⟨o2, G2, I3, q2, rfl, rfl⟩
  refine thn (step.run pins s3 σ G2 (fun o G => o = some (-1) ∧ G = G2) I3 ⟨1, rfl, -1, rfl, rfl, rfl⟩) ?_
  rintro vs s4 ⟨o3, G3, I4, q3, rfl, rfl⟩
  cases q1
  cases q2
  cases q3 with
  | int _ u =>
    have I5 : Inv X pins σ G3 { s4 with heap := s4.heap.push { cls := .type "slice", data := .fields #[.none, .none, .int (-1) u] } } := I4.kept (t' := s4.toks) fun b ob q => Heap.get?_push_of_some _ q
    obtain ⟨its, r, ht, _⟩ := I5.tuple hx
    cases r with
    | @cons _ b1 _ _ ra r =>
      cases r with
      | @cons _ b2 _ _ rb r =>
        cases r
        show wpAny (model X.prog X.w) X.A (subscriptTail e (.Slice none none (some (.UnaryOp .USub (.Constant (.int 1) k p1) p2)) p3) (.ref a) (.ref s4.heap.objs.size)) (EP X pins σ Q) X.xe { s4 with heap := s4.heap.push { cls := .type "slice", data := .fields #[.none, .none, .int (-1) u] } }
        refine tail_any (ops := [.ref a, .ref s4.heap.objs.size]) ht.typeIs (PyProof.Rows.slot_tuple_getitem.lookup) ?_ (by with_unfolding_all rfl)
        refine item_back ht (Heap.IsSliceOf.new _ .none .none (.int (-1) u)) ?_
        refine ⟨.ref _, _, I5.laid (t' := s4.toks) (o := .tup [q, p]) (fun b ob q => Heap.get?_push_of_some _ q) (Nat.le_refl _) ⟨sz (by show 2 ≤ 1000; decide), [b2, b1], .cons rb (.cons ra .nil), IsTup.new _ _⟩, rfl, hq _ (I5.hok.fresh (Nat.le_refl _))⟩
end
end My

set_option Elab.async false
set_option linter.all false
set_option maxRecDepth 100000
set_option maxHeartbeats 2000000
/-! t[::-1], t a tuple of any length. -/
namespace My
open PySem PySem.Spec PyProof.Rows L2 HT
theorem all_places {α : Type} : ∀ ys : List α, (List.range ys.length).filterMap (fun k => ys[k]?) = ys
  | [] => rfl
  | y :: ys => by
    rw [List.length_cons, List.range_succ_eq_map, List.filterMap_cons]
    show y :: _ = _
    rw [List.filterMap_map]
    exact congrArg _ (all_places ys)
theorem fm_congr {α β : Type} {f g : α → Option β} : ∀ {l : List α}, (∀ x ∈ l, f x = g x) → l.filterMap f = l.filterMap g
  | [], _ => rfl
  | x :: l, h => by
    rw [List.filterMap_cons, List.filterMap_cons, h x (.head _), fm_congr (fun y hy => h y (.tail _ hy))]
theorem vals_reverse : ∀ {xs : List V} {us : List Value}, Vals xs us → Vals xs.reverse us.reverse
  | _, _, .nil => .nil
  | _, _, .cons a r => by
    rw [List.reverse_cons, List.reverse_cons]
    exact (vals_reverse r).append (.cons a .nil)
theorem back_places {α : Type} (xs : List α) : (List.range xs.length).filterMap (fun (k : Nat) => xs[((xs.length : Int) - 1 + (k : Int) * (-1)).toNat]?) = xs.reverse := by
  have := all_places xs.reverse
  rw [List.length_reverse] at this
  refine Eq.trans ?_ this
  refine fm_congr fun k hk => ?_
  have hk := List.mem_range.mp hk
  rw [List.getElem?_reverse hk]
  congr 1
  omega
section
variable {prog : Program} {w : World} {A : Around} {E : Value → Shared → Prop} {s : Shared}
theorem places_back (n : Nat) : Builtin.Slice.slicePlaces ((n : Int) - 1) (-1) (-1) = n := by
  unfold Builtin.Slice.slicePlaces
  rw [if_neg (by decide)]
  by_cases e : n = 0
  · subst e
    rfl
  · rw [if_pos (by omega)]
    have : ((n : Int) - 1 - -1 - 1) / (- -1) + 1 = (n : Int) := by
      rw [show (- -1 : Int) = 1 by decide, Int.ediv_one]
      omega
    rw [this]
    rfl
theorem applied_backN {sl : Addr} {u : Tok} {n : Nat} {Q : Int × Int × Nat → Shared → Prop} (hs : s.heap.IsSliceOf sl .none .none (.int (-1) u)) (h : Q ((n : Int) - 1, -1, n) s) :
    wpAny (model prog w) A (Builtin.Slice.sliceApplied (.ref sl) (pure (n : Int))) Q E s := by
  obtain ⟨o, ho, _, hd⟩ := hs
  unfold Builtin.Slice.sliceApplied Builtin.Slice.sliceFields
  refine wpAny_bind (wpAny_bind (wpAny_field ho hd (x := .none) rfl ?_))
  refine wpAny_bind (wpAny_field ho hd (x := .none) rfl ?_)
  refine wpAny_bind (wpAny_field ho hd (x := .int (-1) u) rfl (wpAny_pure ?_))
  refine wpAny_bind (slicePart_ (.int (-1) u) ?_)
  show wpAny _ _ (if ((-1 : Int) == 0) = true then _ else _) _ _ s
  rw [if_neg (show ¬ ((-1 : Int) == 0) = true by decide)]
  refine wpAny_bind (slicePart_ .none (wpAny_bind (slicePart_ .none (wpAny_bind (wpAny_pure (wpAny_pure ?_))))))
  show Q ((n : Int) - 1, -1, Builtin.Slice.slicePlaces ((n : Int) - 1) (-1) (-1)) s
  rw [places_back]
  exact h
theorem item_backN {t sl : Addr} {items : Array Value} {u : Tok} {Q : Value → Shared → Prop} (ht : IsTup s.heap t items) (hz : items.size ≤ sizeLine) (hs : s.heap.IsSliceOf sl .none .none (.int (-1) u))
    (h : Q (.ref s.heap.objs.size) { s with heap := s.heap.push { cls := .type "tuple", data := .seq items.toList.reverse.toArray } }) : wpAny (model prog w) A (getItem (.ref t) (.ref sl)) Q E s := by
  obtain ⟨o, ho, hc, hd⟩ := id hs
  have ty : s.TypeIs (.ref sl) "slice" := ⟨o, ho, hc⟩
  have fit : sizeOk (.seq items.toList.reverse.toArray) := by
    show items.toList.reverse.toArray.size ≤ sizeLine
    rw [List.size_toArray, List.length_reverse, Array.length_toList]
    exact hz
  unfold getItem
  try with_reducible refine wpAny_holding ?_
  first | refine wpAny_bind (wpAny_pure ?_) | skip
  refine wpAny_bind (wpAny_sequenceKey ht.typeIs (by decide) (wpAny_bind (wpAny_callSpecial?_slot (name := Str.ofString "__getitem__") ht.typeIs PyProof.Rows.slot_tuple_getitem (wpAny_call_entry PyProof.Rows.slot_tuple_getitem ht.typeIs entry_tuple_getitem ?_ (args_tuple_getitem _ _)))))
  show wpAny _ _ (Builtin.Tuple.tupleItemsOf (.ref t) >>= _) _ _ s
  refine wpAny_bind (tupleItemsOf_ ht (wpAny_bind (wpAny_typeOf ty ?_)))
  rw [if_pos (by decide)]
  refine wpAny_bind (applied_backN (n := items.size) hs ?_)
  show wpAny _ _ (if ((((items.size : Int) - 1) == 0) && ((-1 : Int) == 1) && (items.size == items.size)) = true then _ else _) _ _ s
  rw [if_neg (by rw [show ((-1 : Int) == 1) = false by decide, Bool.and_false, Bool.false_and]; exact Bool.noConfusion)]
  have e : ((List.range items.size).filterMap fun (k : Nat) => items[((items.size : Int) - 1 + (k : Int) * (-1)).toNat]?).toArray = items.toList.reverse.toArray := by
    have := back_places items.toList
    rw [Array.length_toList] at this
    rw [← this]
    simp only [Array.getElem?_toList]
  rw [e]
  first
    | exact wpAny_bind (m := Builtin.Tuple.tupleExact _) (wpAny_newObj_type (wpAny_pure ⟨_, rfl, wpAny_pure h⟩) fit)
    | exact wpAny_bind (m := Builtin.Tuple.tupleExact _) (wpAny_newObj_type (wpAny_bind (wpAny_pure (wpAny_pure ⟨_, rfl, wpAny_pure h⟩))) fit)
    | exact wpAny_bind (wpAny_bind (m := Builtin.Tuple.tupleExact _) (wpAny_newObj_type (wpAny_pure (wpAny_pure ⟨_, rfl, wpAny_pure h⟩)) fit))
    | exact wpAny_bind (wpAny_bind (m := Builtin.Tuple.tupleExact _) (wpAny_newObj_type (wpAny_pure ⟨_, rfl, wpAny_pure h⟩) fit))
end
section
variable {X : Cx} {K1 : PySem.W.Frag}
def tRevA (K : PySem.W.Frag) (te : TE) : TE := fun σ H Q => te σ H fun x H1 => ∃ a xs, x = .ref a ∧ SqT K H1 a xs ∧ ∀ b, H1 b = none → Q (.ref b) (upd H1 b (.tup xs.reverse))
theorem pe_revA {e : Expr} {te : TE} {k : Nat} {p1 p2 p3 pos : Pos} (hK : X.K = K1) (he : PE X e te) : PE X (.Subscript e (.Slice none none (some (.UnaryOp .USub (.Constant (.int 1) k p1) p2)) p3) pos) (tRevA K1 te) := by
  subst hK
  have step : PO X (some (.UnaryOp .USub (.Constant (.int 1) k p1) p2)) (tPart (tUn (rU fun i => .int (-i)) (tC (.int 1)))) := po_some (pe_un un_neg pe_int)
  constructor
  intro pins s σ H Q I h
  refine Subscript_ (thn (he.run pins s σ H _ I h) ?_)
  rintro v s1 ⟨x, H1, I1, r1, a, xs, rfl, hx, hq⟩
  cases r1
  refine wpAny_Slice (thn (po_none.run pins s1 σ H1 (fun o G => o = none ∧ G = H1) I1 ⟨rfl, rfl⟩) ?_)
  rintro vl s2 ⟨o1, G1, I2, q1, rfl, rfl⟩
  refine thn (po_none.run pins s2 σ G1 (fun o G => o = none ∧ G = G1) I2 ⟨rfl, rfl⟩) ?_
  rintro vu s3 ⟨o2, G2, I3, q2, rfl, rfl⟩
  refine thn (step.run pins s3 σ G2 (fun o G => o = some (-1) ∧ G = G2) I3 ⟨1, rfl, -1, rfl, rfl, rfl⟩) ?_
  rintro vs s4 ⟨o3, G3, I4, q3, rfl, rfl⟩
  cases q1
  cases q2
  cases q3 with
  | int _ u =>
    have I5 : Inv X pins σ G3 { s4 with heap := s4.heap.push { cls := .type "slice", data := .fields #[.none, .none, .int (-1) u] } } := I4.kept (t' := s4.toks) fun b ob q => Heap.get?_push_of_some _ q
    obtain ⟨its, r, ht, hz⟩ := I5.tuple hx
    show wpAny (model X.prog X.w) X.A (subscriptTail e (.Slice none none (some (.UnaryOp .USub (.Constant (.int 1) k p1) p2)) p3) (.ref a) (.ref s4.heap.objs.size)) (EP X pins σ Q) X.xe { s4 with heap := s4.heap.push { cls := .type "slice", data := .fields #[.none, .none, .int (-1) u] } }
    refine tail_any (ops := [.ref a, .ref s4.heap.objs.size]) ht.typeIs (PyProof.Rows.slot_tuple_getitem.lookup) ?_ (by with_unfolding_all rfl)
    refine item_backN ht (by rw [List.size_toArray, ← r.length]; exact hz) (Heap.IsSliceOf.new _ .none .none (.int (-1) u)) ?_
    refine ⟨.ref _, _, I5.laid (t' := s4.toks) (o := .tup xs.reverse) (fun b ob q => Heap.get?_push_of_some _ q) (Nat.le_refl _) ⟨?_, _, vals_reverse r, IsTup.new _ _⟩, rfl, hq _ (I5.hok.fresh (Nat.le_refl _))⟩
    rw [List.length_reverse]
    exact hz
end
end My

set_option Elab.async false
set_option linter.all false
set_option maxRecDepth 100000
set_option maxHeartbeats 2000000
/-! Tuples made by +, by a cut, by turning about, as a literal: the whole new object in sight. -/
namespace My
open PySem PySem.Spec PyProof.Rows L2
section
variable {X : Cx} {K1 : PySem.W.Frag}
/-- a new tuple's object is laid -/
theorem lay_frz {pins : List (Addr × Obj)} {σ : L2.St} {H : Hp} {s : Shared} {xs : List V} {vs : List Value} (I : Inv X pins σ H s) (rv : Vals xs vs) (z : xs.length ≤ sizeLine) :
    Inv X pins σ (upd H s.heap.objs.size (.frz { cls := .type "tuple", data := .seq vs.toArray } (.tup xs))) { s with heap := s.heap.push { cls := .type "tuple", data := .seq vs.toArray } } := by
  have at_ : (s.heap.push { cls := .type "tuple", data := .seq vs.toArray }).get? s.heap.objs.size = some { cls := .type "tuple", data := .seq vs.toArray } := Heap.get?_push_size _ rfl
  exact I.laid (t' := s.toks) (fun b u e => Heap.get?_push_of_some _ e) (Nat.le_refl _) (show ObjOk X.prog X.w (upd H s.heap.objs.size (.frz { cls := .type "tuple", data := .seq vs.toArray } (.tup xs))) _ s.heap.objs.size (.frz { cls := .type "tuple", data := .seq vs.toArray } (.tup xs)) from ⟨at_, z, vs, rv, IsTup.new _ _⟩)
def rCatF (K : PySem.W.Frag) : R2 := fun x y H Q => ∃ a b xs ys, x = .ref a ∧ y = .ref b ∧ SqT K H a xs ∧ SqT K H b ys ∧ xs.length + ys.length ≤ sizeLine ∧
  (xs = [] → Q (.ref b) H) ∧ (xs ≠ [] → ys = [] → Q (.ref a) H) ∧ (xs ≠ [] → ys ≠ [] → ∀ p o, H p = none → TD o → Q (.ref p) (upd H p (.frz o (.tup (xs ++ ys)))))
theorem op_catF : OpR X (binaryOp .Add) (rCatF X.K) := by
  intro pins s σ H x y v u Q I rx ry h
  obtain ⟨a, b, xs, ys, rfl, rfl, ha, hb, hz, q0, q1, q2⟩ := h
  cases rx
  cases ry
  obtain ⟨its, r1, p1, _⟩ := I.tuple ha
  obtain ⟨its2, r2, p2, _⟩ := I.tuple hb
  by_cases hx : xs = []
  · subst hx
    cases r1
    exact cat_tup0 p1 p2 ⟨.ref b, H, I, rfl, q0 rfl⟩
  · have l1 := r1.length
    have l2 := r2.length
    refine HT.cat_tup p1 p2 (fun z => hx (List.length_eq_zero_iff.mp (by rw [l1, z]; rfl))) (fun e => ?_) (fun e => ?_) (by omega)
    · exact ⟨.ref a, H, I, rfl, q1 hx (List.length_eq_zero_iff.mp (by rw [l2, e]; rfl))⟩
    · exact ⟨.ref s.heap.objs.size, _, lay_frz I (r1.append r2) (by rw [List.length_append]; exact hz), rfl, q2 hx (fun z => e (List.length_eq_zero_iff.mp (by rw [← l2, z]; rfl))) _ _ (I.hok.fresh (Nat.le_refl _)) ⟨rfl, rfl⟩⟩
def rSlF (K : PySem.W.Frag) : V → Option Int → Option Int → Hp → VK → Prop := fun x lo hi H Q => ∃ a xs, x = .ref a ∧ SqT K H a xs ∧
  (HT.sIx xs.length 0 lo = 0 ∧ HT.sIx xs.length xs.length hi = xs.length → Q (.ref a) H) ∧ (¬ (HT.sIx xs.length 0 lo = 0 ∧ HT.sIx xs.length xs.length hi = xs.length) → ∀ p o, H p = none → TD o → Q (.ref p) (upd H p (.frz o (.tup (cutV xs lo hi)))))
theorem sl_tupF : SlR X (rSlF X.K) := by
  intro pins s σ H x v vl vu lo hi sl Q I rx hs pl pu h
  obtain ⟨a, xs, rfl, hx, q1, q2⟩ := h
  cases rx
  obtain ⟨its, r, ht, hz⟩ := I.tuple hx
  have hlen : its.toArray.size = xs.length := by rw [List.size_toArray]; exact r.length.symm
  refine ⟨"tuple", _, PyProof.Rows.slot_tuple_getitem.lookup, ht.typeIs, ?_⟩
  by_cases hw : HT.sIx xs.length 0 lo = 0 ∧ HT.sIx xs.length xs.length hi = xs.length
  · exact getItem_tuple_whole ht hs pl pu (by rw [hlen]; exact hw) ⟨.ref a, H, I, rfl, q1 hw⟩
  · refine HT.getItem_tuple_cut ht hs pl pu (by rw [hlen]; exact hw) ?_ (by rw [hlen]; exact hz)
    rw [hlen]
    exact ⟨.ref s.heap.objs.size, _, lay_frz I ((r.drop (HT.sIx xs.length 0 lo)).take (HT.sIx xs.length xs.length hi - HT.sIx xs.length 0 lo)) (Nat.le_trans (cutV_length xs lo hi) hz), rfl, q2 hw _ _ (I.hok.fresh (Nat.le_refl _)) ⟨rfl, rfl⟩⟩
def tTupF (t : TA) : TE := fun σ H Q => t σ H fun xs H1 => xs.length ≤ sizeLine ∧ ∀ p o, H1 p = none → TD o → Q (.ref p) (upd H1 p (.frz o (.tup xs)))
theorem pe_tupF {es : List Expr} {t : TA} {pos : Pos} {x1} (h : PA X es t) : PE X (.Tuple es x1 pos) (tTupF t) := by
  refine ⟨fun pins s σ H Q I hq => ?_⟩
  refine wpAny_Tuple_spliced (thn (h.run pos pins s σ H _ I hq) fun us s1 ⟨xs, H1, I1, r, z, q⟩ => ⟨by rw [← r.length]; exact z, ?_⟩)
  exact ⟨.ref s1.heap.objs.size, _, lay_frz I1 r z, rfl, q _ _ (I1.hok.fresh (Nat.le_refl _)) ⟨rfl, rfl⟩⟩
def tRevF (K : PySem.W.Frag) (te : TE) : TE := fun σ H Q => te σ H fun x H1 => ∃ a xs, x = .ref a ∧ SqT K H1 a xs ∧ ∀ b o, H1 b = none → TD o → Q (.ref b) (upd H1 b (.frz o (.tup xs.reverse)))
theorem pe_revF {e : Expr} {te : TE} {k : Nat} {p1 p2 p3 pos : Pos} (hK : X.K = K1) (he : PE X e te) : PE X (.Subscript e (.Slice none none (some (.UnaryOp .USub (.Constant (.int 1) k p1) p2)) p3) pos) (tRevF K1 te) := by
  subst hK
  have step : PO X (some (.UnaryOp .USub (.Constant (.int 1) k p1) p2)) (tPart (tUn (rU fun i => .int (-i)) (tC (.int 1)))) := po_some (pe_un un_neg pe_int)
  constructor
  intro pins s σ H Q I h
  refine Subscript_ (thn (he.run pins s σ H _ I h) ?_)
  rintro v s1 ⟨x, H1, I1, r1, a, xs, rfl, hx, hq⟩
  cases r1
  refine wpAny_Slice (thn (po_none.run pins s1 σ H1 (fun o G => o = none ∧ G = H1) I1 ⟨rfl, rfl⟩) ?_)
  rintro vl s2 ⟨o1, G1, I2, q1, rfl, rfl⟩
  refine thn (po_none.run pins s2 σ G1 (fun o G => o = none ∧ G = G1) I2 ⟨rfl, rfl⟩) ?_
  rintro vu s3 ⟨o2, G2, I3, q2, rfl, rfl⟩
  refine thn (step.run pins s3 σ G2 (fun o G => o = some (-1) ∧ G = G2) I3 ⟨1, rfl, -1, rfl, rfl, rfl⟩) ?_
  rintro vs s4 ⟨o3, G3, I4, q3, rfl, rfl⟩
  cases q1
  cases q2
  cases q3 with
  | int _ u =>
    have I5 : Inv X pins σ G3 { s4 with heap := s4.heap.push { cls := .type "slice", data := .fields #[.none, .none, .int (-1) u] } } := I4.kept (t' := s4.toks) fun b ob q => Heap.get?_push_of_some _ q
    obtain ⟨its, r, ht, hz⟩ := I5.tuple hx
    show wpAny (model X.prog X.w) X.A (subscriptTail e (.Slice none none (some (.UnaryOp .USub (.Constant (.int 1) k p1) p2)) p3) (.ref a) (.ref s4.heap.objs.size)) (EP X pins σ Q) X.xe { s4 with heap := s4.heap.push { cls := .type "slice", data := .fields #[.none, .none, .int (-1) u] } }
    refine tail_any (ops := [.ref a, .ref s4.heap.objs.size]) ht.typeIs (PyProof.Rows.slot_tuple_getitem.lookup) ?_ (by with_unfolding_all rfl)
    refine item_backN ht (by rw [List.size_toArray, ← r.length]; exact hz) (Heap.IsSliceOf.new _ .none .none (.int (-1) u)) ?_
    exact ⟨.ref _, _, lay_frz I5 (vals_reverse r) (by rw [List.length_reverse]; exact hz), rfl, hq _ _ (I5.hok.fresh (Nat.le_refl _)) ⟨rfl, rfl⟩⟩
end
end My

set_option Elab.async false
set_option linter.all false
set_option maxRecDepth 100000
set_option maxHeartbeats 2000000
/-! An object in sight may be let out of sight: its frozen form is put by what it holds. -/
namespace My
open PySem PySem.Spec PyProof.Rows L2
section
variable {X : Cx}
theorem obj_thaw {P : Program} {w : World} {H : Hp} {h : Heap} {a : Addr} {o : Obj} {xs : List V} (e : H a = some (.frz o (.tup xs))) : ∀ {b : Addr} {u : HO}, ObjOk P w H h b u → ObjOk P w (upd H a (.tup xs)) h b u := by
  intro b u
  induction u with
  | lst ys => exact id
  | tup ys => exact id
  | dK kvs => exact id
  | dT kvs =>
    rintro ⟨z, m, ys, p, r⟩
    exact ⟨z, m, ys, L2.Paired.mapP p fun q1 q2 ⟨x, y, v⟩ => ⟨x, by rw [upd_ne (fun z => by rw [z, e] at y; cases y)]; exact y, v⟩, r⟩
  | set S n => exact id
  | ins C dx fs =>
    rintro ⟨x, r⟩
    exact ⟨by rw [upd_ne (fun z => by rw [z, e] at x; cases x)]; exact x, r⟩
  | own y => exact id
  | xd fs => exact id
  | rng lo hi => exact id
  | frz ob u ih => exact fun ⟨x, y⟩ => ⟨x, ih y⟩
  | tbl ps => exact id
  | met f x => exact id
  | ext φ => exact id
theorem inv_thaw {pins : List (Addr × Obj)} {σ : L2.St} {H : Hp} {s : Shared} {a : Addr} {o : Obj} {xs : List V} (I : Inv X pins σ H s) (e : H a = some (.frz o (.tup xs))) (n : X.H_0 a = none) : Inv X pins σ (upd H a (.tup xs)) s := by
  have ne : ∀ {b : Addr}, H b = none → upd H a (.tup xs) b = none := fun {b} h => by
    rw [upd_ne (fun z => by rw [z, e] at h; cases h)]
    exact h
  refine { I with base := ?_, free := ne I.free, freeC := fun x c h => ne (I.freeC x c h), pin := fun p hp => ?_, hok := fun b u h => ?_ }
  · refine { I.base with free := fun b ob h1 h2 h3 => ne (I.base.free b ob h1 h2 h3), tups := fun b ys h => ?_, frzs := fun b ob u h => ?_, tbls := fun b ps h => ?_ }
    · rw [upd_ne (fun z => by rw [z, n] at h; cases h)]
      exact I.base.tups b ys h
    · rw [upd_ne (fun z => by rw [z, n] at h; cases h)]
      exact I.base.frzs b ob u h
    · obtain ⟨more, h2⟩ := I.base.tbls b ps h
      exact ⟨more, by rw [upd_ne (fun z => by rw [z, n] at h; cases h)]; exact h2⟩
  · obtain ⟨h1, h2, h3⟩ := I.pin p hp
    exact ⟨h1, ne h2, h3⟩
  · refine obj_thaw e ?_
    by_cases z : b = a
    · rw [z, upd_same] at h
      cases h
      rw [z]
      exact (I.hok a _ e).2
    · rw [upd_ne z] at h
      exact I.hok b u h
def tThaw (H0 : Hp) (te : TE) : TE := fun σ H Q => ∃ a o xs, H a = some (.frz o (.tup xs)) ∧ H0 a = none ∧ te σ (upd H a (.tup xs)) Q
/-- a term asked where a tuple is let out of sight -/
theorem pe_thaw {e : Expr} {te : TE} (he : PE X e te) : PE X e (tThaw X.H_0 te) :=
  ⟨fun pins s σ H Q I ⟨a, o, xs, h, n, q⟩ => he.run pins s σ _ Q (inv_thaw I h n) q⟩
end
end My

set_option Elab.async false
set_option linter.all false
set_option maxRecDepth 100000
set_option maxHeartbeats 2000000
/-! t.index(x), x a number, a text, a tuple of these -/
namespace My
open PySem PySem.Spec PyProof.Rows L2 PySem.SeqAt
section
variable {X : Cx} {K1 : PySem.W.Frag}
theorem nested_get {h : Heap} : ∀ {ks : List NestedKey} {us : List Value} {m : Nat} {u : Value}, NestedAll h ks us → us[m]? = some u → ∃ k, ks[m]? = some k ∧ NestedIs h k u
  | [], _, _, _, .nil, e => by simp at e
  | k :: _, _, 0, _, .cons a _, e => ⟨k, rfl, by cases e; exact a⟩
  | _ :: _, _, m + 1, _, .cons _ r, e => nested_get (m := m) r (by simpa using e)
def rTupIxN (K : PySem.W.Frag) : V → List V → Hp → VK → Prop := fun x xs H Q => ∃ p ys ks v k j, x = .ref p ∧ xs = [v] ∧ SqT K H p ys ∧ NkAll H ys ks ∧ Nk H v k ∧ k.depth ≤ 50 ∧ ks[j]? = some k ∧ (∀ m, m < j → ks[m]? ≠ some k) ∧ Q (.int (j : Nat)) H
theorem mt_tup_indexN (hK : X.K = K1) (hu : X.A.units + 64 < cLine) : MtR X "tuple.index" (rTupIxN K1) := by
  subst hK
  intro pins s σ H x xs v us Q I rx rs h
  obtain ⟨p, ys, ks, w, k, j, rfl, rfl, hq, hk, hw, hd, hj, hno, q⟩ := h
  cases rx
  obtain ⟨u, rfl, ru⟩ := vals1 rs
  obtain ⟨its, rv, ⟨⟨cls, dd, data, sl⟩, ho, hc, n, hdt⟩, hz⟩ := I.tuple hq
  simp only at hc hdt
  subst hc hdt
  have ha := hk.is I rv
  have hl : its.toArray.size = ks.length := by rw [List.size_toArray, ← rv.length, hk.length]
  have jl : j < its.toArray.size := by rw [hl]; exact (List.getElem?_eq_some_iff.mp hj).1
  have each : ∀ (m : Nat) (hm : m < its.toArray.size), ∃ k', ks[m]? = some k' ∧ eqK s.heap k its.toArray[m] = decide (k' = k) := fun m hm => by
    obtain ⟨k', e1, e2⟩ := nested_get ha (List.getElem?_eq_getElem (by simpa using hm))
    exact ⟨k', e1, by rw [List.getElem_toArray]; exact eqK_is e2⟩
  refine call_meets PySem.F.slot_tuple_index ⟨_, ho, rfl⟩ PySem.F.entry_tuple_index (PySem.F.args_tuple_index_2 _ _) (TI.tuple_indexAt p its.toArray n dd sl u (eqK s.heap k) j jl ?_ ?_)
    ⟨ho, fun y hy => (in_run I hu rv hw ru hk hd).2 y hy, ⟨.int (j : Nat), H, I.tok _, ⟨_, rfl⟩, q⟩⟩
  · obtain ⟨k', e1, e2⟩ := each j jl
    rw [e2, hj] at *
    rw [← Option.some.inj e1]
    exact decide_eq_true rfl
  · intro m hm hmj
    obtain ⟨k', e1, e2⟩ := each m hm
    rw [e2]
    exact decide_eq_false fun z => hno m hmj (by rw [e1, z])
end
end My

set_option Elab.async false
set_option linter.all false
set_option maxRecDepth 100000
set_option maxHeartbeats 2000000
/-! xs == [], xs != []: a list of any things against the list of none. -/
namespace My
open PySem PySem.Spec PyProof.Rows L2 PySem.SeqAt
def rEqE (K : PySem.W.Frag) (f : Bool → Bool) : R2 := fun x y H Q => ∃ (p q : Addr) (xs : List V), x = .ref p ∧ y = .ref q ∧ SqL K H p xs ∧ SqL K H q [] ∧ Q (.bl (f xs.isEmpty)) H
section
variable {X : Cx}
theorem op_eqE (hu : X.A.units + 1 < cLine) : OpR X (compareOp .Eq) (rEqE X.K fun b => b) := by
  intro pins s σ H x y v u Q I rx ry h
  obtain ⟨p, q, xs, rfl, rfl, hp, hq, h⟩ := h
  cases (show v = Value.ref p from rx)
  cases (show u = Value.ref q from ry)
  obtain ⟨us, r1, p1, _⟩ := I.list hp
  obtain ⟨ws, r2, p2, _⟩ := I.list hq
  cases r2
  cases r1 with
  | nil => exact RcAt.lists (e := fun _ => true) p1.isList p2.isList rfl (by omega) (fun j h1 _ => absurd h1 (Nat.not_lt_zero j)) X.prog X.w _ _ ⟨.bl true, H, I, rfl, h⟩
  | cons _ _ => exact RcAt.lists_lengths p1.isList p2.isList (by simp) (by omega) X.prog X.w _ _ ⟨.bl false, H, I, rfl, h⟩
theorem op_neE (hu : X.A.units + 1 < cLine) : OpR X (compareOp .NotEq) (rEqE X.K fun b => !b) := by
  intro pins s σ H x y v u Q I rx ry h
  obtain ⟨p, q, xs, rfl, rfl, hp, hq, h⟩ := h
  cases (show v = Value.ref p from rx)
  cases (show u = Value.ref q from ry)
  obtain ⟨us, r1, p1, _⟩ := I.list hp
  obtain ⟨ws, r2, p2, _⟩ := I.list hq
  cases r2
  cases r1 with
  | nil => exact RcNeAt.lists (e := fun _ => true) p1.isList p2.isList rfl (by omega) (fun j h1 _ => absurd h1 (Nat.not_lt_zero j)) X.prog X.w _ _ ⟨.bl false, H, I, rfl, h⟩
  | cons _ _ => exact RcNeAt.lists_lengths p1.isList p2.isList (by simp) (by omega) X.prog X.w _ _ ⟨.bl true, H, I, rfl, h⟩
end
end My

set_option Elab.async false
set_option linter.all false
/-! Rules that name the fragment, for use inside comprehensions (the block's context must not stand in what they ask). -/
namespace My
open PySem PySem.Spec PyProof.Rows L2
def rLenK (K : PySem.W.Frag) : List V → Hp → VK → Prop := fun xs H Q => ∃ p ys, xs = [.ref p] ∧ (SqL K H p ys ∨ SqT K H p ys) ∧ Q (.int ys.length) H
section
variable {X : Cx}
theorem call_lenK : CallR X (.builtin "len") (rLenK X.K) := call_len_seq
variable {o e : Expr} {es : List Expr} {to : TE} {t : TA} {name : Str} {apos cpos : Pos} {T id : String} {r : V → List V → Hp → VK → Prop} {K1 : PySem.W.Frag}
theorem pe_bmK (hK : X.K = K1) (pa : PlainAttrs T) (slot : Slot T name id) (hty : typeOf (.builtin id) = pure (.type "method_descriptor")) (hm : MtR X id r) (ho : PE X o to) (ha : PA X (e :: es) t)
    (hbase : attributeBase o name X.env (eval o X.env) = eval o X.env := by rfl)
    (hfew : ((backTo cpos (starEach (e :: es) X.env)).all (fun x => !x.1) && (backToKw cpos (keywordEach [] X.env)).all (fun x => x.1.isSome)
      && decide ((e :: es).length + ([] : List Keyword).length + (if ([] : List Keyword).isEmpty then 0 else 1) < 30)) = true := by rfl)
    (hline : (apos.endLine == cpos.line) = true := by rfl) (hs : starEach (e :: es) X.env = (false, eval e X.env) :: starEach es X.env := by rfl) (hplain : (backTo cpos (starEach es X.env)).any (·.1) = false := by rfl) :
    PE X (.Call (.Attribute o name apos) (e :: es) [] cpos) (tBM K1 T r to t) := by
  subst hK
  exact pe_bm pa slot hty hm ho ha hbase hfew hline hs hplain
theorem pi_listK {tg : Expr} {te : TE} (hK : X.K = K1) (h : PE X e te) : PI X tg e (iList K1 te) := by
  subst hK
  exact pi_list h
theorem pi_tupK {tg : Expr} {te : TE} (hK : X.K = K1) (h : PE X e te) : PI X tg e (iTup K1 te) := by
  subst hK
  exact pi_tup h
end
end My

set_option Elab.async false
set_option linter.all false
set_option maxRecDepth 100000
set_option maxHeartbeats 2000000
/-! What a set asks of nested tuples: that none of a class of the program's own lies in them, and how their hash is made. -/
namespace My
open PySem PySem.Spec PyProof.Rows L2 PySem.SeqAt
section
variable {P : Program} {w : World} {A : Around} {E : Value → Shared → Prop} {s : Shared}
/-- no object of an own class within -/
def NoCls (P : Program) (w : World) (n : Nat) (s : Shared) (v : Value) : Prop := ∀ (A : Around) (E : Value → Shared → Prop) (Q : Bool → Shared → Prop), Q false s → wpAny (model P w) A (ofAClassStatement n v) Q E s
theorem NoCls.tuple {n : Nat} {a : Addr} {ob : Obj} {vs : Array Value} {m : Nat} (g1 : s.heap.get? a = some ob) (g2 : ob.cls = .type "tuple") (g3 : ob.data = .seq vs m) (al : ∀ v ∈ vs.toList, NoCls P w n s v) : NoCls P w (n + 1) s (.ref a) := by
  intro A E Q q
  unfold ofAClassStatement
  refine wpAny_bind (wpAny_typeOf (T := "tuple") ⟨ob, g1, g2⟩ ?_)
  dsimp only
  rw [if_pos (by decide : (("tuple" : String) == "tuple") = true)]
  refine wpAny_bind (wpAny_pure ?_)
  rw [if_neg (by decide : ¬ (!true) = true)]
  refine wpAny_bind (wpAny_seqItems g1 g3 ?_)
  dsimp only
  refine wpAny_bind (?_ : wpAny _ _ (forIn vs _ _) _ _ s)
  rw [← Array.forIn_toList]
  refine wpAny_forIn_list _ (fun left got now => got.1 = none ∧ now = s ∧ ∀ v ∈ left, NoCls P w n s v) _ (fun v left got now => ?_) (fun got now => ?_) _ _ ⟨rfl, rfl, al⟩
  · rintro ⟨_, rfl, all⟩
    refine wpAny_bind (all v (.head _) _ _ _ ?_)
    rw [if_neg Bool.false_ne_true]
    exact wpAny_pure ⟨rfl, rfl, fun u hu => all u (.tail _ hu)⟩
  · obtain ⟨g, h⟩ := got
    rintro ⟨rfl, rfl, _⟩
    exact wpAny_pure q
mutual
theorem noCls : ∀ (k : NestedKey) (v : Value) (n : Nat) (s : Shared), NestedIs s.heap k v → k.depth ≤ n → NoCls P w n s v
  | .none, _, n, s, x, _ => by cases x; intro A E Q q; cases n <;> exact wpAny_pure q
  | .num _, _, n, s, x, _ => by cases x <;> (intro A E Q q; cases n <;> exact wpAny_pure q)
  | .text _, _, n, s, x, _ => by cases x; intro A E Q q; cases n <;> exact wpAny_pure q
  | .tup ks, _, n, s, x, d => by
    cases x with
    | tup g1 g2 g3 al =>
      rw [NestedKey.depth] at d
      cases n with
      | zero => omega
      | succ n => exact .tuple g1 g2 g3 (noClsAll ks _ n s al (by omega))
theorem noClsAll : ∀ (ks : List NestedKey) (vs : List Value) (n : Nat) (s : Shared), NestedAll s.heap ks vs → NestedKey.depthAll ks ≤ n → ∀ v ∈ vs, NoCls P w n s v
  | [], _, n, s, x, _, v, hv => by cases x; cases hv
  | k :: ks, _, n, s, x, d, v, hv => by
    cases x with
    | cons x1 x2 =>
      rw [NestedKey.depthAll] at d
      rcases List.mem_cons.mp hv with e | hv
      · rw [e]; exact noCls k _ n s x1 (by omega)
      · exact noClsAll ks _ n s x2 (by omega) v hv
end
/-- whether the hash is by value is told, whatever the answer -/
def HashTold (P : Program) (w : World) (n : Nat) (s : Shared) (v : Value) : Prop := ∀ (A : Around) (E : Value → Shared → Prop) (Q : Bool → Shared → Prop), (∀ b, Q b s) → wpAny (model P w) A (hashByValue n v) Q E s
theorem HashTold.tuple {n : Nat} {a : Addr} {ob : Obj} {vs : Array Value} {m : Nat} (g1 : s.heap.get? a = some ob) (g2 : ob.cls = .type "tuple") (g3 : ob.data = .seq vs m) (al : ∀ v ∈ vs.toList, HashTold P w n s v) : HashTold P w (n + 1) s (.ref a) := by
  intro A E Q q
  unfold hashByValue
  refine wpAny_bind (wpAny_specialOf (T := "tuple") ⟨ob, g1, g2⟩ F.slot_tuple_hash.lookup ?_)
  refine (?_ : wpAny _ _ (seqItems? (.ref a) >>= _) _ _ s)
  refine wpAny_bind (wpAny_seqItems g1 g3 ?_)
  refine wpAny_bind (?_ : wpAny _ _ (forIn vs _ _) _ _ s)
  rw [← Array.forIn_toList]
  refine wpAny_forIn_list _ (fun left got now => got.1 = none ∧ now = s ∧ ∀ v ∈ left, HashTold P w n s v) _ (fun v left got now => ?_) (fun got now => ?_) _ _ ⟨rfl, rfl, al⟩
  · rintro ⟨_, rfl, all⟩
    refine wpAny_bind (all v (.head _) _ _ _ fun b => ?_)
    cases b with
    | false =>
      rw [if_pos (by decide : (!false) = true)]
      exact wpAny_pure (wpAny_pure (q false))
    | true =>
      rw [if_neg (by decide : ¬ (!true) = true)]
      exact wpAny_pure ⟨rfl, rfl, fun u hu => all u (.tail _ hu)⟩
  · obtain ⟨g, h⟩ := got
    rintro ⟨rfl, rfl, _⟩
    exact wpAny_pure (q true)
mutual
theorem hashTold : ∀ (k : NestedKey) (v : Value) (n : Nat) (s : Shared), NestedIs s.heap k v → k.depth ≤ n → HashTold P w n s v
  | .none, _, n, s, x, _ => by cases x; intro A E Q q; cases n <;> exact wpAny_pure (q _)
  | .num _, _, n, s, x, _ => by cases x <;> (intro A E Q q; cases n <;> exact wpAny_pure (q _))
  | .text _, _, n, s, x, _ => by cases x; intro A E Q q; cases n <;> exact wpAny_pure (q _)
  | .tup ks, _, n, s, x, d => by
    cases x with
    | tup g1 g2 g3 al =>
      rw [NestedKey.depth] at d
      cases n with
      | zero => omega
      | succ n => exact .tuple g1 g2 g3 (hashToldAll ks _ n s al (by omega))
theorem hashToldAll : ∀ (ks : List NestedKey) (vs : List Value) (n : Nat) (s : Shared), NestedAll s.heap ks vs → NestedKey.depthAll ks ≤ n → ∀ v ∈ vs, HashTold P w n s v
  | [], _, n, s, x, _, v, hv => by cases x; cases hv
  | k :: ks, _, n, s, x, d, v, hv => by
    cases x with
    | cons x1 x2 =>
      rw [NestedKey.depthAll] at d
      rcases List.mem_cons.mp hv with e | hv
      · rw [e]; exact hashTold k _ n s x1 (by omega)
      · exact hashToldAll ks _ n s x2 (by omega) v hv
end
end
end My

set_option Elab.async false
set_option linter.all false
set_option maxRecDepth 100000
set_option maxHeartbeats 4000000
/-! Sets of nested tuples: the search and the adding. -/
namespace My
open PySem PySem.Spec PyProof.Rows L2 PySem.SeqAt
def KeyAt (h : Heap) (k : NestedKey) (a : Addr) : Prop := NestedIs h k (.ref a) ∧ k.depth ≤ 8
theorem KeyAt.stay {h h' : Heap} {k : NestedKey} {a : Addr} (x : KeyAt h k a) (g : ∀ b o vs n, h.get? b = some o → o.data = .seq vs n → h'.get? b = some o) : KeyAt h' k a := ⟨NestedIs.at g _ _ x.1, x.2⟩
abbrev Ent := Addr × NestedKey
/-- what is kept of an entry -/
def kept (w : World) (p : Ent) : Int × Value := (p.2.hash w, .ref p.1)
def hsh (w : World) (p : Ent) : Int := p.2.hash w
/-- the state of a search behind c steps -/
def stp (t : SetTable) (h : Int) (c : Nat) : SetTable.Probe := nth t.mask (runAt t.mask (SetTable.bits h % (t.mask + 1)) (SetTable.bits h)) c
theorem stp_j (t : SetTable) (h : Int) (c : Nat) : (stp t h c).j = way t.mask h c := rfl
theorem stp_add (t : SetTable) (h : Int) (c d : Nat) : nth t.mask (stp t h c) d = stp t h (c + d) := (nth_add t.mask c _ d).symm
theorem nth_clean (m : Nat) : ∀ (c : Nat) (p : SetTable.Probe), p.dummy = none → (nth m p c).dummy = none
  | 0, _, e => e
  | c + 1, p, e => nth_clean m c (adv m p) (by unfold adv; split <;> exact e)
theorem stp_clean (t : SetTable) (h : Int) (c : Nat) : (stp t h c).dummy = none := nth_clean t.mask c _ rfl
structure SetN (w : World) (h : Heap) (a : Addr) (M : List Ent) (es : Array (Int × Value)) (ep : Nat) (t : SetTable) : Prop where
  ob : ∃ o, h.get? a = some o ∧ o.ExactSet ∧ o.data = .set es ep t
  rows : es.toList = M.map (kept w)
  tab : TabOk t (M.map (hsh w))
  nd : (M.map (·.2)).Nodup
  key : ∀ p ∈ M, KeyAt h p.2 p.1
  led : w.params.followText "set-order" = true ∨ t.led = true
  room : M.length * 5 < t.mask * 3
section
variable {P : Program} {w : World} {A : Around} {E : Value → Shared → Prop} {s : Shared} {a : Addr} {M : List Ent} {es : Array (Int × Value)} {ep : Nat} {t : SetTable}
theorem SetN.size {h : Heap} (Z : SetN w h a M es ep t) : es.size = M.length := by
  rw [← Array.length_toList, Z.rows, List.length_map]
theorem fits_of (e1 : t.place.size = es.size) (e2 : t.dummies = #[]) (l : es.size ≤ t.mask) : t.fits es.size = true := by
  have z : (#[] : Array Nat).size = 0 := rfl
  simp only [SetTable.fits, SetTable.fill, e2, Bool.and_eq_true, beq_iff_eq, decide_eq_true_eq]
  omega
theorem SetN.fits {h : Heap} (Z : SetN w h a M es ep t) : t.fits es.size = true := by
  have l1 := Z.tab.sz
  rw [List.length_map] at l1
  have l2 := Z.size
  have l3 := Z.room
  exact fits_of (by omega) Z.tab.dm (by omega)
theorem SetN.at {h : Heap} (Z : SetN w h a M es ep t) {i : Nat} {p : Ent} (e : M[i]? = some p) : es[i]? = some (kept w p) := by
  rw [← Array.getElem?_toList, Z.rows, List.getElem?_map, e]
  rfl
/-- a search among such tuples shows nothing -/
theorem seenN {k : NestedKey} {b : Addr} (kb : KeyAt s.heap k b) {ys : List Value} (al : ∀ y ∈ ys, ∃ k' c, y = Value.ref c ∧ KeyAt s.heap k' c) {Q : Bool → Shared → Prop} (q : Q false s) : wpAny (model P w) A (searchCouldBeSeen (.ref b) ys) Q E s := by
  unfold searchCouldBeSeen
  refine wpAny_bind (wpAny_forIn_list _ (fun left got now => got.1 = none ∧ now = s ∧ ∀ y ∈ left, ∃ k' c, y = Value.ref c ∧ KeyAt s.heap k' c) _ (fun y left got now => ?_) (fun got now => ?_) _ _ ⟨rfl, rfl, al⟩)
  · rintro ⟨_, rfl, all⟩
    obtain ⟨k', c, rfl, kc⟩ := all y (.head _)
    have nx : ∀ y ∈ left, ∃ k' c, y = Value.ref c ∧ KeyAt now.heap k' c := fun u hu => all u (.tail _ hu)
    dsimp only
    by_cases e : (b == c || (carriedByValue (.ref b) && carriedByValue (.ref c))) = true
    · exact wp_if_pos e (wpAny_pure ⟨rfl, rfl, nx⟩)
    · refine wp_if_neg e (wpAny_bind (quiet_key k _ 8 now kb.1 kb.2 _ _ _ ?_))
      rw [if_neg (by decide : ¬ (!true) = true)]
      refine wpAny_bind (quiet_key k' _ 8 now kc.1 kc.2 _ _ _ ?_)
      rw [if_neg (by decide : ¬ (!true) = true)]
      refine wpAny_bind (noCls k _ 8 now kb.1 kb.2 _ _ _ ?_)
      rw [if_neg Bool.false_ne_true]
      refine wpAny_bind (noCls k' _ 8 now kc.1 kc.2 _ _ _ ?_)
      rw [if_neg Bool.false_ne_true]
      exact wpAny_pure ⟨rfl, rfl, nx⟩
  · obtain ⟨g, h⟩ := got
    rintro ⟨rfl, rfl, _⟩
    exact wpAny_pure q
theorem sameMemN (t : SetTable) : t.sameMemory t.moves t.mask = some true := by
  simp only [SetTable.sameMemory, beq_self_eq_true, if_true]
/-- the search for a tuple, from the c-th step on; K: the first empty slot of its way -/
theorem findN (Z : SetN w s.heap a M es ep t) {x : Addr} {k : NestedKey} (kx : KeyAt s.heap k x) (un : A.units + 8 < cLine) {K : Nat} (Kf : K < 10 * SetTable.turns t.mask) (Ke : way t.mask (k.hash w) K ∉ t.place.toList)
    (Kb : ∀ c, c < K → way t.mask (k.hash w) c ∈ t.place.toList) {Q : SetFound → Shared → Prop} (yes : k ∈ M.map (·.2) → Q (.there none) s) (no : k ∉ M.map (·.2) → Q (.free (way t.mask (k.hash w) K) false) s) :
    ∀ (f c : Nat) (st : Option SetTable.Probe), st.getD (t.probeStart (k.hash w)) = stp t (k.hash w) c → c ≤ K → K < c + f →
      (∀ (i : Nat) (p : Ent), M[i]? = some p → p.2 = k → ∃ d, c ≤ d ∧ d < K ∧ t.place.toList[i]? = some (way t.mask (k.hash w) d)) → wpAny (model P w) A (setSearchFrom a (.ref x) (k.hash w) true f st) Q E s := by
  intro f
  induction f with
  | zero => intro c st _ l1 l2; omega
  | succ f ih =>
    intro c st est l1 l2 ahead
    obtain ⟨o, g1, g2, g3⟩ := Z.ob
    rw [setSearchFrom_succ]
    refine wpAny_bind (wpAny_setState_of g1 g3 Z.fits ?_)
    dsimp only
    refine wp_if_neg (by rw [SetTable.gaveWay, mask_odd Z.tab.mok]; decide) ?_
    have hAt : ∀ (i : Nat) (p : Ent), M[i]? = some p → (fun i => (es[i]?.map (·.1)).getD 0) i = hsh w p := fun i p e => by
      dsimp only
      rw [Z.at e]
      rfl
    rcases go_spec t Z.tab.ris Z.tab.dm (fun i => (es[i]?.map (·.1)).getD 0) (k.hash w) (10 * SetTable.turns t.mask) (K - c) (stp t (k.hash w) c) (stp_clean _ _ _) (by omega)
      (fun d hd => by rw [stp_add]; exact Kb (c + d) (by omega)) (by rw [stp_add, show c + (K - c) = K by omega]; exact Ke) with ⟨d, i, dl, di, dh, dn, dp⟩ | ⟨dn, dp⟩
    · have pr : t.probe (fun i => (es[i]?.map (·.1)).getD 0) (k.hash w) (st.getD (t.probeStart (k.hash w))) = some (.candidate (way t.mask (k.hash w) (c + d)) i (stp t (k.hash w) (c + (d + 1)))) := by
        rw [est, ← stp_j, ← stp_add, ← stp_add]
        exact dp
      rw [pr]
      dsimp only
      rw [stp_add, stp_j] at di
      have il : i < M.length := by
        have a1 := (List.getElem?_eq_some_iff.mp di).1
        have a2 := Z.tab.sz
        rw [List.length_map] at a2
        rw [Array.length_toList] at a1
        omega
      obtain ⟨p, ep⟩ : ∃ p, M[i]? = some p := ⟨_, List.getElem?_eq_getElem il⟩
      have pm := List.mem_of_getElem? ep
      have kp := Z.key p pm
      have go : wpAny (model P w) A (searchRest a (.ref x) (k.hash w) true f es t (way t.mask (k.hash w) (c + d)) i (stp t (k.hash w) (c + (d + 1)))) Q E s := by
        unfold searchRest
        rw [Z.at ep]
        refine wpAny_bind (wpAny_holding ((nestedKind P w).eqBool un kp kx (wpAny_bind (wpAny_setState_of g1 g3 Z.fits ?_))))
        dsimp only
        by_cases e : p.2 = k
        · exact wp_if_pos (by rw [decide_eq_true e]; rfl) (wpAny_pure (yes (List.mem_map.mpr ⟨p, pm, e⟩)))
        · refine wp_if_neg (by rw [decide_eq_false e]; decide) ?_
          have sl : t.slot (way t.mask (k.hash w) (c + d)) = .live i := slot_live Z.tab.ris di
          rw [sameMemN]
          dsimp only
          rw [if_pos rfl, sl]
          dsimp only
          rw [Z.at ep]
          dsimp only [kept]
          refine wpAny_bind (wpAny_isSame_ref_self (wpAny_bind (wpAny_pure ?_)))
          rw [if_pos rfl]
          dsimp only
          refine wp_if_neg (by rw [decide_eq_false e]; decide) (ih (c + (d + 1)) _ rfl (by omega) (by omega) fun i0 p0 h0 e0 => ?_)
          obtain ⟨d0, b1, b2, b3⟩ := ahead i0 p0 h0 e0
          refine ⟨d0, ?_, b2, b3⟩
          rcases Nat.lt_trichotomy d0 (c + d) with z | z | z
          · refine absurd ((hAt i0 p0 h0).trans (congrArg (NestedKey.hash w) e0)) (dn (d0 - c) i0 (by omega) ?_)
            rw [stp_add, stp_j, show c + (d0 - c) = d0 by omega]
            exact b3
          · rw [z] at b3
            have := slot_live Z.tab.ris b3
            rw [sl] at this
            injection this with this
            rw [← this, ep] at h0
            cases h0
            exact absurd e0 e
          · omega
      by_cases ld : t.led = true
      · exact wp_if_neg (by rw [ld]; decide) go
      · refine wp_if_pos (by rw [Bool.eq_false_iff.mpr ld]; rfl) (wpAny_bind (seenN kx (fun y hy => ?_) ?_))
        · obtain ⟨e, he, rfl⟩ := List.mem_map.mp hy
          have he : e ∈ es := by
            have := Array.mem_toList_iff.mp he
            exact (Array.mem_filter.mp this).1
          have he := Array.mem_toList_iff.mpr he
          rw [Z.rows] at he
          obtain ⟨p2, hp2, rfl⟩ := List.mem_map.mp he
          exact ⟨p2.2, p2.1, rfl, Z.key p2 hp2⟩
        · rw [if_neg Bool.false_ne_true]
          exact go
    · have pr : t.probe (fun i => (es[i]?.map (·.1)).getD 0) (k.hash w) (st.getD (t.probeStart (k.hash w))) = some (.empty (way t.mask (k.hash w) K) none) := by
        rw [est, show way t.mask (k.hash w) K = (nth t.mask (stp t (k.hash w) c) (K - c)).j by rw [stp_add, show c + (K - c) = K by omega, stp_j]]
        exact dp
      rw [pr]
      refine wpAny_pure (no fun km => ?_)
      obtain ⟨p0, pm, e0⟩ := List.mem_map.mp km
      obtain ⟨i0, h0⟩ := List.mem_iff_getElem?.mp pm
      obtain ⟨d0, b1, b2, b3⟩ := ahead i0 p0 h0 e0
      refine dn (d0 - c) i0 (by omega) ?_ ((hAt i0 p0 h0).trans (congrArg (NestedKey.hash w) e0))
      rw [stp_add, stp_j, show c + (d0 - c) = d0 by omega]
      exact b3
end
end My

set_option Elab.async false
set_option linter.all false
set_option maxRecDepth 100000
set_option maxHeartbeats 4000000
namespace My
open PySem PySem.Spec PyProof.Rows L2 PySem.SeqAt
section
variable {P : Program} {w : World} {A : Around} {E : Value → Shared → Prop} {s : Shared} {a : Addr} {M : List Ent} {es : Array (Int × Value)} {ep : Nat} {t : SetTable}
theorem lookN (Z : SetN w s.heap a M es ep t) {x : Addr} {k : NestedKey} (kx : KeyAt s.heap k x) (un : A.units + 8 < cLine) {Q : SetFound → Shared → Prop} (yes : k ∈ M.map (·.2) → Q (.there none) s)
    (no : ∀ K, k ∉ M.map (·.2) → way t.mask (k.hash w) K ∉ t.place.toList → (∀ c, c < K → way t.mask (k.hash w) c ∈ t.place.toList) → Q (.free (way t.mask (k.hash w) K) false) s) : wpAny (model P w) A (setSearch a (.ref x) (k.hash w) true) Q E s := by
  have l3 := Z.room
  obtain ⟨K, Kf, Ke, Kb⟩ := Z.tab.first (by rw [List.length_map]; omega) (k.hash w)
  have small : K < 100000 := by
    have : 10 * SetTable.turns t.mask ≤ 1420 := by
      rcases Z.tab.mok with e | e | e <;> rw [e] <;> decide
    omega
  refine findN Z kx un Kf Ke Kb yes (fun n => no K n Ke Kb) 100000 0 none rfl (Nat.zero_le _) (by omega) fun i p e1 e2 => ?_
  have a2 := Z.tab.sz
  rw [List.length_map] at a2
  have il : i < t.place.toList.length := by
    have := (List.getElem?_eq_some_iff.mp e1).1
    rw [Array.length_toList]
    omega
  have ej := List.getElem?_eq_getElem il
  obtain ⟨c, lc, e⟩ := Z.tab.before Ke (i := i) (by rw [List.getElem?_map, e1]; show some (hsh w p) = _; rw [hsh, e2]) ej
  exact ⟨c, Nat.zero_le _, lc, by rw [ej, e]⟩
theorem picks (Me : ∀ (i : Nat) (p : Ent), M[i]? = some p → es[i]? = some (kept w p)) : ∀ l : List Nat, (∀ i ∈ l, i < M.length) →
    l.filterMap (fun i => es[i]?) = (l.filterMap fun i => M[i]?).map (kept w) ∧ (l.filterMap fun i => M[i]?).map (hsh w) = l.map fun i => (es.map (·.1)).getD i 0
  | [], _ => ⟨rfl, rfl⟩
  | i :: l, h => by
    obtain ⟨h1, h2⟩ := picks Me l fun j hj => h j (.tail _ hj)
    obtain ⟨p, ep⟩ : ∃ p, M[i]? = some p := ⟨_, List.getElem?_eq_getElem (h i (.head _))⟩
    have ee := Me i p ep
    rw [List.filterMap_cons_some ee, List.filterMap_cons_some ep, List.map_cons, List.map_cons, List.map_cons, h1, h2]
    refine ⟨rfl, ?_⟩
    congr 1
    rw [Array.getD_eq_getD_getElem?, Array.getElem?_map, ee]
    rfl
theorem range_picks {α : Type} (M : List α) : ∀ n, n ≤ M.length → (List.range n).filterMap (fun i => M[i]?) = M.take n
  | 0, _ => rfl
  | n + 1, h => by
    have e := List.getElem?_eq_getElem (show n < M.length from h)
    rw [List.range_succ, List.filterMap_append, range_picks M n (by omega), List.filterMap_cons_some e, List.filterMap_nil, List.take_add_one, e]
    rfl
/-- all but the set stays -/
theorem KeyAt.but {h h' : Heap} {k : NestedKey} {b : Addr} {o : Obj} (x : KeyAt h k b) (g1 : h.get? a = some o) (g3 : o.data = .set es ep t) (sb : Heap.SameBut a h h') : KeyAt h' k b := x.stay fun c u vs n e d => (sb.2 c fun z => by
  rw [z, g1] at e
  cases e
  rw [g3] at d
  cases d).trans e
/-- the table laid anew -/
theorem relayN {o : Obj} (g1 : s.heap.get? a = some o) (g2 : o.ExactSet) (g3 : o.data = .set es ep t) (rows : es.toList = M.map (kept w)) (ft : t.fits es.size = true) (nd : (M.map (·.2)).Nodup) (key : ∀ p ∈ M, KeyAt s.heap p.2 p.1)
    (led : w.params.followText "set-order" = true ∨ t.led = true) {n N : Nat} (e1 : SetTable.sizeAbove n - 1 = N) (e2 : MaskOk N) (e3 : SetTable.sizeAbove n ≤ 128) (room : M.length * 5 < N * 3) {Q : Unit → Shared → Prop}
    (q : ∀ h' M' es' ep' t', Heap.SameBut a s.heap h' → SetN w h' a M' es' ep' t' → M'.Perm M → Q () { s with heap := h' }) : wpAny (model P w) A (setRelay a n) Q E s := by
  have sz : es.size = M.length := by rw [← Array.length_toList, rows, List.length_map]
  have Me : ∀ (i : Nat) (p : Ent), M[i]? = some p → es[i]? = some (kept w p) := fun i p e => by
    rw [← Array.getElem?_toList, rows, List.getElem?_map, e]
    rfl
  obtain ⟨t', ord, er, pm, tb, em, el, _, _⟩ := relaid_ok t (hs := es.map (·.1)) (wanted := n) e1 e2 (by rw [Array.size_map]; omega)
  rw [Array.size_map, sz] at pm
  obtain ⟨p1, p2⟩ := picks Me ord.toList fun i hi => List.mem_range.mp (pm.mem_iff.mp hi)
  have pM : (ord.toList.filterMap fun i => M[i]?).Perm M := by
    have := pm.filterMap fun i => M[i]?
    rw [range_picks M _ (Nat.le_refl _), List.take_length] at this
    exact this
  rw [← p2] at tb
  have re : (ord.filterMap (es[·]?)).toList = (ord.toList.filterMap fun i => M[i]?).map (kept w) := by
    rw [Array.toList_filterMap]
    exact p1
  generalize ord.toList.filterMap (fun i => M[i]?) = M' at tb pM re
  have s2 : (ord.filterMap (es[·]?)).size = es.size := by rw [← Array.length_toList, re, List.length_map, pM.length_eq, sz]
  rw [setRelay_eq]
  refine wpAny_bind (wpAny_setState_of g1 g3 ft ?_)
  dsimp only
  refine wp_if_neg (by rw [sizeLine_eq]; omega) ?_
  rw [er]
  refine wpAny_bind (wp_if_neg (by rw [s2]; simp) (wpAny_pure ?_))
  refine wpAny_storeSet_of g1 g3 ?_ (by rw [s2, sz, sizeLine_eq]; rcases e2 with z | z | z <;> omega)
  have sb : Heap.SameBut a s.heap (s.heap.update a (Obj.putSet (ord.filterMap (es[·]?)) t')) := Heap.SameBut.update ..
  refine q _ M' _ (ep + 1) t' sb ⟨⟨_, store_at g1 g3, ⟨g2.1, g2.2.1, g2.2.2⟩, rfl⟩, re, tb, (pM.map (·.2)).nodup_iff.mpr nd, fun p hp => (key p (pM.mem_iff.mp hp)).but g1 g3 sb, by rw [el]; exact led, ?_⟩ pM
  rw [pM.length_eq, em]
  exact room
theorem tab_plain {hs : List Int} (T : TabOk t hs) (b : Bool) : TabOk (if b = true then t else { t with plain := false }) hs := by
  cases b
  · exact ⟨T.ris, T.dm, T.sz, T.mok, T.bd, T.reach⟩
  · exact T
theorem pl_mask (b : Bool) : (if b = true then t else { t with plain := false }).mask = t.mask := by cases b <;> rfl
theorem pl_led (b : Bool) : (if b = true then t else { t with plain := false }).led = t.led := by cases b <;> rfl
theorem pl_fill (b : Bool) : (if b = true then t else { t with plain := false }).fill = t.fill := by cases b <;> rfl
theorem put_in (M : List Ent) (p : Nat) (e : Ent) : (M.take p ++ e :: M.drop p).Perm (e :: M) := by
  have h : (M.take p ++ e :: M.drop p).Perm (e :: (M.take p ++ M.drop p)) := List.perm_middle
  rw [List.take_append_drop] at h
  exact h
/-- a tuple is added -/
theorem addN (Z : SetN w s.heap a M es ep t) {x : Addr} {k : NestedKey} (kx : KeyAt s.heap k x) (un : A.units + 8 < cLine) (few : M.length < 76) {Q : Bool → Shared → Prop}
    (q : ∀ b h' M' es' ep' t', Heap.SameBut a s.heap h' → SetN w h' a M' es' ep' t' → (k ∈ M.map (·.2) → M' = M) → (k ∉ M.map (·.2) → M'.Perm ((x, k) :: M)) → Q b { s with heap := h' }) :
    wpAny (model P w) A (setAddHashed a (.ref x) (k.hash w)) Q E s := by
  obtain ⟨o, g1, g2, g3⟩ := Z.ob
  have sz := Z.size
  have l3 := Z.room
  unfold setAddHashed
  refine wpAny_holding ?_
  rw [show (100000 : Nat) = 99999 + 1 from rfl, setAddHashedIn_succ]
  refine wpAny_bind (wpAny_setState_of g1 g3 Z.fits ?_)
  dsimp only
  refine wp_if_neg (by simp [byScan, Value.scannable]) (wpAny_bind (lookN Z kx un (fun km => ?_) fun K kn Ke Kb => ?_))
  · exact wpAny_pure (q false s.heap M es ep t (Heap.SameBut.refl a s.heap) Z (fun _ => rfl) fun z => absurd km z)
  · refine wpAny_bind (wpAny_setState_of g1 g3 Z.fits ?_)
    dsimp only
    obtain ⟨q1, q2, q3, q4, q5, q6, q7, q8, q9⟩ := Z.tab.put Ke Kb
    generalize t.put (way t.mask (k.hash w) K) = pt at q1 q3 q4 q5 q6 q7 q8 q9 ⊢
    obtain ⟨t1, pl⟩ := pt
    dsimp only at q1 q3 q4 q5 q6 q7 q8 q9 ⊢
    subst q1
    have fin : ∀ b : Bool, wpAny (model P w) A (do
        storeSet a (SetTable.insertAt es (SetTable.below t.place (way t.mask (k.hash w) K)) (k.hash w, Value.ref x)) (if b = true then t1 else { t1 with plain := false })
        if (!false && (if b = true then t1 else { t1 with plain := false }).tooFull) = true then do
          setRelay a (SetTable.grown (es.size + 1))
          pure true
        else pure true) Q E s := fun b => by
      have r1 := tab_plain q3 b
      have r2 := (pl_mask (t := t1) b).trans q4
      have r3 := (pl_led (t := t1) b).trans q5
      have r4 := (pl_fill (t := t1) b).trans q9
      generalize (if b = true then t1 else { t1 with plain := false }) = t2 at r1 r2 r3 r4 ⊢
      generalize SetTable.below t.place (way t.mask (k.hash w) K) = pp at q2 r1 ⊢
      have pm := put_in M pp (x, k)
      have ins : (SetTable.insertAt es pp (k.hash w, Value.ref x)).toList = (M.take pp ++ (x, k) :: M.drop pp).map (kept w) := by
        rw [SetTable.toList_insertAt, Z.rows, List.map_append, List.map_cons, List.map_take, List.map_drop]
        rfl
      have r1 : TabOk t2 ((M.take pp ++ (x, k) :: M.drop pp).map (hsh w)) := by
        rw [List.map_append, List.map_cons, List.map_take, List.map_drop]
        exact r1
      generalize M.take pp ++ (x, k) :: M.drop pp = M1 at pm ins r1
      have ln : M1.length = M.length + 1 := pm.length_eq
      have s1 : (SetTable.insertAt es pp (k.hash w, Value.ref x)).size = M.length + 1 := by rw [← Array.length_toList, ins, List.length_map, ln]
      generalize SetTable.insertAt es pp (k.hash w, Value.ref x) = es1 at ins s1 ⊢
      have nd : (M1.map (·.2)).Nodup := by
        refine (pm.map (·.2)).nodup_iff.mpr ?_
        rw [List.map_cons]
        exact List.nodup_cons.mpr ⟨kn, Z.nd⟩
      refine wpAny_bind (wpAny_storeSet_of g1 g3 ?_ (by rw [s1, sizeLine_eq]; omega))
      have sb : Heap.SameBut a s.heap (s.heap.update a (Obj.putSet es1 t2)) := Heap.SameBut.update ..
      have gg := store_at (es' := es1) (t' := t2) g1 g3
      generalize s.heap.update a (Obj.putSet es1 t2) = h1 at sb gg ⊢
      have key : ∀ p ∈ M1, KeyAt h1 p.2 p.1 := fun p hp => by
        rcases List.mem_cons.mp (pm.mem_iff.mp hp) with e | hp
        · rw [e]; exact kx.but g1 g3 sb
        · exact (Z.key p hp).but g1 g3 sb
      have led : w.params.followText "set-order" = true ∨ t2.led = true := by rw [r3]; exact Z.led
      rw [List.length_map] at r4
      have tz := r1.sz
      rw [List.length_map, ln] at tz
      by_cases fu : t2.tooFull = true
      · have fu2 : (M.length + 1) * 5 ≥ t.mask * 3 := by
          unfold SetTable.tooFull at fu
          rw [decide_eq_true_eq, r4, r2] at fu
          exact fu
        refine wp_if_pos (by rw [fu]; rfl) (wpAny_bind ?_)
        rw [sz]
        have ft : t2.fits es1.size = true := fits_of (by omega) r1.dm (by rw [s1, r2]; rcases Z.tab.mok with e | e | e <;> rw [e] at l3 fu2 ⊢ <;> omega)
        have go : ∀ N, SetTable.sizeAbove (SetTable.grown (M.length + 1)) - 1 = N → MaskOk N → SetTable.sizeAbove (SetTable.grown (M.length + 1)) ≤ 128 → (M.length + 1) * 5 < N * 3 →
            wpAny (model P w) A (setRelay a (SetTable.grown (M.length + 1))) (fun _ now => wpAny (model P w) A (pure true) Q E now) E { s with heap := h1 } := fun N n1 n2 n3 n4 =>
          relayN (s := { s with heap := h1 }) gg ⟨g2.1, g2.2.1, g2.2.2⟩ rfl ins ft nd key led n1 n2 n3 (by rw [ln]; exact n4) fun h2 M2 es2 ep2 t3 sb2 Z2 pm2 => wpAny_pure (q true h2 M2 es2 ep2 t3 (sb.trans sb2) Z2 (fun z => absurd z kn) fun _ => pm2.trans pm)
        rcases Z.tab.mok with e | e | e
        · have e2 : M.length = 4 := by rw [e] at l3 fu2; omega
          exact go 31 (by rw [e2, size_20]) (.inr (.inl rfl)) (by rw [e2, size_20]; decide) (by omega)
        · have e2 : M.length = 18 := by rw [e] at l3 fu2; omega
          exact go 127 (by rw [e2, size_76]) (.inr (.inr rfl)) (by rw [e2, size_76]; decide) (by omega)
        · rw [e] at fu2; omega
      · refine wp_if_neg (by rw [Bool.eq_false_iff.mpr fu]; decide) (wpAny_pure (q true h1 M1 es1 (ep + 1) t2 sb ⟨⟨_, gg, ⟨g2.1, g2.2.1, g2.2.2⟩, rfl⟩, ins, r1, nd, key, led, ?_⟩ (fun z => absurd z kn) fun _ => pm))
        unfold SetTable.tooFull at fu
        rw [decide_eq_true_eq, r4] at fu
        rw [ln]
        omega
    by_cases e : t1.plain = true
    · exact wp_if_pos e (wpAny_bind (hashTold k _ 8 s kx.1 kx.2 _ _ _ fun b => fin b))
    · exact wp_if_neg e (wpAny_bind (wpAny_pure (fin true)))
end
end My

set_option Elab.async false
set_option linter.all false
set_option maxRecDepth 100000
set_option maxHeartbeats 4000000
/-! set(xs) of a list, by any word T i h of what the set is behind i items. -/
namespace My
open PySem PySem.Spec PyProof.Rows L2 PySem.SeqAt
section
variable {P : Program} {w : World} {A : Around} {E : Value → Shared → Prop} {s : Shared}
/-- what adding the items asks -/
structure Adds (P : Program) (w : World) (A : Around) (S : Addr) (wr : List Addr) (n : Nat) (Pv : Nat → Value → Prop) (T : Nat → Heap → Prop) : Prop where
  stay : ∀ i h h', T i h → (∀ b o, b ∉ wr → h.get? b = some o → h'.get? b = some o) → T i h'
  add : ∀ (i : Nat) (v : Value) (s : Shared) (Q : Bool → Shared → Prop) (E : Value → Shared → Prop), i < n → Pv i v → T i s.heap → (∀ b h' tk, T (i + 1) h' → s.toks ≤ tk → Heap.SameBut S s.heap h' → Q b { s with heap := h', toks := tk }) → wpAny (model P w) A (setAdd S v) Q E s
theorem updateG {I : Addr} {fp wr : List Addr} {G : Array GenState → Array GenState → Prop} {n : Nat} {Pv : Nat → Value → Prop} {St : Nat → Shared → Prop} {R : Result → Shared → Prop} {S : Addr} {T : Nat → Heap → Prop}
    (W : WalksS P w A.in1 I fp wr G n Pv St) (nf : S ∉ fp) (D : Adds P w A.in1 S wr n Pv T) : ∀ (k i : Nat) (s : Shared), n - i = k → i ≤ n → St i s → T i s.heap → (∀ s', Moved (S :: wr) G s s' → T n s'.heap → R (.ok (.ret .none)) s') →
      codeAny (model P w) A (.builtin "set.update.loop" ⟨[.ref S, .ref I], []⟩) R s := by
  have up : ∀ b ∈ wr, b ∈ S :: wr := fun b hb => .tail _ hb
  intro k
  induction k with
  | zero =>
    intro i s e l st ti q
    obtain rfl : i = n := by omega
    refine codeAny_builtin PyProof.Rows.F.entry_set_update_loop ?_
    rw [Around.under_plainId PyProof.Rows.F.plain_set_update_loop _]
    refine (?_ : wpAny _ A.in1 (pyNext (.ref I) >>= _) _ _ s)
    exact wpAny_bind (W.done s _ _ st fun s' m => wpAny_pure (q s' (m.mono up) (D.stay _ _ _ ti fun b o nb e => m.heap b o nb e)))
  | succ k ih =>
    intro i s e l st ti q
    have lt : i < n := by omega
    refine codeAny_builtin PyProof.Rows.F.entry_set_update_loop ?_
    rw [Around.under_plainId PyProof.Rows.F.plain_set_update_loop _]
    refine (?_ : wpAny _ A.in1 (pyNext (.ref I) >>= _) _ _ s)
    refine wpAny_bind (W.item i s _ _ lt st fun v s1 pv st1 m => ?_)
    refine (?_ : wpAny _ A.in1 (holding [v] (setAdd S v) >>= _) _ _ s1)
    refine wpAny_bind (wpAny_holding (D.add i v s1 _ _ lt pv (D.stay _ _ _ ti fun b o nb e => m.heap b o nb e) fun b h2 tk t2 ltk sb => ?_))
    refine wpAny_pure ⟨plainId_quiet PyProof.Rows.F.plain_set_update_loop _, ih (i + 1) _ (by omega) lt (W.frame _ s1 _ _ st1 ltk fun c hc o e => ?_) t2 fun s3 m3 t3 => ?_⟩
    · rw [sb.2 c (fun z => nf (by rw [← z]; exact hc))]; exact e
    · refine q s3 (Moved.trans W.gtrans ((m.mono up).then_heap ltk fun c o hc e => ?_) m3) t3
      rw [sb.2 c (fun z => hc (by rw [z]; exact .head _))]; exact e
/-- a set made new -/
def freshSet (w : World) : Obj := { cls := .type "set", dict := none, data := .set #[] 0 (.fresh 0 0 (!w.params.followText "set-order")) }
theorem callG {l : Addr} {items : Array Value} {Q : Value → Shared → Prop} {T : Nat → Heap → Prop} (hh : A.handled = none) (hl : s.heap.IsList l items)
    (D : Adds P w A.in1.in1.in1 s.heap.objs.size [s.heap.objs.size + 1] items.size (fun i v => items[i]? = some v) T)
    (t0 : ∀ h : Heap, h.get? s.heap.objs.size = some (freshSet w) → (∀ b o, s.heap.get? b = some o → h.get? b = some o) → T 0 h)
    (q : ∀ (h' : Heap) (tk : Nat), T items.size h' → (∀ b o, s.heap.get? b = some o → h'.get? b = some o) → Q (.ref s.heap.objs.size) { s with heap := h', toks := tk }) :
    wpAny (model P w) A (call (.type "set") [.ref l]) Q E s := by
  obtain ⟨c, tl, f1⟩ := PySem.F.called_set.mro
  have f2 := PySem.F.called_set.made
  have f3 := PySem.F.called_set.sub
  refine wpAny_call (codeAny_of_tree (?_ : wpAny _ _ (callAny (.type "set") _) _ _ _))
  refine wpAny_pure ⟨Code.quiet_builtin _ (by decide +kernel), codeAny_builtin PySem.F.entry_type_call ?_⟩
  rw [Around.under_plain (weight_type_call_type "set" [.ref l] []) rfl]
  have f4 := PySem.F.called_set.notType
  have f5 := PySem.F.called_set.canCreate
  have f6 := F.typeCall_set_1 (.ref l)
  repeat (any_goals (first | assumption | wp_step))
  refine codeAny_mono (code_set_led1 (.ref l) (E := E) (Q₁ := fun v now => v = .ref s.heap.objs.size ∧ now = { s with heap := s.heap.push (freshSet w) }) ⟨rfl, rfl⟩) fun r now hr => ?_
  match r, hr with
  | .error e, hr => exact hr
  | .ok (.ret v), hr =>
    obtain ⟨rfl, rfl⟩ := hr
    have hS : (s.heap.push (freshSet w)).get? s.heap.objs.size = some (freshSet w) := Heap.get?_push_size _ rfl
    have hT : Shared.TypeIs { s with heap := s.heap.push (freshSet w) } (.ref s.heap.objs.size) "set" := ⟨_, hS, rfl⟩
    have f7 := F.called_set.init.lookup
    have f8 := F.called_set.init.bind (.ref s.heap.objs.size)
    repeat (any_goals (first | assumption | wp_step))
    refine codeAny_mono (codeAny_call_builtin (R := wants (fun r s₂ => r = .none ∧ ∃ h' tk, s₂ = { s with heap := h', toks := tk } ∧ T items.size h' ∧ ∀ b o, s.heap.get? b = some o → h'.get? b = some o) E) F.called_set.init.plain F.entry_set_init (check_set_init_1 hT ?_)) fun r₂ s₂ hr₂ => ?_
    · obtain ⟨⟨ocls, odict, odata, oslots⟩, o1, o2, nl, o3⟩ := hl
      simp only at o2 o3
      subst o2 o3
      have o4 : (s.heap.push (freshSet w)).get? l = some { cls := .type "list", dict := odict, data := .seq items nl, slots := oslots } := Heap.get?_push_of_some _ o1
      have f9 := F.sub_list_set
      have f10 := F.sub_list_frozenset
      have f11 : (Value.type "list" == Value.type "dict") = false := by decide
      have hl1 : (s.heap.push (freshSet w)).IsList l items := ⟨_, o4, rfl, nl, rfl⟩
      have lS : l < s.heap.objs.size := Heap.lt_size o1
      have z1 : (s.heap.push (freshSet w)).objs.size = s.heap.objs.size + 1 := Heap.size_push ..
      unfold Builtin.«set.__init__» noKeywords Builtin.Frozenset.updateFrom
      generalize hPI : pyIter = PI
      wp_walk
      subst hPI
      refine wpAny_pyIter_list hl1 (wpAny_bind (wpAny_runValue ?_))
      have ne1 : l ≠ (s.heap.push (freshSet w)).objs.size := by rw [z1]; exact Nat.ne_of_lt (Nat.lt_succ_of_lt lS)
      have D2 := D
      rw [← z1] at D2
      refine updateG ((Walks.list (by simp [hh]) _ l ne1 items).toS) (S := s.heap.objs.size) (by rw [z1]; simp only [List.mem_cons, List.not_mem_nil, or_false, not_or]; exact ⟨Nat.ne_of_lt (Nat.lt_succ_self _), (Nat.ne_of_lt lS).symm⟩) D2 (items.size - 0) 0 _ rfl (Nat.zero_le _) ⟨⟨_, Heap.get?_push_size _ rfl, rfl, rfl⟩, hl1.push _⟩ (t0 _ (Heap.get?_push_of_some _ hS) fun b o e => Heap.get?_push_of_some _ (Heap.get?_push_of_some _ e)) fun s' m t1 => ?_
      obtain ⟨h', g', d', tk', os'⟩ := s'
      have eg : g' = s.gens := m.gens
      have ed : d' = s.drawn := m.drawn
      have eo : os' = s.os := m.os
      subst eg ed eo
      refine wpAny_pure (wpAny_pure ⟨rfl, h', tk', rfl, t1, fun b o e => ?_⟩)
      have lt := Heap.lt_size e
      refine m.heap b o ?_ (Heap.get?_push_of_some _ (Heap.get?_push_of_some _ e))
      rw [z1]
      simp only [List.mem_cons, List.not_mem_nil, or_false, not_or]
      exact ⟨Nat.ne_of_lt lt, Nat.ne_of_lt (Nat.lt_succ_of_lt lt)⟩
    · match r₂, hr₂ with
      | .error e, hr₂ => exact hr₂
      | .ok (.ret r), hr₂ =>
        obtain ⟨rfl, h', tk, rfl, t1, kp⟩ := hr₂
        repeat (any_goals (first | assumption | wp_step))
        exact q _ _ t1 kp
end
end My

set_option Elab.async false
set_option linter.all false
set_option maxRecDepth 100000
set_option maxHeartbeats 4000000
/-! sorted(xs) of tuples whose first places are texts. -/
namespace My
open PySem PySem.Spec PyProof.Rows L2 PySem.SeqAt PySem.W
section
variable {prog : Program} {w : World} {A : Around} {E : Value → Shared → Prop} {s : Shared}
theorem one_ltT {f : Bool} {x y : NestedKey} {a b : Value} {c : Bool} {n : Nat} {Q : Bool → Shared → Prop} (tx : f = true → ∃ z, x = .text z) (p : Ns s.heap x a) (q : Ns s.heap y b) (e : ltK x y = some c) (hd : x.depth ≤ n) (hu : A.units + n < cLine) (hq : Q c s) :
    wpAny (model prog w) A (oneLt' f a b) Q E s := by
  cases f with
  | false => exact one_ltN (fun z => by cases z) p q e hd hu hq
  | true =>
    obtain ⟨z, rfl⟩ := tx rfl
    cases p
    cases q with
    | text z' u =>
      rw [ltK] at e
      cases e
      exact oneLt_str hq
    | _ => simp [ltK] at e
theorem katLexT {fin : Bool} {n : Nat} {Q : Bool → Shared → Prop} {x y : NestedKey} {xs ys : List NestedKey} {a b : Value} {us vs : List Value} {c : Bool} (p : Ns s.heap x a) (ps : NsAll s.heap xs us) (q : Ns s.heap y b) (qs : NsAll s.heap ys vs) (tx : ∃ z, x = .text z)
    (e : ltAll (x :: xs) (y :: ys) = some c) (hd : ∀ z ∈ x :: xs, z.depth ≤ n) (hu : A.units + n < cLine) (hf : fin = decide ((a :: us).length < (b :: vs).length)) (hq : Q c s) : KatLex prog w A true fin Q ((a :: us).zip (b :: vs)) 0 s := by
  rw [List.zip_cons_cons]
  have dx := hd x (.head _)
  refine kat_cons (eqAt_key x y A s _ _ p.is q.is (by omega) prog w _ _ ?_)
  rw [← NestedKey.decide_eq]
  rw [ltAll] at e
  by_cases h : x = y
  · rw [if_pos h] at e
    rw [decide_eq_true h]
    exact kat_yes (katLexN xs ys 1 _ _ c ps qs e (fun z hz => hd z (.tail _ hz)) hu (fun _ hi => absurd hi (by decide)) (by rw [hf]; simp) hq)
  · rw [if_neg h] at e
    rw [decide_eq_false h]
    exact kat_no (one_ltT (n := n) (fun _ => tx) p q e dx hu hq)
theorem each_text {h : Heap} : ∀ {vs : List Value} {ks : List NestedKey}, EachIs (fun v k => Ns h k v) vs ks → (∀ k ∈ ks, ∃ z r, k = .tup (.text z :: r)) → ∃ fs, KatTups h vs fs ∧ fs.length = vs.length ∧ ∀ f ∈ fs, ∃ z t, f = Value.str z t
  | _, _, .nil, _ => ⟨[], KatTups.nil, rfl, fun f hf => by cases hf⟩
  | _, _, .cons (b := k) p t, hk => by
    obtain ⟨fs, h1, h2, h3⟩ := each_text t fun k hk2 => hk k (.tail _ hk2)
    obtain ⟨z, r, rfl⟩ := hk k (.head _)
    cases p with
    | @tup a o vs n _ ho hc hd hr =>
      cases q : vs.toList with
      | nil => rw [q] at hr; cases hr
      | cons f fr =>
        rw [q] at hr
        cases hr with
        | cons p1 p2 =>
          obtain ⟨u, rfl⟩ : ∃ u, f = Value.str z u := by cases p1; exact ⟨_, rfl⟩
          refine ⟨_ :: fs, KatTups.cons ho hc hd (by rw [← Array.getElem?_toList, q]; rfl) h1, by rw [List.length_cons, List.length_cons, h2], fun g hg => ?_⟩
          rcases List.mem_cons.mp hg with rfl | hg
          · exact ⟨_, _, rfl⟩
          · exact h3 g hg
theorem sortsT {vs : List Value} {ks : List NestedKey} {n : Nat} (e : EachIs (fun v k => Ns s.heap k v) vs ks) (hh : ∀ k ∈ ks, ∃ z r, k = .tup (.text z :: r)) (hc : ∀ k ∈ ks, ∀ k' ∈ ks, ∃ c, ltK k k' = some c) (hd : ∀ k ∈ ks, k.depth ≤ n) (hu : A.units + n < cLine) :
    SortsAt prog w A s (nkKind s.heap ks) vs := by
  refine ⟨fun v hv => ?_, tuples' ((Value.type "str") != Value.type "tuple"), ?_, fun h2 E Q hq => ?_⟩
  · obtain ⟨k, hk, p⟩ := e.left v hv
    exact ⟨_, nk_some hk p⟩
  · intro E x y a b Q ha hb hq
    obtain ⟨k, hk, p, rfl⟩ := nk_inv ha
    obtain ⟨k', hk', p', rfl⟩ := nk_inv hb
    obtain ⟨c, ec⟩ := hc k hk k' hk'
    have dk := hd k hk
    obtain ⟨z, r, rfl⟩ := hh k hk
    obtain ⟨z', r', rfl⟩ := hh k' hk'
    rw [depth_tup] at dk
    rw [ltK] at ec
    have hq : Q (lexT (toks (.tup (.text z :: r))) (toks (.tup (.text z' :: r')))) s := hq
    rw [lex_tup ec] at hq
    cases p with
    | @tup _ _ vs1 _ _ h1 h2 h3 h4 =>
      cases p' with
      | @tup _ _ vs2 _ _ k1 k2 k3 k4 =>
        refine kat_lt h1 h3 k1 k3 ?_
        cases e1 : vs1.toList with
        | nil => rw [e1] at h4; cases h4
        | cons a1 us =>
          cases e2 : vs2.toList with
          | nil => rw [e2] at k4; cases k4
          | cons b1 ws =>
            rw [e1] at h4
            rw [e2] at k4
            cases h4 with
            | cons p1 p2 =>
              cases k4 with
              | cons q1 q2 =>
                refine katLexT (n := n) p1 p2 q1 q2 ⟨z, rfl⟩ ec (fun x hx => ?_) hu ?_ hq
                · have := depth_mem hx
                  omega
                · rw [← e1, ← e2]
                  simp
  · obtain ⟨fs, t1, t2, t3⟩ := each_text e hh
    refine kat_kind (T := Value.type "str") t1 (by omega) (fun f hf => ?_) (beq_self_eq_true _) hq
    obtain ⟨z, t, rfl⟩ := t3 f hf
    exact looks_reads (Reads.str z t)
end
end My

set_option Elab.async false
set_option linter.all false
set_option maxRecDepth 100000
set_option maxHeartbeats 4000000
/-! sorted(xs) of nested tuples. -/
namespace My
open PySem PySem.Spec PyProof.Rows L2 PySem.SeqAt PySem.W
mutual
theorem Ns.stay {h h' : Heap} (g : ∀ b o, h.get? b = some o → o.cls = .type "tuple" → h'.get? b = some o) : ∀ {k : NestedKey} {v : Value}, Ns h k v → Ns h' k v
  | .none, _, .none => .none
  | .num _, _, .int i t => .int i t
  | .text _, _, .text x t => .text x t
  | .tup _, _, .tup e c d r => .tup (g _ _ e c) c d (NsAll.stay g r)
theorem NsAll.stay {h h' : Heap} (g : ∀ b o, h.get? b = some o → o.cls = .type "tuple" → h'.get? b = some o) : ∀ {ks : List NestedKey} {vs : List Value}, NsAll h ks vs → NsAll h' ks vs
  | [], _, .nil => .nil
  | _ :: _, _, .cons a r => .cons (Ns.stay g a) (NsAll.stay g r)
end
/-- what sorting asks of the keys -/
structure Sbl (ks : List NestedKey) : Prop where
  heads : (∀ k ∈ ks, ∃ z r, k = .tup (.text z :: r)) ∨ ∀ k ∈ ks, ∃ i r, k = .tup (.num i :: r)
  cmp : ∀ k ∈ ks, ∀ k' ∈ ks, ∃ c, ltK k k' = some c
  deep : ∀ k ∈ ks, k.depth ≤ 50
theorem each_of {X : Cx} {pins : List (Addr × Obj)} {σ : L2.St} {H : Hp} {s : Shared} (I : Inv X pins σ H s) : ∀ {xs : List V} {ks : List NestedKey} {vs : List Value}, NkAll H xs ks → Vals xs vs → EachIs (fun v k => Ns s.heap k v) vs ks
  | _, _, _, .nil, .nil => .nil
  | _, _, _, .cons a h, .cons r1 r2 => .cons (a.ns I r1) (each_of I h r2)
/-- the items with their keys, sorted -/
def srt (xs : List V) (ks : List NestedKey) : List (V × NestedKey) := (xs.zip ks).mergeSort (leF id)
section
variable {X : Cx} {pins : List (Addr × Obj)} {σ : L2.St} {H : Hp} {s : Shared} {E : Value → Shared → Prop}
theorem sort_tail {xs : List V} {vs : List Value} {ks : List NestedKey} {Q : Value → Shared → Prop} (I : Inv X pins σ H s) (un : X.A.units + 60 < cLine) (rv : Vals xs vs) (nk : NkAll H xs ks) (sb : Sbl ks) (hz : vs.length ≤ sizeLine) (p : Addr) (ep : p = s.heap.objs.size)
    (q : ∀ s', Inv X pins σ (upd H p (.lst ((srt xs ks).map Prod.fst))) s' → Q (.ref p) s') :
    wpAny (model X.prog X.w) X.A.in1 (call (.builtin "list.sort") [.ref p]) (fun _ s' => Q (.ref p) s') E { s with heap := s.heap.push (seqObj "list" vs.toArray 0) } := by
  subst ep
  have ho : (s.heap.push (seqObj "list" vs.toArray 0)).get? s.heap.objs.size = some (seqObj "list" vs.toArray 0) := Heap.get?_push_size _ rfl
  have up : ∀ b o, s.heap.get? b = some o → (s.heap.push (seqObj "list" vs.toArray 0)).get? b = some o := fun b o e => Heap.get?_push_of_some _ e
  have e0 := each_of I nk rv
  have e1 : EachIs (fun v k => Ns (sortingHeap (s.heap.push (seqObj "list" vs.toArray 0)) s.heap.objs.size vs) k v) vs ks := e0.mono fun v k n => n.stay fun b o e _ => sortingHeap_old (Nat.ne_of_lt (Heap.lt_size e)) (up b o e)
  have S : SortsAt X.prog X.w X.A.in1.in1 { s with heap := sortingHeap (s.heap.push (seqObj "list" vs.toArray 0)) s.heap.objs.size vs } (nkKind (sortingHeap (s.heap.push (seqObj "list" vs.toArray 0)) s.heap.objs.size vs) ks) vs := by
    rcases sb.heads with h | h
    · exact sortsT (n := 50) (s := { s with heap := sortingHeap (s.heap.push (seqObj "list" vs.toArray 0)) s.heap.objs.size vs }) e1 h sb.cmp sb.deep (by show X.A.units + 1 + 1 + 50 < cLine; omega)
    · exact sortsN (n := 50) (s := { s with heap := sortingHeap (s.heap.push (seqObj "list" vs.toArray 0)) s.heap.objs.size vs }) e1 h sb.cmp sb.deep (by show X.A.units + 1 + 1 + 50 < cLine; omega)
  refine wpAny_call_entry slot_list_sort ⟨_, ho, rfl⟩ entry_list_sort (list_sort_vals (s := { s with heap := s.heap.push (seqObj "list" vs.toArray 0) }) ho S hz ⟨_, rfl, ?_⟩) (args_list_sort _)
  have lk : xs.length = ks.length := nk.length
  have out := sortVals_each (κ := nkKind (sortingHeap (s.heap.push (seqObj "list" vs.toArray 0)) s.heap.objs.size vs) ks) (rev := false) (R := fun (v : Value) (b : V × NestedKey) => RelV b.1 v) (ks := vs) (vs := vs) (bs := xs.zip ks) (fun b => toks b.2) (zip_each rv lk) (each_snd ((each_mem e1).mono fun v k q => nk_some q.2 q.1) lk)
  have rel : Vals ((srt xs ks).map Prod.fst) (sortVals (nkKind (sortingHeap (s.heap.push (seqObj "list" vs.toArray 0)) s.heap.objs.size vs) ks) false vs vs) := each_vals out
  generalize sortVals (nkKind (sortingHeap (s.heap.push (seqObj "list" vs.toArray 0)) s.heap.objs.size vs) ks) false vs vs = os at rel ⊢
  have lo : ((srt xs ks).map Prod.fst).length ≤ sizeLine := by
    have := rv.length
    rw [List.length_map, srt, List.length_mergeSort, List.length_zip]
    omega
  obtain ⟨c, gc⟩ := sortedHeap_at (vs := vs) (out := os.toArray) ho
  refine q _ (I.laid (t' := s.toks) (fun b o e => ?_) (Nat.le_refl _) ⟨lo, os, c, rel, gc⟩)
  have lt := Heap.lt_size e
  rw [sortedHeap_old (Nat.ne_of_lt lt) (by rw [size_push']; exact Nat.lt_succ_of_lt lt)]
  exact up b o e
/-- sorted(xs), a list -/
def rSortL (K : PySem.W.Frag) : List V → Hp → VK → Prop := fun vs H Q => ∃ (l : Addr) (xs : List V) (ks : List NestedKey), vs = [.ref l] ∧ SqL K H l xs ∧ NkAll H xs ks ∧ Sbl ks ∧ xs.length ≤ 1000 ∧ ∀ p, H p = none → Q (.ref p) (upd H p (.lst ((srt xs ks).map Prod.fst)))
theorem cr_sortL (un : X.A.units + 64 < cLine) : CallR X (.builtin "sorted") (rSortL X.K) := by
  intro pins s σ H vs us Q I r h
  obtain ⟨l, xs, ks, rfl, hl, nk, sb, lx, q⟩ := h
  rw [Vals.ref1 r]
  obtain ⟨its, rv, pl, hz⟩ := I.list hl
  have lv : its.length ≤ sizeLine := by rw [← rv.length, sizeLine_eq]; omega
  refine Calls.call_function_entry kind_sorted plain_sorted entry_sorted (args_sorted1 _) ?_
  unfold Builtin.«sorted»
  refine wpAny_bind (m := checkCount "sorted" 1 1 _) (wpAny_pure (wpAny_bind (collect_list pl.isList ?_ lv)))
  have k1 : ∀ b o, s.heap.get? b = some o → ((s.heap.push (seqObj "list" #[] 0)).update s.heap.objs.size (Obj.mapSeq (· ++ its.toArray))).get? b = some o := fun b o e => by
    have lt := Heap.lt_size e
    rw [Heap.get?_update_ne _ _ _ _ (Nat.ne_of_lt lt)]
    exact Heap.get?_push_of_some _ e
  have I1 : Inv X pins σ H { s with heap := (s.heap.push (seqObj "list" #[] 0)).update s.heap.objs.size (Obj.mapSeq (· ++ its.toArray)), toks := s.toks } := I.kept k1
  have fresh := I1.hok.fresh (Nat.le_refl _)
  refine wpAny_bind (wpAny_newList ?_ lv)
  refine wpAny_bind (wpAny_holding (sort_tail (Q := fun v s' => wpAny (model X.prog X.w) X.A.in1 (ret v) _ _ s') I1 (by omega) rv nk sb lv _ rfl fun s' J => wpAny_pure ⟨_, rfl, .ref _, _, J, rfl, q _ fresh⟩))
end
end My

set_option Elab.async false
set_option linter.all false
set_option maxRecDepth 100000
set_option maxHeartbeats 4000000
/-! set(xs), sorted(set) of nested tuples. -/
namespace My
open PySem PySem.Spec PyProof.Rows L2 PySem.SeqAt PySem.W
/-- the set at a, but for the tuples themselves -/
def SetW (w : World) (h : Heap) (a : Addr) (M : List Ent) : Prop := ∃ (es : Array (Int × Value)) (ep : Nat) (t : SetTable), (∃ o, h.get? a = some o ∧ o.ExactSet ∧ o.data = .set es ep t) ∧ es.toList = M.map (kept w) ∧ TabOk t (M.map (hsh w)) ∧ (M.map (·.2)).Nodup ∧
  (w.params.followText "set-order" = true ∨ t.led = true) ∧ M.length * 5 < t.mask * 3
theorem SetN.w {w : World} {h : Heap} {a : Addr} {M : List Ent} {es : Array (Int × Value)} {ep : Nat} {t : SetTable} (Z : SetN w h a M es ep t) : SetW w h a M := ⟨es, ep, t, Z.ob, Z.rows, Z.tab, Z.nd, Z.led, Z.room⟩
theorem SetW.full {w : World} {h : Heap} {a : Addr} {M : List Ent} (Z : SetW w h a M) (k : ∀ p ∈ M, KeyAt h p.2 p.1) : ∃ es ep t, SetN w h a M es ep t := let ⟨es, ep, t, a, b, c, d, e, f⟩ := Z; ⟨es, ep, t, a, b, c, d, k, e, f⟩
theorem SetW.nd {w : World} {h : Heap} {a : Addr} {M : List Ent} (Z : SetW w h a M) : (M.map (·.2)).Nodup := let ⟨_, _, _, _, _, _, d, _⟩ := Z; d
def SetO (w : World) (a : Addr) (M : List Ent) : HO := .ext fun h => SetW w h a M
theorem setO_new {P : Program} {w : World} {H : Hp} {h : Heap} {a : Addr} {M : List Ent} (Z : SetW w h a M) : ObjOk P w H h a (SetO w a M) := by
  have ⟨es, ep, t, ⟨o, g, r⟩, q⟩ := Z
  refine ⟨Z, ⟨o, g⟩, fun h1 h2 p k => ?_⟩
  have ⟨es', ep', t', ⟨o', g', r'⟩, q'⟩ := (p : SetW w h1 a M)
  exact ⟨es', ep', t', ⟨o', k o' g', r'⟩, q'⟩
/-- what the set has got of the first i items -/
structure Gets (ks : List Ent) (i : Nat) (M : List Ent) : Prop where
  sub : ∀ p ∈ M, p ∈ ks.take i
  all : ∀ p ∈ ks.take i, p.2 ∈ M.map (·.2)
  len : M.length ≤ i
theorem Gets.none (ks : List Ent) : Gets ks 0 [] := ⟨(fun p h => by cases h), (fun p h => by rw [List.take_zero] at h; cases h), Nat.le_refl _⟩
theorem Gets.next {ks M M' : List Ent} {i : Nat} {x : Ent} (g : Gets ks i M) (e : ks[i]? = some x) (c1 : x.2 ∈ M.map (·.2) → M' = M) (c2 : x.2 ∉ M.map (·.2) → M'.Perm (x :: M)) : Gets ks (i + 1) M' := by
  have tk : ks.take (i + 1) = ks.take i ++ [x] := by rw [List.take_add_one, e]; rfl
  by_cases c : x.2 ∈ M.map (·.2)
  · rw [c1 c]
    refine ⟨fun p hp => ?_, fun p hp => ?_, Nat.le_succ_of_le g.len⟩
    · rw [tk]; exact List.mem_append_left _ (g.sub p hp)
    · rw [tk] at hp
      rcases List.mem_append.mp hp with h | h
      · exact g.all p h
      · rw [List.mem_singleton.mp h]; exact c
  · have pm := c2 c
    refine ⟨fun p hp => ?_, fun p hp => ?_, by rw [pm.length_eq]; exact Nat.succ_le_succ g.len⟩
    · rw [tk]
      rcases List.mem_cons.mp (pm.mem_iff.mp hp) with h | h
      · rw [h]; exact List.mem_append_right _ (.head _)
      · exact List.mem_append_left _ (g.sub p h)
    · rw [(pm.map (·.2)).mem_iff, List.map_cons]
      rw [tk] at hp
      rcases List.mem_append.mp hp with h | h
      · exact .tail _ (g.all p h)
      · rw [List.mem_singleton.mp h]; exact .head _
theorem addsN {P : Program} {w : World} {A : Around} {h0 : Heap} {S : Addr} {wr : List Addr} {ks : List Ent} {n : Nat} {Pv : Nat → Value → Prop} (hn : n = ks.length) (few : ks.length ≤ 76) (pv : ∀ i v, Pv i v → ∃ p, ks[i]? = some p ∧ v = .ref p.1) (kk : ∀ p ∈ ks, KeyAt h0 p.2 p.1) (nS : h0.get? S = none)
    (nw : ∀ b ∈ wr, h0.get? b = none) (Sw : S ∉ wr) (un : A.units + 8 < cLine) : Adds P w A S wr n Pv (fun i h => (∃ M es ep t, SetN w h S M es ep t ∧ Gets ks i M) ∧ ∀ b o, h0.get? b = some o → h.get? b = some o) where
  stay := fun i h h' ⟨⟨M, es, ep, t, Z, g⟩, kp⟩ st => by
    have kp' : ∀ b o, h0.get? b = some o → h'.get? b = some o := fun b o e => st b o (fun z => by rw [nw b z] at e; cases e) (kp b o e)
    obtain ⟨o, g1, g2⟩ := Z.ob
    exact ⟨⟨M, es, ep, t, ⟨⟨o, st _ _ Sw g1, g2⟩, Z.rows, Z.tab, Z.nd, fun p hp => (kk p (List.mem_of_mem_take (g.sub p hp))).stay fun b o _ _ e _ => kp' b o e, Z.led, Z.room⟩, g⟩, kp'⟩
  add := fun i v s Q E lt pvi ⟨⟨M, es, ep, t, Z, g⟩, kp⟩ q => by
    obtain ⟨p, ep, rfl⟩ := pv i v pvi
    have kx : KeyAt s.heap p.2 p.1 := (kk p (List.mem_of_getElem? ep)).stay fun b o _ _ e _ => kp b o e
    unfold setAdd
    refine wpAny_holding (wpAny_bind ((nestedKind P w).pyHash un kx ?_))
    refine addN (s := { s with toks := s.toks + p.2.draws }) Z kx un (by have := g.len; omega) fun b h' M' es' ep' t' sb Z' c1 c2 => q b h' _ ⟨⟨M', es', ep', t', Z', g.next ep c1 c2⟩, fun c o e => ?_⟩ (Nat.le_add_right _ _) sb
    exact (sb.2 c (fun z => by rw [z, nS] at e; cases e)).trans (kp c o e)
theorem fresh_set {w : World} {h : Heap} {a : Addr} (g : h.get? a = some (freshSet w)) : SetN w h a [] #[] 0 (.fresh 0 0 (!w.params.followText "set-order")) where
  ob := ⟨_, g, ⟨rfl, rfl, rfl⟩, rfl⟩
  rows := rfl
  tab := ⟨List.Pairwise.nil, rfl, rfl, .inl rfl, (fun x hx => by cases hx), fun i h j hi => by simp at hi⟩
  nd := List.nodup_nil
  key := fun p hp => by cases hp
  led := by
    cases e : w.params.followText "set-order"
    · exact .inr rfl
    · exact .inl rfl
  room := by show 0 * 5 < 7 * 3; decide
theorem vals_ref : ∀ {ks : List Ent} {us : List Value}, Vals (ks.map fun p => V.ref p.1) us → us = ks.map fun p => Value.ref p.1
  | [], _, .nil => rfl
  | p :: ks, _, .cons r t => by cases r; rw [vals_ref t]; rfl
theorem ref_vals : ∀ (ks : List Ent), Vals (ks.map fun p => V.ref p.1) (ks.map fun p => Value.ref p.1)
  | [] => .nil
  | p :: ks => .cons rfl (ref_vals ks)
section
variable {X : Cx}
theorem Nk.keyAt {pins : List (Addr × Obj)} {σ : L2.St} {H : Hp} {s : Shared} (I : Inv X pins σ H s) {k : NestedKey} {a : Addr} (n : Nk H (.ref a) k) (d : k.depth ≤ 8) : KeyAt s.heap k a := ⟨(n.ns I rfl).is, d⟩
/-- set(xs), xs a list of nested tuples -/
def rSetN (K : PySem.W.Frag) (w : World) : List V → Hp → VK → Prop := fun xs H Q => ∃ (l : Addr) (ks : List Ent), xs = [V.ref l] ∧ SqL K H l (ks.map fun p => V.ref p.1) ∧ (∀ p ∈ ks, Nk H (.ref p.1) p.2 ∧ p.2.depth ≤ 8) ∧ ks.length ≤ 76 ∧
  ∀ a M, H a = none → (∀ p ∈ M, p ∈ ks) → (∀ p ∈ ks, p.2 ∈ M.map (·.2)) → (M.map (·.2)).Nodup → Q (.ref a) (upd H a (SetO w a M))
theorem cr_setN (hc : X.calm = true) (hu : X.A.units + 64 < cLine) : CallR X (.type "set") (rSetN X.K X.w) := by
  intro pins s σ H xs us Q I r h
  obtain ⟨l, ks, rfl, hl, hk, few, q⟩ := h
  rw [Vals.ref1 r]
  obtain ⟨its, rv, pl, hz⟩ := I.list hl
  have ei := vals_ref rv
  have non : ∀ b, s.heap.objs.size ≤ b → s.heap.get? b = none := fun b lb => by
    cases e : s.heap.get? b with
    | none => rfl
    | some o => exact absurd (Nat.lt_of_lt_of_le (Heap.lt_size e) lb) (Nat.lt_irrefl _)
  refine callG (P := X.prog) (w := X.w) (items := its.toArray) (I.ok.hd hc) pl.isList (addsN (h0 := s.heap) (ks := ks) (by rw [List.size_toArray, ei, List.length_map]) few (fun i v e => ?_) (fun p hp => (hk p hp).1.keyAt I (hk p hp).2) (non _ (Nat.le_refl _)) (fun b hb => ?_) ?_ (by show X.A.units + 1 + 1 + 1 + 8 < cLine; omega))
    (fun h g kp => ⟨⟨[], _, _, _, fresh_set g, .none ks⟩, kp⟩) fun h' tk t1 kp => ?_
  · rw [List.getElem?_toArray, ei, List.getElem?_map] at e
    cases e2 : ks[i]? with
    | none => rw [e2] at e; cases e
    | some p => rw [e2] at e; exact ⟨p, rfl, (Option.some.inj e).symm⟩
  · rw [List.mem_singleton.mp hb]; exact non _ (Nat.le_succ _)
  · intro z
    exact Nat.ne_of_lt (Nat.lt_succ_self _) (List.mem_singleton.mp z)
  · obtain ⟨⟨M, es, ep, t, Z, g⟩, _⟩ := t1
    rw [List.size_toArray, ei, List.length_map] at g
    refine ⟨.ref s.heap.objs.size, upd H s.heap.objs.size (SetO X.w s.heap.objs.size M), I.laid (t' := tk) kp (Nat.le_refl _) (setO_new Z.w), rfl, q _ M (I.hok.fresh (Nat.le_refl _)) (fun p hp => List.mem_of_mem_take (g.sub p hp)) (fun p hp => g.all p (by rw [List.take_length]; exact hp)) Z.nd⟩
/-- sorted(set) -/
def rSortS (w : World) : List V → Hp → VK → Prop := fun vs H Q => ∃ (a : Addr) (M : List Ent), vs = [V.ref a] ∧ H a = some (SetO w a M) ∧ (∀ p ∈ M, Nk H (.ref p.1) p.2 ∧ p.2.depth ≤ 8) ∧ Sbl (M.map (·.2)) ∧
  ∀ (M' : List Ent) (p : Addr), M'.Perm M → H p = none → Q (.ref p) (upd H p (.lst ((srt (M'.map fun q => V.ref q.1) (M'.map (·.2))).map Prod.fst)))
theorem perm_lift {α β : Type} {f : α → β} {l m : List β} (p : l.Perm m) : ∀ M : List α, m = M.map f → ∃ M' : List α, M'.Perm M ∧ l = M'.map f := by
  induction p with
  | nil =>
    intro M e
    cases M with
    | nil => exact ⟨[], .nil, rfl⟩
    | cons a M => cases e
  | cons x p ih =>
    intro M e
    cases M with
    | nil => cases e
    | cons a M =>
      rw [List.map_cons] at e
      injection e with e1 e2
      obtain ⟨M', pm, rfl⟩ := ih M e2
      exact ⟨a :: M', pm.cons a, by rw [List.map_cons, e1]⟩
  | swap x y l =>
    intro M e
    match M, e with
    | a :: b :: M, e =>
      rw [List.map_cons, List.map_cons] at e
      injection e with e1 e2
      injection e2 with e2 e3
      exact ⟨b :: a :: M, .swap _ _ _, by rw [List.map_cons, List.map_cons, e1, e2, e3]⟩
  | trans p q ih1 ih2 =>
    intro M e
    obtain ⟨M1, p1, e1⟩ := ih2 M e
    obtain ⟨M2, p2, e2⟩ := ih1 M1 e1
    exact ⟨M2, p2.trans p1, e2⟩
theorem nk_ents {H : Hp} : ∀ {M : List Ent}, (∀ p ∈ M, Nk H (.ref p.1) p.2) → NkAll H (M.map fun p => V.ref p.1) (M.map (·.2))
  | [], _ => .nil
  | p :: M, h => .cons (h p (.head _)) (nk_ents fun q hq => h q (.tail _ hq))
theorem cr_sortS (hc : X.calm = true) (hu : X.A.units + 64 < cLine) : CallR X (.builtin "sorted") (rSortS X.w) := by
  intro pins s σ H vs us Q I r h
  obtain ⟨a, M, rfl, ha, hk, sb, q⟩ := h
  rw [Vals.ref1 r]
  obtain ⟨es, ep, t, Z⟩ := SetW.full (I.hok a _ ha).1 fun p hp => (hk p hp).1.keyAt I (hk p hp).2
  obtain ⟨o, g1, g2, g3⟩ := Z.ob
  have sz := Z.size
  have l3 := Z.room
  have lM : M.length ≤ 76 := by rcases Z.tab.mok with e | e | e <;> rw [e] at l3 <;> omega
  refine Calls.call_function_entry kind_sorted plain_sorted entry_sorted (args_sorted1 _) ?_
  unfold Builtin.«sorted»
  refine wpAny_bind (m := checkCount "sorted" 1 1 _) (wpAny_pure (wpAny_bind (collect_set (A := X.A.in1) (I.ok.hd hc) ⟨o, g1, g2.1, g3⟩ Z.fits (by unfold scanBound; omega) Z.tab.ris Z.led fun s1 vs k1 hz e1 e2 pm => ?_)))
  rw [Z.rows, List.map_map] at pm
  obtain ⟨M', pM, rfl⟩ := perm_lift pm M rfl
  have I1 : Inv X pins σ H s1 := I.call' (ch := []) e2 (Un.kept k1) (I.hok.kept k1) (by rw [e1]; exact I.bare) (fun _ z => nomatch z)
  have fresh := I1.hok.fresh (Nat.le_refl _)
  have lv : (M'.map fun q => Value.ref q.1).length ≤ sizeLine := by rw [List.length_map, pM.length_eq, sizeLine_eq]; omega
  have sb' : Sbl (M'.map (·.2)) := ⟨sb.heads.imp (fun h k hk => h k ((pM.map (·.2)).mem_iff.mp hk)) (fun h k hk => h k ((pM.map (·.2)).mem_iff.mp hk)), fun k hk k' hk' => sb.cmp k ((pM.map (·.2)).mem_iff.mp hk) k' ((pM.map (·.2)).mem_iff.mp hk'), fun k hk => sb.deep k ((pM.map (·.2)).mem_iff.mp hk)⟩
  refine wpAny_bind (wpAny_newList ?_ lv)
  refine wpAny_bind (wpAny_holding (sort_tail (Q := fun v s' => wpAny (model X.prog X.w) X.A.in1 (ret v) _ _ s') I1 (by omega) (ref_vals M') (nk_ents fun p hp => (hk p (pM.mem_iff.mp hp)).1) sb' lv _ rfl fun s' J => wpAny_pure ⟨_, rfl, .ref _, _, J, rfl, q M' _ pM fresh⟩))
end
end My

set_option Elab.async false
set_option linter.all false
set_option maxRecDepth 100000
set_option maxHeartbeats 2000000
/-! {x for .. in ..}, x a tuple of numbers, texts and such tuples. -/
namespace My
open PySem PySem.Spec PyProof.Rows L2 PySem.SeqAt PySem.W
section
variable {X : Cx}
/-- D.add(x) -/
theorem add_in {pins : List (Addr × Obj)} {σ : L2.St} {H : Hp} {s : Shared} {E : Value → Shared → Prop} {D a : Addr} {M : List Ent} {k : NestedKey} {Q : Value → Shared → Prop} (hu : X.A.units + 64 < cLine) (I : L2.Inv X pins σ H s) (hD : H D = some (SetO X.w D M))
    (hM : ∀ p ∈ M, Nk H (.ref p.1) p.2 ∧ p.2.depth ≤ 8) (hk : Nk H (.ref a) k) (dk : k.depth ≤ 8) (few : M.length < 76)
    (q : ∀ M' s', (k ∈ M.map (·.2) → M' = M) → (k ∉ M.map (·.2) → M'.Perm ((a, k) :: M)) → L2.Inv X pins σ (upd H D (SetO X.w D M')) s' → Q .none s') : wpAny (model X.prog X.w) X.A (call (.builtin "set.add") [.ref D, .ref a]) Q E s := by
  have Z0 : SetW X.w s.heap D M := (I.hok D _ hD).1
  obtain ⟨es, ep, t, Z⟩ := Z0.full fun p hp => Nk.keyAt I (hM p hp).1 (hM p hp).2
  obtain ⟨o, g1, g2, g3⟩ := Z.ob
  have kx : KeyAt s.heap k a := hk.keyAt I dk
  refine wpAny_call_entry PySem.F.slot_set_add ⟨o, g1, g2.1⟩ PySem.F.entry_set_add ?_ (PySem.F.args_set_add_2 _ _)
  unfold Builtin.«set.add» Builtin.Frozenset.oneOther Builtin.Frozenset.addrOf setAdd
  simp only [List.isEmpty_nil, bind_assoc]
  refine wpAny_bind (wpAny_pure ?_)
  try dsimp only
  refine wpAny_bind (wpAny_pure (wpAny_bind (wpAny_holding (wpAny_bind ((nestedKind X.prog X.w).pyHash (by show X.A.units + 1 + 8 < cLine; omega) kx ?_)))))
  refine addN (s := { s with toks := s.toks + k.draws }) Z kx (by show X.A.units + 1 + 8 < cLine; omega) few fun b h' M' es' ep' t' sb Z' c1 c2 => ?_
  obtain ⟨o', g', _⟩ := Z'.ob
  exact wpAny_pure ⟨_, rfl, q M' _ c1 c2 (I.write (e := D) (t' := s.toks + k.draws) (by rw [hD]; trivial) (.inl rfl) (fun b u hb hu => (sb.2 b hb).trans hu) ⟨o', g'⟩ (setO_new Z'.w))⟩
def ScStep (w : World) (J : It) (g : TG) (tt : TT) (te : TE) (vs : List Nat) (σ : L2.St) (D : Addr) (Qd : Hp → Prop) (W : Nat → Nat → Hp → Prop) (i m : Nat) (H : Hp) : Prop :=
  (J.stop i H ∧ Qd H) ∨ (J.go i H ∧ ∃ Nx : Hp → Prop, (∀ H', Nx H' → ∃ m', m' < m ∧ W (i + 1) m' H') ∧ ∀ x H', J.yld i H x H' →
    g x (wipe σ vs) H' fun σ2 H2 => wipe σ2 vs = wipe σ vs ∧ tt σ2 H2 fun b H3 => if b = true then te σ2 H3 fun y H4 =>
      ∃ a k M, y = .ref a ∧ H4 D = some (SetO w D M) ∧ (∀ p ∈ M, Nk H4 (.ref p.1) p.2 ∧ p.2.depth ≤ 8) ∧ Nk H4 (.ref a) k ∧ k.depth ≤ 8 ∧ M.length < 76 ∧ (∀ M', (k ∈ M.map (·.2) → M' = M) → (k ∉ M.map (·.2) → M'.Perm ((a, k) :: M)) → Nx (upd H4 D (SetO w D M'))) else Nx H3)
def tScN (w : World) (wi : TI) (g : TG) (tt : TT) (te : TE) (vs : List Nat) : TE := fun σ H Q => wi σ H fun J H1 => ∀ D, H1 D = none →
  ∃ W : Nat → Nat → Hp → Prop, (∃ m, W 0 m (upd H1 D (SetO w D []))) ∧ ∀ i m H', W i m H' → ScStep w J g tt te vs σ D (fun H2 => Q (.ref D) H2) W i m H'
theorem scN_core {pins : List (Addr × Obj)} {s : Shared} {σ : L2.St} {H : Hp} {Q : VK} {ex tg iter : Expr} {ifs : List Expr} {scope : Scope} {own : List (Str × Nat)} {pos pos' : Pos} {wi : TI} {g : TG} {tt : TT} {te : TE} {use : Option (Value → Sem Unit)} {Qf : Value → Shared → Prop}
    (hu : X.A.units + 64 < cLine) (calm : X.calm = true) (nd : X.N.Nodup) (I : L2.Inv X pins σ H s) (hi : PI X tg iter wi) (ok : BlkOk X.N X.env.scope scope own)
    (hg : ∀ s H C cl fp, PG (Blk X scope s H C cl fp) tg g) (ht : ∀ s H C cl fp, PTs (Blk X scope s H C cl fp) ifs tt) (he : ∀ s H C cl fp, PE (Blk X scope s H C cl fp) ex te)
    (fold : ∀ x, foldedSetIterable iter X.env x = pure x) (h : tScN X.w wi g tt te (own.map (·.2)) σ H Q)
    (back : ∀ D C s' m H', L2.Inv X pins σ H' s' → Q (.ref D) H' → s'.heap.Ns C m → FpOk X pins H' C → compPost (model X.prog X.w) X.A X.xe use Qf (.ref D) C (.ok .next) s') :
    wpAny (model X.prog X.w) X.A (comprehension (.SetComp ex [⟨tg, iter, ifs, 0⟩] scope pos) scope X.env pos' (newSet (.type "set")) false (eval iter X.env) use) Qf X.xe s := by
  have free : ∀ y ∈ scope.names, y.2 = .free → ∃ c, X.env.cells.lookup y.1 = some c := by
    intro y hy e
    exact (ok.free y hy e).elim (fun k => I.ok.has _ (.inl k)) fun k => I.ok.has _ (.inr k)
  refine wpAny_comprehension_free (use := use) rfl fold (closure_ok free) ok.kind (fun y hy e => by rw [ok.uniq y hy, e]) (thn (hi.run pins s σ H _ I h) fun xv s1 hx => thn hx ?_)
  rintro itv s2 ⟨it, fp, tn, J, H2, rfl, I2, T, st2, f2, q⟩
  refine PpSet.newSet_ok (newEnv_comp ?_)
  obtain ⟨D, hD⟩ : ∃ D, D = s2.heap.objs.size := ⟨_, rfl⟩
  rw [← hD]
  have fresh : H2 D = none := I2.hok.fresh (Nat.le_of_eq hD.symm)
  obtain ⟨W, ⟨m0, w0⟩, turn⟩ := q D fresh
  obtain ⟨s3, hs3⟩ : ∃ s3 : Shared, s3 = { s2 with heap := s2.heap.push (freshSet X.w) } := ⟨_, rfl⟩
  have I3 : L2.Inv X pins σ (upd H2 D (SetO X.w D [])) s3 := by
    rw [hs3]
    refine I2.laid (t' := s2.toks) (fun b o e => Heap.get?_push_of_some _ e) (Nat.le_of_eq hD.symm) ?_
    rw [hD]
    exact setO_new (fresh_set (Heap.get?_push_size _ rfl)).w
  have h3 : s3.heap = s2.heap.push (freshSet X.w) := by rw [hs3]
  have old : ∀ b ∈ fp, b < s2.heap.objs.size := fun b hb => let ⟨o, e, _⟩ := T.obj _ _ st2 b hb; Heap.lt_size e
  have f3 : ∀ b ∈ fp, FpOk X pins (upd H2 D (SetO X.w D [])) b ∧ b < s3.heap.objs.size := by
    intro b hb
    have lt := old b hb
    refine ⟨⟨?_, (f2 b hb).2⟩, by rw [h3, Heap.size_push]; exact Nat.lt_succ_of_lt lt⟩
    rw [upd_ne (by rw [hD]; exact Nat.ne_of_lt lt)]
    exact (f2 b hb).1
  have st3 : tn 0 s3.heap := T.keep _ _ _ st2 fun b _ o e => by rw [h3]; exact Heap.get?_push_of_some _ e
  have I4 := block_start I3 ok nd f3
  obtain ⟨cl, hcl⟩ : ∃ cl, cl = cellsFrom (s3.heap.objs.size + 1) scope.names (cloFrom X.env.cells scope.names []) := ⟨_, rfl⟩
  obtain ⟨C, hC⟩ : ∃ C, C = s3.heap.objs.size := ⟨_, rfl⟩
  obtain ⟨H3, hH3⟩ : ∃ H3, H3 = upd H2 D (SetO X.w D []) := ⟨_, rfl⟩
  rw [← hcl, ← hC, ← hH3] at I4
  rw [← hH3] at I3 f3 w0
  obtain ⟨s4, hs4⟩ : ∃ s4 : Shared, s4 = { s3 with heap := pushCells (s3.heap.push { cls := .type "dict", data := .dict #[] }) scope.names } := ⟨_, rfl⟩
  rw [← hs4] at I4
  rw [show ({ s2 with heap := s2.heap.push { cls := .type "set", dict := none, data := .set #[] 0 (.fresh 0 0 (!X.w.params.followText "set-order")) } } : Shared) = s3 from hs3.symm]
  show codeAny _ _ (.compStart (.SetComp ex [⟨tg, iter, ifs, 0⟩] scope pos) 0 (.ref it) (.ref D) (compEnvC scope (cellsFrom (s3.heap.objs.size + 1) scope.names (cloFrom X.env.cells scope.names [])) s3.heap.objs.size X.env)) (compPost (model X.prog X.w) X.A X.xe use Qf (.ref D) s3.heap.objs.size) { s3 with heap := pushCells (s3.heap.push { cls := .type "dict", data := .dict #[] }) scope.names }
  rw [← hcl, ← hC, ← hs4]
  have pg := hg s3 H3 C cl fp
  have pt := ht s3 H3 C cl fp
  have pe := he s3 H3 C cl fp
  have cL : (compEnvC scope cl C X.env).locals = C := rfl
  have nfp : ∀ b ∈ fp, H3 b = none := fun b hb => (f3 b hb).1.1
  have st4 : tn 0 s4.heap := T.keep _ _ _ st3 fun b _ o e => by rw [hs4]; exact pushCells_keeps _ _ _ _ (Heap.get?_push_of_some _ e)
  have stat : ∀ {σ' : L2.St} {H' : Hp} {s' : Shared}, L2.Inv (Blk X scope s3 H3 C cl fp) [] σ' H' s' → (∀ b ∈ fp, H' b = none) → ∀ b ∈ fp, FpOk (Blk X scope s3 H3 C cl fp) [] H' b := by
    intro σ' H' s' I' hn b hb
    exact ⟨hn b hb, (I'.ok.exf b hb).1, I'.ok.exfs b hb, .inl hb, fun x c e => (I'.ok.exf b hb).2 x c e, fun p hp => absurd (show p ∈ ([] : List (Addr × Obj)) ++ [] from hp) (by simp)⟩
  have loop : codeAny (model X.prog X.w) X.A (.compLoop (.SetComp ex [⟨tg, iter, ifs, 0⟩] scope pos) 0 (.ref it) (.ref D) (compEnvC scope cl C X.env)) (compPost (model X.prog X.w) X.A X.xe use Qf (.ref D) C) s4 := by
    refine PpSet.compLoopS_any (fun n s' => ∃ i H', L2.Inv (Blk X scope s3 H3 C cl fp) [] (wipe σ (own.map (·.2))) H' s' ∧ tn i s'.heap ∧ (∀ b ∈ fp, H' b = none) ∧ W i n H') ?_ m0 ⟨0, H3, I4, st4, nfp, w0⟩
    rintro n s5 ⟨i, H5, I5, st5, n5, w5⟩
    rcases turn i n H5 w5 with ⟨stop, qq⟩ | ⟨go, Nx, hNx, step⟩
    · refine thnF (T.done (Blk X scope s3 H3 C cl fp) rfl rfl rfl calm i [] s5 _ H5 (fun _ _ => False) I5 (stat I5 n5) st5 stop) ?_
      rintro r s6 ⟨rfl, I6⟩
      have I7 : L2.Inv X pins σ H5 s6 := I3.call' (ch := fp) I6.os I6.base I6.hok I6.bare fun b hb => ⟨(f3 b hb).1.2.2.2.1, (f3 b hb).1.2.1, (f3 b hb).1.2.2.2.2.1, (f3 b hb).1.2.2.2.2.2⟩
      have nC : H5 C = none := I6.free
      obtain ⟨m, hn, _⟩ := I6.loc
      exact back D C s6 m H5 I7 qq hn (I3.fpOk (Nat.le_of_eq hC.symm) nC)
    · refine thnF (T.item (Blk X scope s3 H3 C cl fp) rfl rfl rfl calm i [] s5 _ H5 (fun _ _ => False) I5 (stat I5 n5) st5 go) ?_
      rintro r s6 ⟨u, rfl, h6⟩
      refine thnF h6 ?_
      rintro _ s7 ⟨x, H7, I7, r7, y7, st7, n7⟩
      refine thnF (pg.run _ s7 _ H7 x u _ (I7.pinned (stat I7 n7) (T.obj _ _ st7)) r7 (step x H7 y7)) ?_
      rintro _ s8 ⟨σ8, H8, I8, hw8, q8⟩
      refine thnF (pt.run _ s8 σ8 H8 _ I8 q8) ?_
      rintro b s9 ⟨H9, I9, q9⟩
      have fin : ∀ {s' : Shared} {H' : Hp}, L2.Inv (Blk X scope s3 H3 C cl fp) ([] ++ pinsAt fp s7.heap) σ8 H' s' → Nx H' → ∃ m, m < n ∧ ∃ i H', L2.Inv (Blk X scope s3 H3 C cl fp) [] (wipe σ (own.map (·.2))) H' s' ∧ tn i s'.heap ∧ (∀ b ∈ fp, H' b = none) ∧ W i m H' := by
        intro s' H' I' nx
        obtain ⟨m', lt, w'⟩ := hNx H' nx
        have pin : ∀ b ∈ fp, ∀ o, s7.heap.get? b = some o → s'.heap.get? b = some o ∧ H' b = none := by
          intro b hb o e
          have z := I'.pin (b, o) (List.mem_append_right _ (List.mem_append_right _ (mem_pinsAt hb e)))
          exact ⟨z.1, z.2.1⟩
        refine ⟨m', lt, i + 1, H', (I'.unpinned (pins := [])).weak (by rw [← hw8, wipe_length]) (fun j v e => ?_), T.keep _ _ _ st7 fun b hb o e => (pin b hb o e).1, fun b hb => ?_, w'⟩
        · rw [← hw8] at e
          exact (wipe_some e).1
        · obtain ⟨o, e, _⟩ := T.obj _ _ st7 b hb
          exact (pin b hb o e).2
      cases b with
      | false =>
        simp only [Bool.false_eq_true, if_false] at q9 ⊢
        exact fin I9 q9
      | true =>
        simp only [if_true] at q9 ⊢
        refine thnF (pe.run _ s9 σ8 H9 _ I9 q9) ?_
        rintro z s10 ⟨y, H10, I10, r10, a, k, M, rfl, hD10, hM, nk, dk, few, nx⟩
        cases r10
        exact add_in (X := Blk X scope s3 H3 C cl fp) hu I10 hD10 hM nk dk few fun M' s11 c1 c2 I11 => fin I11 (nx M' c1 c2)
  exact PpSet.codeAny_compStart_set loop (T.self X.A 0 _ _ _ st4 loop)
end
section
variable {X : Cx} {ex tg iter : Expr} {ifs : List Expr} {scope : Scope} {own : List (Str × Nat)} {pos : Pos} {wi : TI} {g : TG} {tt : TT} {te : TE}
/-- as a value -/
theorem pe_scN (hu : X.A.units + 64 < cLine) (calm : X.calm = true) (nd : X.N.Nodup) (hi : PI X tg iter wi) (ok : BlkOk X.N X.env.scope scope own)
    (hg : ∀ s H C cl fp, PG (Blk X scope s H C cl fp) tg g) (ht : ∀ s H C cl fp, PTs (Blk X scope s H C cl fp) ifs tt) (he : ∀ s H C cl fp, PE (Blk X scope s H C cl fp) ex te)
    (fold : ∀ x, foldedSetIterable iter X.env x = pure x := by intro _; rfl) : PE X (.SetComp ex [⟨tg, iter, ifs, 0⟩] scope pos) (tScN X.w wi g tt te (own.map (·.2))) := by
  constructor
  intro pins s σ H Q I h
  rw [PpSet.eval_SetComp]
  refine scN_core hu calm nd I hi ok hg ht he fold h ?_
  rintro D C s' m H' I' q hn ⟨f0, f1, f2, f3, f4, f5⟩
  exact ⟨m, hn, fun h2 sb => ⟨.ref D, H', I'.turned (t' := s'.toks) (fun b o hb e => (sb.2 b hb).trans e) f0 f1 f3 f4 f5, rfl, q⟩⟩
end
/-- a walk's turns -/
theorem scN_it {w : World} {J : It} {n : Nat} {G : Hp → Prop} {Y : Nat → Hp → V → Hp → Prop} (wk : Walk J n G Y) {g : TG} {tt : TT} {te : TE} {vs : List Nat} {σ : L2.St} {H1 : Hp} {D : Addr} {Qd : Hp → Prop} (Pv : Nat → Hp → Prop) (h0 : Pv 0 (upd H1 D (SetO w D []))) (hG : ∀ i H, i ≤ n → Pv i H → G H)
    (hs : ∀ i x H H', i < n → Pv i H → Y i H x H' → g x (wipe σ vs) H' fun σ2 H2 => wipe σ2 vs = wipe σ vs ∧ tt σ2 H2 fun b H3 => if b = true then te σ2 H3 fun y H4 =>
      ∃ a k M, y = .ref a ∧ H4 D = some (SetO w D M) ∧ (∀ p ∈ M, Nk H4 (.ref p.1) p.2 ∧ p.2.depth ≤ 8) ∧ Nk H4 (.ref a) k ∧ k.depth ≤ 8 ∧ M.length < 76 ∧ (∀ M', (k ∈ M.map (·.2) → M' = M) → (k ∉ M.map (·.2) → M'.Perm ((a, k) :: M)) → Pv (i + 1) (upd H4 D (SetO w D M'))) else Pv (i + 1) H3)
    (hd : ∀ H, Pv n H → Qd H) : ∃ W : Nat → Nat → Hp → Prop, (∃ m, W 0 m (upd H1 D (SetO w D []))) ∧ ∀ i m H', W i m H' → ScStep w J g tt te vs σ D Qd W i m H' := by
  refine ⟨fun i m H => m = n - i ∧ i ≤ n ∧ Pv i H, ⟨n, by simp, Nat.zero_le _, h0⟩, ?_⟩
  rintro i m H ⟨rfl, hi, p⟩
  have q := hG i H hi p
  by_cases lt : i < n
  · exact .inr ⟨wk.goes i H lt q, Pv (i + 1), fun H' p' => ⟨n - (i + 1), by omega, rfl, lt, p'⟩, fun x H' y => hs i x H H' lt p (wk.yields i H x H' lt q y)⟩
  · obtain rfl : i = n := by omega
    exact .inl ⟨wk.stops H q, hd H p⟩
end My

set_option Elab.async false
set_option linter.all false
set_option maxRecDepth 100000
set_option maxHeartbeats 2000000
/-! sorted(xs, key=f), xs a list of tuples. -/
namespace My
open PySem PySem.Spec PyProof.Rows L2 PySem.SeqAt
theorem un64 {k : Nat} {A : Around} (r : Room k A) : A.units + 64 < cLine := by have := r.un; omega
section
variable {X : Cx} {f : Addr} {fd : FuncData} {ps : List Str} {j : Nat} {F : NestedKey → NestedKey} {C : NestedKey → Prop}
def rSortKL (K : PySem.W.Frag) (f : Addr) (F : NestedKey → NestedKey) (C : NestedKey → Prop) : List V → List V → Hp → VK → Prop := fun vs zs H Q => ∃ (l : Addr) (xs : List V) (ks : List NestedKey), vs = [.ref l] ∧ zs = [.ref f] ∧ SqL K H l xs ∧ NkAll H xs ks ∧ (∀ k ∈ ks, C k) ∧
  (∀ k ∈ ks, ∃ i r, F k = .tup (.num i :: r)) ∧ (∀ k ∈ ks, ∀ k' ∈ ks, ∃ c, ltK (F k) (F k') = some c) ∧ (∀ k ∈ ks, (F k).depth ≤ 50) ∧ xs.length ≤ 1000 ∧ ∀ H' p, Same H H' → H' p = none → H p = none → Q (.ref p) (upd H' p (.lst (((xs.zip ks).mergeSort (leF F)).map Prod.fst)))
theorem cr_sortKL (G : FnOk X.prog X.w X.K X.mg X.base CX0 j f fd ps (spKey F C)) (hr : Room (j + 1) X.A) (hb : Binds X.K fd ps []) : CallRK X (.builtin "sorted") [Str.ofString "key"] (rSortKL X.K f F C) := by
  intro pins s σ H vs zs us ws Q I r1 r2 h
  obtain ⟨l, xs, ks, rfl, rfl, hl, nk, hC, hh, hc, hd, lx, q⟩ := h
  obtain ⟨u, rfl, ru⟩ := vals1 r1
  obtain ⟨u2, rfl, ru2⟩ := vals1 r2
  cases ru
  cases ru2
  obtain ⟨its, rv, pl, hz⟩ := I.list hl
  have lv : its.length ≤ sizeLine := by rw [← rv.length, sizeLine_eq]; omega
  show wpAny _ _ (call (.builtin "sorted") [.ref l] [(Str.ofString "key", .ref f)]) _ _ _
  refine call_function_entry_kw kind_sorted plain_sorted entry_sorted (ksk_s1 _ _) ?_
  unfold Builtin.«sorted»
  refine wpAny_bind (m := checkCount "sorted" 1 1 _) (wpAny_pure ?_)
  refine wpAny_bind (collect_list pl.isList ?_ lv)
  have k1 : ∀ b o, s.heap.get? b = some o → ((s.heap.push (seqObj "list" #[] 0)).update s.heap.objs.size (Obj.mapSeq (· ++ its.toArray))).get? b = some o := fun b o e => by
    have lt := Heap.lt_size e
    rw [Heap.get?_update_ne _ _ _ _ (Nat.ne_of_lt lt)]
    exact Heap.get?_push_of_some _ e
  have I1 : Inv X pins σ H { s with heap := (s.heap.push (seqObj "list" #[] 0)).update s.heap.objs.size (Obj.mapSeq (· ++ its.toArray)), toks := s.toks } := I.kept k1
  generalize (s.heap.push (seqObj "list" #[] 0)).update s.heap.objs.size (Obj.mapSeq (· ++ its.toArray)) = h' at I1 ⊢
  refine wpAny_bind (wpAny_newList ?_ lv)
  show wpAny _ _ _ _ _ { s with heap := h'.push (seqObj "list" its.toArray 0), toks := s.toks }
  have I2 : L2.Inv X pins σ H { s with heap := h'.push (seqObj "list" its.toArray 0), toks := s.toks } := I1.kept (t' := s.toks) fun b u e => Heap.get?_push_of_some _ e
  have hoL : (h'.push (seqObj "list" its.toArray 0)).get? h'.objs.size = some (seqObj "list" its.toArray 0) := Heap.get?_push_size _ rfl
  have fresh : H h'.objs.size = none := I1.hok.fresh (Nat.le_refl _)
  have fp : FpOk X pins H h'.objs.size := I1.fpOk (Nat.le_refl _) fresh
  refine wpAny_bind (wpAny_holding (wpAny_call_entry_kw slot_list_sort ⟨_, hoL, rfl⟩ entry_list_sort ?_ (ksk_l1 _ _)))
  rw [ksk_t1]
  refine sort_key (X := X) (pins := pins) (σ := σ) (H := H) (s := { s with heap := h'.push (seqObj "list" its.toArray 0), toks := s.toks }) G hr hb I2 fp hoL rv nk hC hh hc hd lv fun H' s' sm nh I3 => ?_
  exact ⟨_, rfl, wpAny_pure ⟨_, rfl, .ref h'.objs.size, _, I3, rfl, q H' _ sm nh fresh⟩⟩
end
end My

set_option Elab.async false
set_option linter.all false
set_option maxRecDepth 100000
set_option maxHeartbeats 2000000
/-! Pairs of texts in order. -/
namespace My
open PySem PySem.Spec PyProof.Rows L2 PySem.SeqAt PySem.W
def sayK (p : Str × Str) : NestedKey := .tup [.text p.1, .text p.2]
theorem sayK_inj {p q : Str × Str} (e : sayK p = sayK q) : p = q := by
  unfold sayK at e
  injection e with e
  simp only [List.cons.injEq, NestedKey.text.injEq, and_true] at e
  exact Prod.ext e.1 e.2
theorem say_depth (p : Str × Str) : (sayK p).depth ≤ 8 := by
  unfold sayK
  simp only [NestedKey.depthAll, NestedKey.depth]
  decide
theorem say_lt (p q : Str × Str) : ∃ c, ltK (sayK p) (sayK q) = some c := by
  unfold sayK
  rw [ltK]
  exact lt_step (lt_text _ _) (lt_step (lt_text _ _) lt_nil)
def befK (a b : NestedKey) : Bool := lexT (toks a) (toks b)
theorem bef_lt (p q : Str × Str) : ltK (sayK p) (sayK q) = some (befK (sayK p) (sayK q)) := by
  obtain ⟨c, e⟩ := say_lt p q
  rw [e]
  unfold sayK at e
  rw [ltK] at e
  exact congrArg some (lex_tup e).symm
theorem bef_flip {p q : Str × Str} (ne : p ≠ q) : befK (sayK q) (sayK p) = !befK (sayK p) (sayK q) := by
  have h1 := bef_lt p q
  have h2 := bef_lt q p
  rw [flipK _ _ _ (fun z => ne (sayK_inj z)) h1] at h2
  exact (Option.some.inj h2).symm
/-- strictly rising -/
def Rs (l : List NestedKey) : Prop := l.Pairwise fun a b => befK a b = true
theorem rs_unique : ∀ {l m : List NestedKey}, Rs l → Rs m → (∀ k, k ∈ l ↔ k ∈ m) → l = m
  | [], [], _, _, _ => rfl
  | [], b :: _, _, _, h => absurd ((h b).mpr (.head _)) (by simp)
  | a :: _, [], _, _, h => absurd ((h a).mp (.head _)) (by simp)
  | a :: l, b :: m, hl, hm, h => by
    obtain ⟨l1, l2⟩ := List.pairwise_cons.mp hl
    obtain ⟨m1, m2⟩ := List.pairwise_cons.mp hm
    have irr : ∀ k, befK k k = false := fun k => lex_irrefl _
    have ea : a = b := by
      rcases List.mem_cons.mp ((h a).mp (.head _)) with e | e
      · exact e
      · rcases List.mem_cons.mp ((h b).mpr (.head _)) with e2 | e2
        · exact e2.symm
        · have : befK a a = true := lex_trans _ _ _ (l1 b e2) (m1 a e)
          rw [irr] at this
          cases this
    subst ea
    have n1 : a ∉ l := fun z => by have := l1 a z; rw [irr] at this; cases this
    have n2 : a ∉ m := fun z => by have := m1 a z; rw [irr] at this; cases this
    rw [rs_unique l2 m2 fun k => ⟨fun hk => ((List.mem_cons.mp ((h k).mp (.tail _ hk))).resolve_left fun e => n1 (e ▸ hk)), fun hk => ((List.mem_cons.mp ((h k).mpr (.tail _ hk))).resolve_left fun e => n2 (e ▸ hk))⟩]
theorem say_sbl {ks : List NestedKey} (h : ∀ k ∈ ks, ∃ p, k = sayK p) : Sbl ks where
  heads := .inl fun k hk => by obtain ⟨p, rfl⟩ := h k hk; exact ⟨_, _, rfl⟩
  cmp := fun k hk k' hk' => by
    obtain ⟨p, rfl⟩ := h k hk
    obtain ⟨q, rfl⟩ := h k' hk'
    exact say_lt p q
  deep := fun k hk => by
    obtain ⟨p, rfl⟩ := h k hk
    exact Nat.le_trans (say_depth p) (by decide)
theorem zip_ents (M : List Ent) : (M.map fun q => V.ref q.1).zip (M.map (·.2)) = M.map fun p => (V.ref p.1, p.2) := by
  induction M with
  | nil => rfl
  | cons a l ih => rw [List.map_cons, List.map_cons, List.zip_cons_cons, ih]; rfl
theorem srt_ok {H : Hp} {M : List Ent} (hk : ∀ p ∈ M, Nk H (.ref p.1) p.2) (hs : ∀ p ∈ M, ∃ q, p.2 = sayK q) (nd : (M.map (·.2)).Nodup) :
    ∃ ls, NkAll H ((srt (M.map fun q => V.ref q.1) (M.map (·.2))).map Prod.fst) ls ∧ Rs ls ∧ (∀ k, k ∈ ls ↔ k ∈ M.map (·.2)) ∧ ls.length = M.length := by
  unfold srt
  rw [zip_ents]
  have pm := List.mergeSort_perm (M.map fun p => (V.ref p.1, p.2)) (leF id)
  have pw := sort_pairwise (sortLe_total (listOrd itemOrd) false fun b : V × NestedKey => toks (id b.2)) (M.map fun p => (V.ref p.1, p.2))
  change List.Pairwise (fun a b => leF id a b = true) ((M.map fun p => (V.ref p.1, p.2)).mergeSort (leF id)) at pw
  generalize (M.map fun p => (V.ref p.1, p.2)).mergeSort (leF id) = l at pm pw ⊢
  have mem : ∀ b ∈ l, ∃ p ∈ M, b = (V.ref p.1, p.2) := fun b hb => by
    obtain ⟨p, hp, e⟩ := List.mem_map.mp (pm.mem_iff.mp hb)
    exact ⟨p, hp, e.symm⟩
  have pk : (l.map Prod.snd).Perm (M.map (·.2)) := by
    have := pm.map Prod.snd
    rwa [List.map_map] at this
  refine ⟨l.map Prod.snd, nk_pairs fun b hb => ?_, ?_, fun k => pk.mem_iff, by rw [pk.length_eq, List.length_map]⟩
  · obtain ⟨p, hp, rfl⟩ := mem b hb
    exact hk p hp
  · have nl2 : l.Pairwise fun a b => a.2 ≠ b.2 := List.pairwise_map.mp (pk.nodup_iff.mpr nd)
    refine List.pairwise_map.mpr ((pw.and nl2).imp_of_mem fun {a b} ha hb h => ?_)
    obtain ⟨p, hp1, rfl⟩ := mem a ha
    obtain ⟨q, hq1, rfl⟩ := mem b hb
    obtain ⟨x, ex⟩ := hs p hp1
    obtain ⟨y, ey⟩ := hs q hq1
    have h1 : (!befK q.2 p.2) = true := h.1
    have h2 : p.2 ≠ q.2 := h.2
    show befK p.2 q.2 = true
    rw [ex, ey] at h1 h2 ⊢
    rw [bef_flip (fun z => h2 (by rw [z]))] at h1
    simpa using h1
/-- how a list of such pairs is shown -/
theorem datas_say (ls : List NestedKey) (ps : List (Str × Str)) (h : ls = ps.map sayK) : NestedKey.datas ls = ps.map fun p => PyData.tuple [.str p.1, .str p.2] := by
  subst h
  induction ps with
  | nil => simp [NestedKey.datas]
  | cons a l ih => rw [List.map_cons, List.map_cons, NestedKey.datas, ih]; simp [sayK, NestedKey.data, NestedKey.datas]
end My

set_option Elab.async false
set_option linter.all false
set_option maxRecDepth 100000
set_option maxHeartbeats 2000000
namespace L45
open PySem PySem.Spec PyProof.Rows L2 My
def topS (i : Nat) : Stmt := PySem.Challenge.pw_cardsback_k45_let_go_told.main.body.getD i (.Pass ⟨0, 0, 0, 0⟩)
abbrev s_ways_from : Stmt := topS 13
abbrev N_ways_from : List Str := ["some", "a", "ways", "fresh", "further", "name", "way", "saying"]
theorem S_ways_from : FnScope N_ways_from ["some", "a"] (defScope s_ways_from) := ⟨rfl, rfl, rfl, by decide +kernel, rfl, by decide +kernel, by decide +kernel⟩
abbrev s_goes_ahead : Stmt := topS 14
abbrev N_goes_ahead : List Str := ["names", "some", "a", "b"]
theorem S_goes_ahead : FnScope N_goes_ahead ["names", "some", "a", "b"] (defScope s_goes_ahead) := ⟨rfl, rfl, rfl, by decide +kernel, rfl, by decide +kernel, by decide +kernel⟩
abbrev s_any_ring : Stmt := topS 15
abbrev N_any_ring : List Str := ["names", "some", "name", "ring"]
theorem S_any_ring : FnScope N_any_ring ["names", "some"] (defScope s_any_ring) := ⟨rfl, rfl, rfl, by decide +kernel, rfl, by decide +kernel, by decide +kernel⟩
abbrev s_without : Stmt := topS 18
abbrev N_without : List Str := ["some", "gone", "saying"]
theorem S_without : FnScope N_without ["some", "gone"] (defScope s_without) := ⟨rfl, rfl, rfl, by decide +kernel, rfl, by decide +kernel, by decide +kernel⟩
abbrev s_rings_apart : Stmt := topS 19
abbrev N_rings_apart : List Str := ["names", "some", "rings", "ring"]
theorem S_rings_apart : FnScope N_rings_apart ["names", "some"] (defScope s_rings_apart) := ⟨rfl, rfl, rfl, by decide +kernel, rfl, by decide +kernel, by decide +kernel⟩
abbrev s_seek_letting : Stmt := topS 20
abbrev N_seek_letting : List Str := ["names", "left", "more", "rings", "parts", "saying", "word", "told"]
theorem S_seek_letting : FnScope N_seek_letting ["names", "left", "more"] (defScope s_seek_letting) := ⟨rfl, rfl, rfl, by decide +kernel, rfl, by decide +kernel, by decide +kernel⟩
abbrev s_let_go : Stmt := topS 21
abbrev N_let_go : List Str := ["names", "some", "cases", "number", "word", "told"]
theorem S_let_go : FnScope N_let_go ["names", "some"] (defScope s_let_go) := ⟨rfl, rfl, rfl, by decide +kernel, rfl, by decide +kernel, by decide +kernel⟩
abbrev s_first_place : Stmt := topS 23
abbrev N_first_place : List Str := ["things", "is_amiss", "k"]
theorem S_first_place : FnScope N_first_place ["things", "is_amiss"] (defScope s_first_place) := ⟨rfl, rfl, rfl, by decide +kernel, rfl, by decide +kernel, by decide +kernel⟩
abbrev s_ring_fault : Stmt := topS 24
abbrev N_ring_fault : List Str := ["some", "thing", "path", "firsts", "saying"]
theorem S_ring_fault : FnScope N_ring_fault ["some", "thing"] (defScope s_ring_fault) := ⟨rfl, rfl, rfl, by decide +kernel, rfl, by decide +kernel, by decide +kernel⟩
abbrev s_is_ring : Stmt := topS 25
abbrev N_is_ring : List Str := ["some", "thing"]
theorem S_is_ring : FnScope N_is_ring ["some", "thing"] (defScope s_is_ring) := ⟨rfl, rfl, rfl, by decide +kernel, rfl, by decide +kernel, by decide +kernel⟩
abbrev s_first_common : Stmt := topS 27
abbrev N_first_common : List Str := ["rings", "k", "ring", "met", "saying"]
theorem S_first_common : FnScope N_first_common ["rings"] (defScope s_first_common) := ⟨rfl, rfl, rfl, by decide +kernel, rfl, by decide +kernel, by decide +kernel⟩
abbrev s_has_shape : Stmt := topS 29
abbrev N_has_shape : List Str := ["more", "node"]
theorem S_has_shape : FnScope N_has_shape ["more", "node"] (defScope s_has_shape) := ⟨rfl, rfl, rfl, by decide +kernel, rfl, by decide +kernel, by decide +kernel⟩
abbrev s_rings_fault : Stmt := topS 30
abbrev N_rings_fault : List Str := ["left", "more", "rings", "ring"]
theorem S_rings_fault : FnScope N_rings_fault ["left", "more", "rings"] (defScope s_rings_fault) := ⟨rfl, rfl, rfl, by decide +kernel, rfl, by decide +kernel, by decide +kernel⟩
abbrev s_node_fault : Stmt := topS 31
abbrev N_node_fault : List Str := ["left", "more", "node"]
theorem S_node_fault : FnScope N_node_fault ["left", "more", "node"] (defScope s_node_fault) := ⟨rfl, rfl, rfl, by decide +kernel, rfl, by decide +kernel, by decide +kernel⟩
abbrev s_look_at : Stmt := topS 32
abbrev N_look_at : List Str := ["left", "more", "node", "path", "word", "k", "part", "gone", "saying"]
theorem S_look_at : FnScope N_look_at ["left", "more", "node", "path"] (defScope s_look_at) := ⟨rfl, rfl, rfl, by decide +kernel, rfl, by decide +kernel, by decide +kernel⟩
abbrev s_lets_letting : Stmt := topS 33
abbrev N_lets_letting : List Str := ["names", "some", "number", "thing"]
theorem S_lets_letting : FnScope N_lets_letting ["names", "some", "number", "thing"] (defScope s_lets_letting) := ⟨rfl, rfl, rfl, by decide +kernel, rfl, by decide +kernel, by decide +kernel⟩
abbrev s_w_feed : Stmt := topS 35
abbrev N_w_feed : List Str := ["_law_script"]
theorem S_w_feed : FnScope N_w_feed ["_law_script"] (defScope s_w_feed) := ⟨rfl, rfl, rfl, by decide +kernel, rfl, by decide +kernel, by decide +kernel⟩
abbrev s_w_draw : Stmt := topS 36
abbrev N_w_draw : List Str := ["_law_feed_here", "_law_many", "_law_found", "_law_cell", "_law_mixed"]
theorem S_w_draw : FnScope N_w_draw ["_law_feed_here", "_law_many"] (defScope s_w_draw) := ⟨rfl, rfl, rfl, by decide +kernel, rfl, by decide +kernel, by decide +kernel⟩
abbrev s_w_names : Stmt := topS 37
abbrev N_w_names : List Str := ["_law_feed_here", "_law_many", "_law_letters", "_law_k", "_law_figs", "_law_pool", "_law_head", "_law_mark"]
theorem S_w_names : FnScope N_w_names ["_law_feed_here", "_law_many"] (defScope s_w_names) := ⟨rfl, rfl, rfl, by decide +kernel, rfl, by decide +kernel, by decide +kernel⟩
abbrev s_w_along : Stmt := topS 38
abbrev N_w_along : List Str := ["_law_order", "_law_found", "_law_k", "_law_other"]
theorem S_w_along : FnScope N_w_along ["_law_order"] (defScope s_w_along) := ⟨rfl, rfl, rfl, by decide +kernel, rfl, by decide +kernel, by decide +kernel⟩
abbrev s_w_turned : Stmt := topS 39
abbrev N_w_turned : List Str := ["_law_feed_here", "_law_names_here", "_law_held", "_law_name"]
theorem S_w_turned : FnScope N_w_turned ["_law_feed_here", "_law_names_here"] (defScope s_w_turned) := ⟨rfl, rfl, rfl, by decide +kernel, rfl, by decide +kernel, by decide +kernel⟩
abbrev s_w_sayings : Stmt := topS 40
abbrev N_w_sayings : List Str := ["_law_feed_here", "_law_names_here", "_law_most", "_law_way", "_law_along_here", "_law_some", "_law_many", "_law_found", "_law_turn", "_law_pair", "_law_k"]
theorem S_w_sayings : FnScope N_w_sayings ["_law_feed_here", "_law_names_here", "_law_most"] (defScope s_w_sayings) := ⟨rfl, rfl, rfl, by decide +kernel, rfl, by decide +kernel, by decide +kernel⟩
abbrev s_w_core : Stmt := topS 41
abbrev N_w_core : List Str := ["_law_some", "_law_held", "_law_former", "_law_other", "_law_pair"]
theorem S_w_core : FnScope N_w_core ["_law_some"] (defScope s_w_core) := ⟨rfl, rfl, rfl, by decide +kernel, rfl, by decide +kernel, by decide +kernel⟩
abbrev s_w_sets : Stmt := topS 42
abbrev N_w_sets : List Str := ["_law_some", "_law_many", "_law_found", "_law_turn", "_law_longer", "_law_row", "_law_begin", "_law_pair"]
theorem S_w_sets : FnScope N_w_sets ["_law_some", "_law_many"] (defScope s_w_sets) := ⟨rfl, rfl, rfl, by decide +kernel, rfl, by decide +kernel, by decide +kernel⟩
abbrev s_w_fewest : Stmt := topS 43
abbrev N_w_fewest : List Str := ["_law_some", "_law_many", "_law_gone", "_law_pair"]
theorem S_w_fewest : FnScope N_w_fewest ["_law_some"] (defScope s_w_fewest) := ⟨rfl, rfl, rfl, by decide +kernel, rfl, by decide +kernel, by decide +kernel⟩
abbrev s_w_knotted : Stmt := topS 44
abbrev N_w_knotted : List Str := ["_law_feed_here", "_law_way", "_law_names_here", "_law_order", "_law_some", "_law_k", "_law_along_here"]
theorem S_w_knotted : FnScope N_w_knotted ["_law_feed_here"] (defScope s_w_knotted) := ⟨rfl, rfl, rfl, by decide +kernel, rfl, by decide +kernel, by decide +kernel⟩
abbrev s_w_told : Stmt := topS 45
abbrev N_w_told : List Str := ["_law_names_here", "_law_some", "_law_found", "e", "_law_others"]
theorem S_w_told : FnScope N_w_told ["_law_names_here", "_law_some"] (defScope s_w_told) := ⟨rfl, rfl, rfl, by decide +kernel, rfl, by decide +kernel, by decide +kernel⟩
abbrev s_w_let : Stmt := topS 46
abbrev N_w_let : List Str := ["_law_names_here", "_law_some", "_law_number", "_law_thing", "_law_found"]
theorem S_w_let : FnScope N_w_let ["_law_names_here", "_law_some", "_law_number", "_law_thing"] (defScope s_w_let) := ⟨rfl, rfl, rfl, by decide +kernel, rfl, by decide +kernel, by decide +kernel⟩
abbrev s_w_right : Stmt := topS 47
abbrev N_w_right : List Str := ["_law_names_here", "_law_some", "_law_due", "_law_told_here", "_law_gone", "_law_cases", "_law_pair"]
theorem S_w_right : FnScope N_w_right ["_law_names_here", "_law_some", "_law_due"] (defScope s_w_right) := ⟨rfl, rfl, rfl, by decide +kernel, rfl, by decide +kernel, by decide +kernel⟩
abbrev s_law : Stmt := topS 48
abbrev N_law : List Str := ["_law_script", "_law_feed_here", "_law_cases", "_law_names_here", "_law_some", "_law_owed", "_law_at", "_law_kept", "_law_turn"]
theorem S_law : FnScope N_law ["_law_script"] (defScope s_law) := ⟨rfl, rfl, rfl, by decide +kernel, rfl, by decide +kernel, by decide +kernel⟩
def clsS (i j : Nat) : Stmt := match topS i with | .ClassDef _ _ _ b _ _ _ _ _ _ _ => b.getD j (.Pass ⟨0, 0, 0, 0⟩) | _ => .Pass ⟨0, 0, 0, 0⟩
abbrev s_NoPaper : Stmt := clsS 2 0
abbrev N_NoPaper : List Str := ["self", "word", "path"]
theorem S_NoPaper : FnScope N_NoPaper ["self", "word", "path"] (defScope s_NoPaper) := ⟨rfl, rfl, rfl, by decide +kernel, rfl, by decide +kernel, by decide +kernel⟩
abbrev s_NoHouse : Stmt := clsS 3 0
abbrev N_NoHouse : List Str := ["self", "name"]
theorem S_NoHouse : FnScope N_NoHouse ["self", "name"] (defScope s_NoHouse) := ⟨rfl, rfl, rfl, by decide +kernel, rfl, by decide +kernel, by decide +kernel⟩
abbrev s_NoPage : Stmt := clsS 4 0
abbrev N_NoPage : List Str := ["self", "page"]
theorem S_NoPage : FnScope N_NoPage ["self", "page"] (defScope s_NoPage) := ⟨rfl, rfl, rfl, by decide +kernel, rfl, by decide +kernel, by decide +kernel⟩
abbrev s_NoCrowd : Stmt := clsS 5 0
abbrev N_NoCrowd : List Str := ["self", "names"]
theorem S_NoCrowd : FnScope N_NoCrowd ["self", "names"] (defScope s_NoCrowd) := ⟨rfl, rfl, rfl, by decide +kernel, rfl, by decide +kernel, by decide +kernel⟩
abbrev s_NoOrder : Stmt := clsS 6 0
abbrev N_NoOrder : List Str := ["self", "ring"]
theorem S_NoOrder : FnScope N_NoOrder ["self", "ring"] (defScope s_NoOrder) := ⟨rfl, rfl, rfl, by decide +kernel, rfl, by decide +kernel, by decide +kernel⟩
abbrev s_NoDue : Stmt := clsS 7 0
abbrev N_NoDue : List Str := ["self", "due"]
theorem S_NoDue : FnScope N_NoDue ["self", "due"] (defScope s_NoDue) := ⟨rfl, rfl, rfl, by decide +kernel, rfl, by decide +kernel, by decide +kernel⟩
abbrev s_TooMany : Stmt := clsS 8 0
abbrev N_TooMany : List Str := ["self", "word"]
theorem S_TooMany : FnScope N_TooMany ["self", "word"] (defScope s_TooMany) := ⟨rfl, rfl, rfl, by decide +kernel, rfl, by decide +kernel, by decide +kernel⟩
abbrev s_NoText : Stmt := clsS 10 0
abbrev N_NoText : List Str := ["self", "row", "word"]
theorem S_NoText : FnScope N_NoText ["self", "row", "word"] (defScope s_NoText) := ⟨rfl, rfl, rfl, by decide +kernel, rfl, by decide +kernel, by decide +kernel⟩
abbrev s_NoRow : Stmt := clsS 11 0
abbrev N_NoRow : List Str := ["self", "row"]
theorem S_NoRow : FnScope N_NoRow ["self", "row"] (defScope s_NoRow) := ⟨rfl, rfl, rfl, by decide +kernel, rfl, by decide +kernel, by decide +kernel⟩
structure Tx (K : PySem.W.Frag) (mg : Str → Option Value) where
  f_ways_from : Addr
  d_ways_from : FuncData
  F_ways_from : Fun K "ways_from" "ways_from" s_ways_from f_ways_from d_ways_from
  g_ways_from : mg "ways_from" = some (.ref f_ways_from)
  b_ways_from : Binds K d_ways_from ["some", "a"] []
  f_goes_ahead : Addr
  d_goes_ahead : FuncData
  F_goes_ahead : Fun K "goes_ahead" "goes_ahead" s_goes_ahead f_goes_ahead d_goes_ahead
  g_goes_ahead : mg "goes_ahead" = some (.ref f_goes_ahead)
  b_goes_ahead : Binds K d_goes_ahead ["names", "some", "a", "b"] []
  f_any_ring : Addr
  d_any_ring : FuncData
  F_any_ring : Fun K "any_ring" "any_ring" s_any_ring f_any_ring d_any_ring
  g_any_ring : mg "any_ring" = some (.ref f_any_ring)
  b_any_ring : Binds K d_any_ring ["names", "some"] []
  f_without : Addr
  d_without : FuncData
  k_without : Addr
  P_without : Addr
  F_without : GE.FunC K "without" "without" s_without f_without d_without k_without
  g_without : mg "without" = some (.ref f_without)
  b_without : Binds K d_without ["some", "gone"] []
  f_rings_apart : Addr
  d_rings_apart : FuncData
  F_rings_apart : Fun K "rings_apart" "rings_apart" s_rings_apart f_rings_apart d_rings_apart
  g_rings_apart : mg "rings_apart" = some (.ref f_rings_apart)
  b_rings_apart : Binds K d_rings_apart ["names", "some"] []
  f_seek_letting : Addr
  d_seek_letting : FuncData
  F_seek_letting : Fun K "seek_letting" "seek_letting" s_seek_letting f_seek_letting d_seek_letting
  g_seek_letting : mg "seek_letting" = some (.ref f_seek_letting)
  b_seek_letting : Binds K d_seek_letting ["names", "left", "more"] []
  f_let_go : Addr
  d_let_go : FuncData
  F_let_go : Fun K "let_go" "let_go" s_let_go f_let_go d_let_go
  g_let_go : mg "let_go" = some (.ref f_let_go)
  b_let_go : Binds K d_let_go ["names", "some"] []
  f_first_place : Addr
  d_first_place : FuncData
  F_first_place : Fun K "first_place" "first_place" s_first_place f_first_place d_first_place
  g_first_place : mg "first_place" = some (.ref f_first_place)
  b_first_place : Binds K d_first_place ["things", "is_amiss"] []
  f_ring_fault : Addr
  d_ring_fault : FuncData
  k_ring_fault : Addr
  P_ring_fault : Addr
  F_ring_fault : GE.FunC K "ring_fault" "ring_fault" s_ring_fault f_ring_fault d_ring_fault k_ring_fault
  g_ring_fault : mg "ring_fault" = some (.ref f_ring_fault)
  b_ring_fault : Binds K d_ring_fault ["some", "thing"] []
  f_is_ring : Addr
  d_is_ring : FuncData
  F_is_ring : Fun K "is_ring" "is_ring" s_is_ring f_is_ring d_is_ring
  g_is_ring : mg "is_ring" = some (.ref f_is_ring)
  b_is_ring : Binds K d_is_ring ["some", "thing"] []
  f_first_common : Addr
  d_first_common : FuncData
  k_first_common : Addr
  P_first_common : Addr
  F_first_common : GE.FunC K "first_common" "first_common" s_first_common f_first_common d_first_common k_first_common
  g_first_common : mg "first_common" = some (.ref f_first_common)
  b_first_common : Binds K d_first_common ["rings"] []
  f_has_shape : Addr
  d_has_shape : FuncData
  F_has_shape : Fun K "has_shape" "has_shape" s_has_shape f_has_shape d_has_shape
  g_has_shape : mg "has_shape" = some (.ref f_has_shape)
  b_has_shape : Binds K d_has_shape ["more", "node"] []
  f_rings_fault : Addr
  d_rings_fault : FuncData
  k_rings_fault : Addr
  P_rings_fault : Addr
  F_rings_fault : GE.FunC K "rings_fault" "rings_fault" s_rings_fault f_rings_fault d_rings_fault k_rings_fault
  g_rings_fault : mg "rings_fault" = some (.ref f_rings_fault)
  b_rings_fault : Binds K d_rings_fault ["left", "more", "rings"] []
  f_node_fault : Addr
  d_node_fault : FuncData
  F_node_fault : Fun K "node_fault" "node_fault" s_node_fault f_node_fault d_node_fault
  g_node_fault : mg "node_fault" = some (.ref f_node_fault)
  b_node_fault : Binds K d_node_fault ["left", "more", "node"] []
  f_look_at : Addr
  d_look_at : FuncData
  k_look_at : Addr
  P_look_at : Addr
  F_look_at : GE.FunC K "look_at" "look_at" s_look_at f_look_at d_look_at k_look_at
  g_look_at : mg "look_at" = some (.ref f_look_at)
  b_look_at : Binds K d_look_at ["left", "more", "node", "path"] []
  f_lets_letting : Addr
  d_lets_letting : FuncData
  F_lets_letting : Fun K "lets_letting" "lets_letting" s_lets_letting f_lets_letting d_lets_letting
  g_lets_letting : mg "lets_letting" = some (.ref f_lets_letting)
  b_lets_letting : Binds K d_lets_letting ["names", "some", "number", "thing"] []
  f_w_feed : Addr
  d_w_feed : FuncData
  F_w_feed : Fun K "_law_feed" "_law_feed" s_w_feed f_w_feed d_w_feed
  g_w_feed : mg "_law_feed" = some (.ref f_w_feed)
  b_w_feed : Binds K d_w_feed ["_law_script"] []
  f_w_draw : Addr
  d_w_draw : FuncData
  F_w_draw : Fun K "_law_draw" "_law_draw" s_w_draw f_w_draw d_w_draw
  g_w_draw : mg "_law_draw" = some (.ref f_w_draw)
  b_w_draw : Binds K d_w_draw ["_law_feed_here", "_law_many"] []
  f_w_names : Addr
  d_w_names : FuncData
  F_w_names : Fun K "_law_names" "_law_names" s_w_names f_w_names d_w_names
  g_w_names : mg "_law_names" = some (.ref f_w_names)
  b_w_names : Binds K d_w_names ["_law_feed_here", "_law_many"] []
  f_w_along : Addr
  d_w_along : FuncData
  F_w_along : Fun K "_law_along" "_law_along" s_w_along f_w_along d_w_along
  g_w_along : mg "_law_along" = some (.ref f_w_along)
  b_w_along : Binds K d_w_along ["_law_order"] []
  f_w_turned : Addr
  d_w_turned : FuncData
  F_w_turned : Fun K "_law_turned" "_law_turned" s_w_turned f_w_turned d_w_turned
  g_w_turned : mg "_law_turned" = some (.ref f_w_turned)
  b_w_turned : Binds K d_w_turned ["_law_feed_here", "_law_names_here"] []
  f_w_sayings : Addr
  d_w_sayings : FuncData
  F_w_sayings : Fun K "_law_sayings" "_law_sayings" s_w_sayings f_w_sayings d_w_sayings
  g_w_sayings : mg "_law_sayings" = some (.ref f_w_sayings)
  b_w_sayings : Binds K d_w_sayings ["_law_feed_here", "_law_names_here", "_law_most"] []
  f_w_core : Addr
  d_w_core : FuncData
  F_w_core : Fun K "_law_core" "_law_core" s_w_core f_w_core d_w_core
  g_w_core : mg "_law_core" = some (.ref f_w_core)
  b_w_core : Binds K d_w_core ["_law_some"] []
  f_w_sets : Addr
  d_w_sets : FuncData
  F_w_sets : Fun K "_law_sets" "_law_sets" s_w_sets f_w_sets d_w_sets
  g_w_sets : mg "_law_sets" = some (.ref f_w_sets)
  b_w_sets : Binds K d_w_sets ["_law_some", "_law_many"] []
  f_w_fewest : Addr
  d_w_fewest : FuncData
  F_w_fewest : Fun K "_law_fewest" "_law_fewest" s_w_fewest f_w_fewest d_w_fewest
  g_w_fewest : mg "_law_fewest" = some (.ref f_w_fewest)
  b_w_fewest : Binds K d_w_fewest ["_law_some"] []
  f_w_knotted : Addr
  d_w_knotted : FuncData
  F_w_knotted : Fun K "_law_knotted" "_law_knotted" s_w_knotted f_w_knotted d_w_knotted
  g_w_knotted : mg "_law_knotted" = some (.ref f_w_knotted)
  b_w_knotted : Binds K d_w_knotted ["_law_feed_here"] []
  f_w_told : Addr
  d_w_told : FuncData
  F_w_told : Fun K "_law_told" "_law_told" s_w_told f_w_told d_w_told
  g_w_told : mg "_law_told" = some (.ref f_w_told)
  b_w_told : Binds K d_w_told ["_law_names_here", "_law_some"] []
  f_w_let : Addr
  d_w_let : FuncData
  F_w_let : Fun K "_law_let" "_law_let" s_w_let f_w_let d_w_let
  g_w_let : mg "_law_let" = some (.ref f_w_let)
  b_w_let : Binds K d_w_let ["_law_names_here", "_law_some", "_law_number", "_law_thing"] []
  f_w_right : Addr
  d_w_right : FuncData
  F_w_right : Fun K "_law_right" "_law_right" s_w_right f_w_right d_w_right
  g_w_right : mg "_law_right" = some (.ref f_w_right)
  b_w_right : Binds K d_w_right ["_law_names_here", "_law_some", "_law_due"] []
  f_law : Addr
  d_law : FuncData
  F_law : Fun K "law" "law" s_law f_law d_law
  g_law : mg "law" = some (.ref f_law)
  b_law : Binds K d_law ["_law_script"] []
  t_MOST_GONE : Tok
  c_MOST_GONE : mg "MOST_GONE" = some (.int 3 t_MOST_GONE)
  m_ValueError : mg "ValueError" = none
  m_all : mg "all" = none
  m_any : mg "any" = none
  m_enumerate : mg "enumerate" = none
  m_isinstance : mg "isinstance" = none
  m_len : mg "len" = none
  m_list : mg "list" = none
  m_max : mg "max" = none
  m_min : mg "min" = none
  m_range : mg "range" = none
  m_repr : mg "repr" = none
  m_set : mg "set" = none
  m_sorted : mg "sorted" = none
  m_tuple : mg "tuple" = none
  C_CardsError : Addr
  gC_CardsError : mg "CardsError" = some (.ref C_CardsError)
  C_NoPaper : Addr
  gC_NoPaper : mg "NoPaper" = some (.ref C_NoPaper)
  f_NoPaper : Addr
  d_NoPaper : FuncData
  F_NoPaper : Fun K "__init__" "NoPaper.__init__" s_NoPaper f_NoPaper d_NoPaper
  bi_NoPaper : Binds K d_NoPaper ["self", "word", "path"] []
  oex_NoPaper : OexC K C_NoPaper
  xf_NoPaper : XfC K C_NoPaper
  ic_NoPaper : PySem.W.findIn K (.ref C_NoPaper) "__init__" = some (some (.ref f_NoPaper))
  ti_NoPaper : PySem.W.typeIn K (.ref f_NoPaper) = some (.type "function")
  no_NoPaper_word : PySem.W.findIn K (.ref C_NoPaper) "word" = some none
  no_NoPaper_path : PySem.W.findIn K (.ref C_NoPaper) "path" = some none
  kv_NoPaper : PySem.W.kitOne K (.ref C_NoPaper) (.type "ValueError") = some true
  ks_NoPaper : PySem.W.kitOne K (.ref C_NoPaper) (.ref C_NoPaper) = some true
  te_NoPaper : PySem.W.exmOne K (.ref C_NoPaper) (.ref C_CardsError) = some true
  tm_NoPaper : PySem.W.exmOne K (.ref C_NoPaper) (.ref C_NoPaper) = some true
  ec_NoPaper : ExcC K C_NoPaper
  C_NoHouse : Addr
  gC_NoHouse : mg "NoHouse" = some (.ref C_NoHouse)
  C_NoPage : Addr
  gC_NoPage : mg "NoPage" = some (.ref C_NoPage)
  C_NoCrowd : Addr
  gC_NoCrowd : mg "NoCrowd" = some (.ref C_NoCrowd)
  C_NoOrder : Addr
  gC_NoOrder : mg "NoOrder" = some (.ref C_NoOrder)
  C_NoDue : Addr
  gC_NoDue : mg "NoDue" = some (.ref C_NoDue)
  C_TooMany : Addr
  gC_TooMany : mg "TooMany" = some (.ref C_TooMany)
  f_TooMany : Addr
  d_TooMany : FuncData
  F_TooMany : Fun K "__init__" "TooMany.__init__" s_TooMany f_TooMany d_TooMany
  bi_TooMany : Binds K d_TooMany ["self", "word"] []
  oex_TooMany : OexC K C_TooMany
  xf_TooMany : XfC K C_TooMany
  ic_TooMany : PySem.W.findIn K (.ref C_TooMany) "__init__" = some (some (.ref f_TooMany))
  ti_TooMany : PySem.W.typeIn K (.ref f_TooMany) = some (.type "function")
  no_TooMany_word : PySem.W.findIn K (.ref C_TooMany) "word" = some none
  kv_TooMany : PySem.W.kitOne K (.ref C_TooMany) (.type "ValueError") = some true
  ks_TooMany : PySem.W.kitOne K (.ref C_TooMany) (.ref C_TooMany) = some true
  te_TooMany : PySem.W.exmOne K (.ref C_TooMany) (.ref C_CardsError) = some true
  ec_TooMany : ExcC K C_TooMany
  C_NoBack : Addr
  gC_NoBack : mg "NoBack" = some (.ref C_NoBack)
  C_NoText : Addr
  gC_NoText : mg "NoText" = some (.ref C_NoText)
  C_NoRow : Addr
  gC_NoRow : mg "NoRow" = some (.ref C_NoRow)
  kt_NoPaper_NoBack : PySem.W.kitOne K (.ref C_NoPaper) (.ref C_NoBack) = some false
  kt_NoPaper_NoCrowd : PySem.W.kitOne K (.ref C_NoPaper) (.ref C_NoCrowd) = some false
  kt_NoPaper_NoDue : PySem.W.kitOne K (.ref C_NoPaper) (.ref C_NoDue) = some false
  kt_NoPaper_NoHouse : PySem.W.kitOne K (.ref C_NoPaper) (.ref C_NoHouse) = some false
  kt_NoPaper_NoOrder : PySem.W.kitOne K (.ref C_NoPaper) (.ref C_NoOrder) = some false
  kt_NoPaper_NoPage : PySem.W.kitOne K (.ref C_NoPaper) (.ref C_NoPage) = some false
  kt_NoPaper_NoPaper : PySem.W.kitOne K (.ref C_NoPaper) (.ref C_NoPaper) = some true
  kt_NoPaper_NoRow : PySem.W.kitOne K (.ref C_NoPaper) (.ref C_NoRow) = some false
  kt_NoPaper_NoText : PySem.W.kitOne K (.ref C_NoPaper) (.ref C_NoText) = some false
  kt_NoPaper_TooMany : PySem.W.kitOne K (.ref C_NoPaper) (.ref C_TooMany) = some false
  kt_TooMany_NoBack : PySem.W.kitOne K (.ref C_TooMany) (.ref C_NoBack) = some false
  kt_TooMany_NoCrowd : PySem.W.kitOne K (.ref C_TooMany) (.ref C_NoCrowd) = some false
  kt_TooMany_NoDue : PySem.W.kitOne K (.ref C_TooMany) (.ref C_NoDue) = some false
  kt_TooMany_NoHouse : PySem.W.kitOne K (.ref C_TooMany) (.ref C_NoHouse) = some false
  kt_TooMany_NoOrder : PySem.W.kitOne K (.ref C_TooMany) (.ref C_NoOrder) = some false
  kt_TooMany_NoPage : PySem.W.kitOne K (.ref C_TooMany) (.ref C_NoPage) = some false
  kt_TooMany_NoPaper : PySem.W.kitOne K (.ref C_TooMany) (.ref C_NoPaper) = some false
  kt_TooMany_NoRow : PySem.W.kitOne K (.ref C_TooMany) (.ref C_NoRow) = some false
  kt_TooMany_NoText : PySem.W.kitOne K (.ref C_TooMany) (.ref C_NoText) = some false
  kt_TooMany_TooMany : PySem.W.kitOne K (.ref C_TooMany) (.ref C_TooMany) = some true
structure Tb {K : PySem.W.Frag} {mg : Str → Option Value} (T : Tx K mg) (base : Heap) : Prop where
  b_without : GxR.TabB base mg T.k_without T.P_without
  b_ring_fault : GxR.TabB base mg T.k_ring_fault T.P_ring_fault
  b_first_common : GxR.TabB base mg T.k_first_common T.P_first_common
  b_rings_fault : GxR.TabB base mg T.k_rings_fault T.P_rings_fault
  b_look_at : GxR.TabB base mg T.k_look_at T.P_look_at
/-- the tables of the codes that have some -/
def tbs {K : PySem.W.Frag} {mg : Str → Option Value} (T : Tx K mg) : LT.TL := ⟨[T.P_without, T.P_first_common, T.P_rings_fault, T.P_look_at], [(T.P_ring_fault, ("ring_fault" : Str) ++ (".<locals>." : Str) ++ ("<lambda>" : Str))]⟩
section
variable {P : Program} {w : World} {K : PySem.W.Frag} {mg : Str → Option Value} {base : Heap}
/-- the feed: a list of the cells' list and three numbers -/
def fd4 (c : Addr) (sp re ca : Int) : List V := [.ref c, .int sp, .int re, .int ca]
def FeedC (H : Hp) (t c : Addr) (n : Nat) : Prop := ∃ (ns : List Int) (sp re ca : Int),
  H t = some (.lst (fd4 c sp re ca)) ∧ H c = some (.lst (ns.map V.int)) ∧ ns.length ≤ 63 ∧ 0 ≤ sp ∧ 0 ≤ re ∧ 0 ≤ ca ∧ ca ≤ n ∧ c ≠ t
theorem FeedC.updO {H : Hp} {t c b : Addr} {n : Nat} {o : HO} (h : FeedC H t c n) (h1 : b ≠ t) (h2 : b ≠ c) : FeedC (upd H b o) t c n := by
  obtain ⟨ns, sp, re, ca, e1, e2, r⟩ := h
  exact ⟨ns, sp, re, ca, by rw [upd_ne h1.symm]; exact e1, by rw [upd_ne h2.symm]; exact e2, r⟩
theorem FeedC.ne {H : Hp} {t c p : Addr} {n : Nat} (h : FeedC H t c n) (hp : H p = none) : p ≠ t ∧ p ≠ c := by
  obtain ⟨ns, sp, re, ca, e1, e2, _⟩ := h
  refine ⟨fun z => ?_, fun z => ?_⟩
  · rw [z, e1] at hp
    cases hp
  · rw [z, e2] at hp
    cases hp
theorem FeedC.same {H H' : Hp} {t c : Addr} {n : Nat} (h : FeedC H t c n) (s : Same H H') : FeedC H' t c n := by
  obtain ⟨ns, sp, re, ca, h1, h2, h3⟩ := h
  exact ⟨ns, sp, re, ca, s _ _ h1, s _ _ h2, h3⟩
theorem FeedC.new {H : Hp} {t c p : Addr} {o : HO} {n : Nat} (h : FeedC H t c n) (hp : H p = none) : FeedC (upd H p o) t c n := h.same (same_upd hp)
theorem FeedC.gk {Ts : List Addr} {H H' : Hp} {t c : Addr} {n : Nat} (h : FeedC H t c n) (k : Gk Ts H H') : FeedC H' t c n := by
  obtain ⟨ns, sp, re, ca, h1, h2, h3⟩ := h
  exact ⟨ns, sp, re, ca, k.1 _ _ h1 (fun ps z => by cases z), k.1 _ _ h2 (fun ps z => by cases z), h3⟩
theorem FeedC.mono {H : Hp} {t c : Addr} {n m : Nat} (h : FeedC H t c n) (le : n ≤ m) : FeedC H t c m := by
  obtain ⟨ns, sp, re, ca, h1, h2, h3, h4, h5, h6, h7, h8⟩ := h
  exact ⟨ns, sp, re, ca, h1, h2, h3, h4, h5, h6, by omega, h8⟩
theorem kp_fresh {H H1 : Hp} {t p : Addr} {o : HO} (hp : H p = none) (k : Kp t H H1) : Kp t H (upd H1 p o) := fun b x n h => by
  rw [upd_ne (ne_of_none h hp)]
  exact k b x n h
theorem kp_none {H H1 : Hp} {t p : Addr} (k : Kp t H H1) (hp : H1 p = none) (n : p ≠ t) : H p = none := by
  cases e : H p with
  | none => rfl
  | some o =>
    have := k p o n e
    rw [hp] at this
    cases this
def spFeed (K : PySem.W.Frag) : Sp := fun vs H Q _ => ∃ (a : Addr) (ns : List Int), vs = [.ref a] ∧ SqL K H a (ns.map V.int) ∧
  ∀ t c H', Same H H' → H t = none → FeedC H' t c 0 → Q (.ref t) H'
theorem ok_feed (T : Tx K mg) : FnOk P w K mg base CX0 1 T.f_w_feed T.d_w_feed ["_law_script"] (spFeed K) := by
  refine T.F_w_feed.ok S_w_feed (fun vs H Q E h => ?_) (fun cdv A outer s H vs Q E hr h => ?_)
  · obtain ⟨a, ns, rfl, _⟩ := h
    rfl
  · obtain ⟨a, ns, rfl, hS, q⟩ := h
    refine ⟨_, (pss_one (ps_ret (pe_lst (pa_cons (pe_slice sl_list (pv 0) po_none (po_some pe_int)) (pa_cons pe_int (pa_cons pe_int (pa_cons pe_int pa_nil))))))), ?_⟩
    refine ⟨_, rfl, _, rfl, a, _, rfl, hS, fun c nc => ?_⟩
    have s1 := same_upd (o := .lst (cutV (ns.map V.int) none (some 63))) nc
    refine ⟨sz (by show 4 ≤ 1000; decide), fun t nt => ?_⟩
    have s2 := same_upd (o := .lst (fd4 c 0 0 0)) nt
    have hct : c ≠ t := ne_of_none (upd_same (H := H) (a := c) (o := .lst (cutV (ns.map V.int) none (some 63)))) nt
    refine q t c _ (s1.trans s2) (upd_free nt).2 ⟨ns.take 63, 0, 0, 0, upd_same, ?_, ?_, by decide, by decide, by decide, by decide, hct⟩
    · rw [upd_ne hct, upd_same]
      congr 2
      unfold cutV
      rw [HT.sIx_none, show HT.sIx (ns.map V.int).length (ns.map V.int).length (some 63) = min 63 (ns.map V.int).length from HT.sIx_nat _ _ 63]
      simp only [List.drop_zero, Nat.sub_zero, List.length_map, ← List.map_take]
      congr 1
      rw [← List.take_take]
      simp
    · rw [List.length_take]
      omega
theorem pow5c (y c : Int) (h0 : 0 ≤ c) (h1 : c ≤ 1000001) : CPow (y % 2147483647 + 104729 * c) 5 := by
  have := Int.emod_nonneg y (show (2147483647 : Int) ≠ 0 by decide)
  have := Int.emod_lt_of_pos y (show (0 : Int) < 2147483647 by decide)
  exact ⟨by decide, by decide, by omega⟩
def spDraw : Sp := fun vs H Q _ => ∃ (t : Addr) (m : Int) (n : Nat) (c : Addr), vs = [.ref t, .int m] ∧ 0 < m ∧ m < 1000000 ∧ FeedC H t c n ∧ n < 1000000 ∧
  ∀ v H', 0 ≤ v → v < m → FeedC H' t c (n + 1) → Kp t H H' → Q (.int v) H'
theorem ok_draw (T : Tx K mg) : FnOk P w K mg base CX0 1 T.f_w_draw T.d_w_draw ["_law_feed_here", "_law_many"] (spDraw) := by
  refine T.F_w_draw.ok S_w_draw (fun vs H Q E h => ?_) (fun cdv A outer s H vs Q E hr h => ?_)
  · obtain ⟨t, m, n, c, rfl, _⟩ := h
    rfl
  · obtain ⟨t, m, n, c, rfl, m0, m1, ⟨ns, sp, re, ca, hT, hC, hn, sp0, re0, ca0, ca1, hct⟩, n1, q⟩ := h
    refine ⟨_, (pss_cons (ps_asg (pe_op op_add (pe_ix ix_list (pv 0) pe_int (fun _ _ => rfl)) pe_int) (pg_sub (pv 0) pe_int set_list))
      (pss_cons (ps_if (pt_cmpR op_gt (pe_ix ix_list (pv 0) pe_int (fun _ _ => rfl)) pe_int (nomark _)) (pss_cons (ps_set (i := 2) S_w_draw.nd rfl (.inl rfl) (pe_op op_mod (pe_ix ix_list (pv 0) pe_int (fun _ _ => rfl)) (pv 1)))
      (pss_cons (ps_asg (pe_op op_fdiv (pe_ix ix_list (pv 0) pe_int (fun _ _ => rfl)) (pv 1)) (pg_sub (pv 0) pe_int set_list))
      (pss_one (ps_ret (pv 2))))) pss_nil)
      (pss_cons (ps_set (i := 3) S_w_draw.nd rfl (.inl rfl) pe_int)
      (pss_cons (ps_if (pt_cmpR (op_neE (hu_of hr)) (pe_ix ix_list (pv 0) pe_int (fun _ _ => rfl)) (pe_lst pa_nil) (nomark _)) (pss_one (ps_set (i := 3) S_w_draw.nd rfl (.inl rfl) (pe_ix ix_list (pe_ix ix_list (pv 0) pe_int (fun _ _ => rfl)) (pe_op op_mod (pe_ix ix_list (pv 0) pe_int (fun _ _ => rfl)) (pe_callB call_len_seq (by rfl) T.m_len PySem.boot_len (pa_cons (pe_ix ix_list (pv 0) pe_int (fun _ _ => rfl)) pa_nil))) (fun _ _ => rfl)))) pss_nil)
      (pss_cons (ps_asg (pe_op op_add (pe_ix ix_list (pv 0) pe_int (fun _ _ => rfl)) pe_int) (pg_sub (pv 0) pe_int set_list))
      (pss_cons (ps_if (PW.pt (pw_and (pt_cmpR op_ge (pv 3) (pe_op op_pow pe_int pe_int) (nomark _)) (pw_and1 (pt_cmpR op_le (pe_ix ix_list (pv 0) pe_int (fun _ _ => rfl)) (pe_callB call_len_seq (by rfl) T.m_len PySem.boot_len (pa_cons (pe_ix ix_list (pv 0) pe_int (fun _ _ => rfl)) pa_nil)) (nomark _))))) (pss_cons (ps_asg (pe_op op_fdiv (pv 3) (pv 1)) (pg_sub (pv 0) pe_int set_list))
      (pss_one (ps_ret (pe_op op_mod (pv 3) (pv 1))))) pss_nil)
      (pss_cons (ps_set (i := 4) S_w_draw.nd rfl (.inl rfl) (pe_op op_mod (pe_op op_pow (pe_op op_add (pe_op op_add (pe_op op_mod (pv 3) pe_int) (pe_op op_mul pe_int (pe_ix ix_list (pv 0) pe_int (fun _ _ => rfl)))) pe_int) pe_int) pe_int))
      (pss_one (ps_ret (pe_op op_mod (pe_op op_fdiv (pe_op op_mod (pe_op op_pow (pe_op op_add (pv 4) (pe_op op_mul pe_int (pe_ix ix_list (pv 0) pe_int (fun _ _ => rfl)))) pe_int) pe_int) pe_int) (pv 1))))))))))), ?_⟩
    have a3 : ∀ sp re ca : Int, atI (fd4 c sp re ca) 3 = some (.int ca) := fun _ _ _ => rfl
    have a2 : ∀ sp re ca : Int, atI (fd4 c sp re ca) 2 = some (.int re) := fun _ _ _ => rfl
    have a1 : ∀ sp re ca : Int, atI (fd4 c sp re ca) 1 = some (.int sp) := fun _ _ _ => rfl
    have a0 : ∀ sp re ca : Int, atI (fd4 c sp re ca) 0 = some (.ref c) := fun _ _ _ => rfl
    refine ⟨_, rfl, t, _, 3, _, rfl, rfl, .inl (.inl hT), a3 _ _ _, ca, 1, rfl, rfl, ?_⟩
    refine ⟨.ref t, rfl, t, _, 3, 3, rfl, rfl, hT, rfl, ?_⟩
    have hT1 := upd_same (H := H) (a := t) (o := .lst (fd4 c sp re (ca + 1)))
    have hC1 : upd H t (.lst (fd4 c sp re (ca + 1))) c = some (.lst (ns.map V.int)) := by
      rw [upd_ne hct]
      exact hC
    have hK1 : Kp t H (upd H t (.lst (fd4 c sp re (ca + 1)))) := (Kp.refl t H).own
    show tSeq _ _ _ _ (upd H t (.lst (fd4 c sp re (ca + 1))))
    generalize upd H t (.lst (fd4 c sp re (ca + 1))) = H1 at hT1 hC1 hK1 ⊢
    refine ⟨.ref t, rfl, t, _, 2, _, rfl, rfl, .inl (.inl hT1), a2 _ _ _, re, 0, rfl, rfl, _, rfl, ite2 (fun e => ?_) (fun e => ?_)⟩
    · have e : re > 0 := of_decide_eq_true e
      refine ⟨.ref t, rfl, t, _, 2, _, rfl, rfl, .inl (.inl hT1), a2 _ _ _, _, rfl, re, m, rfl, rfl, m0, ?_⟩
      refine ⟨.ref t, rfl, t, _, 2, _, rfl, rfl, .inl (.inl hT1), a2 _ _ _, _, rfl, re, m, rfl, rfl, ⟨m0, by omega⟩, .ref t, rfl, t, _, 2, 2, rfl, rfl, hT1, rfl, ?_⟩
      refine ⟨_, rfl, ?_⟩
      refine q _ _ (Int.emod_nonneg _ (by omega)) (Int.emod_lt_of_pos _ m0) ⟨ns, sp, re / m, ca + 1, upd_same, ?_, hn, sp0, Int.ediv_nonneg re0 (by omega), by omega, by omega, hct⟩ hK1.own
      rw [upd_ne hct]
      exact hC1
    · have nt' := hct
      refine ⟨_, rfl, t, _, 0, _, rfl, rfl, .inl (.inl hT1), a0 _ _ _, ?_⟩
      refine ⟨sz (by show 0 ≤ 1000; decide), fun z nz => ?_⟩
      have sz1 := same_upd (o := .lst []) nz
      have hT1 := sz1 _ _ hT1
      have hC1 := sz1 _ _ hC1
      have hz1 := upd_same (H := H1) (a := z) (o := .lst [])
      have hK1 : Kp t H (upd H1 z (.lst [])) := hK1.new nz
      generalize upd H1 z (.lst []) = H1 at hT1 hC1 hK1 hz1 ⊢
      refine ⟨c, z, _, rfl, rfl, .inl (.inl hC1), .inl (.inl hz1), _, rfl, ite2 (fun e2 => ?a) (fun e2 => ?b)⟩
      case' a =>
        have e2 : ns ≠ [] := fun z => by rw [z] at e2; exact absurd e2 (by decide)
        have e2 : 0 < ns.length := List.length_pos_iff.mpr e2
        have b0 : 0 ≤ sp % (ns.length : Int) := Int.emod_nonneg _ (by omega)
        have b1 : sp % (ns.length : Int) < ns.length := Int.emod_lt_of_pos _ (by omega)
        have bn : (sp % (ns.length : Int)).toNat < ns.length := by omega
        refine ⟨_, rfl, t, _, 0, _, rfl, rfl, .inl (.inl hT1), a0 _ _ _, _, rfl, t, _, 1, _, rfl, rfl, .inl (.inl hT1), a1 _ _ _, _, rfl, t, _, 0, _, rfl, rfl, .inl (.inl hT1), a0 _ _ _, c, _, rfl, .inl (.inl (.inl hC1)), _, _, rfl, rfl, (by rw [List.length_map]; omega), c, _, _, .int (ns[(sp % (ns.length : Int)).toNat]), rfl, rfl, .inl (.inl hC1), (by
          rw [List.length_map]
          refine at_of (j := (sp % (ns.length : Int)).toNat) (by omega) ?_
          rw [List.getElem?_map, List.getElem?_eq_getElem bn]
          rfl), ?_⟩
        generalize ns[(sp % (ns.length : Int)).toNat] = cell
      all_goals
        refine ⟨_, rfl, t, _, 1, _, rfl, rfl, .inl (.inl hT1), a1 _ _ _, sp, 1, rfl, rfl, .ref t, rfl, t, _, 1, 1, rfl, rfl, hT1, rfl, ?_⟩
        have hT2 := upd_same (H := H1) (a := t) (o := .lst (fd4 c (sp + 1) re (ca + 1)))
        have hC2 : upd H1 t (.lst (fd4 c (sp + 1) re (ca + 1))) c = some (.lst (ns.map V.int)) := by
          rw [upd_ne hct]
          exact hC1
        have hK2 : Kp t H (upd H1 t (.lst (fd4 c (sp + 1) re (ca + 1)))) := hK1.own
        show tSeq _ _ _ _ (upd H1 t (.lst (fd4 c (sp + 1) re (ca + 1))))
        generalize upd H1 t (.lst (fd4 c (sp + 1) re (ca + 1))) = H2 at hT2 hC2 hK2 ⊢
        refine ⟨_, rfl, _, _, rfl, rfl, ⟨by decide, by decide, by decide⟩, _, _, rfl, rfl, _, rfl, ite2 (fun e4 => ?_) (fun e4 => iteF ?_)⟩
      any_goals refine ⟨_, rfl, t, _, 1, _, rfl, rfl, .inl (.inl hT2), a1 _ _ _, _, rfl, t, _, 0, _, rfl, rfl, .inl (.inl hT2), a0 _ _ _, c, _, rfl, .inl (.inl (.inl hC2)), _, _, rfl, rfl, _, rfl, ite2 (fun e5 => ?_) (fun e5 => ?_)⟩
      any_goals
        refine ⟨_, rfl, _, rfl, _, m, rfl, rfl, ⟨m0, by omega⟩, .ref t, rfl, t, _, 2, 2, rfl, rfl, hT2, rfl, ?_⟩
        refine ⟨_, rfl, _, rfl, _, m, rfl, rfl, m0, ?_⟩
        refine q _ _ (Int.emod_nonneg _ (by omega)) (Int.emod_lt_of_pos _ m0) ⟨ns, sp + 1, _, ca + 1, upd_same, (by rw [upd_ne hct]; exact hC2), hn, by omega, Int.ediv_nonneg ?_ (by omega), by omega, by omega, hct⟩ hK2.own
        have e4 := of_decide_eq_true e4
        exact Int.le_trans (by decide) e4
      all_goals
        refine ⟨_, rfl, _, _, rfl, rfl, (by decide : (0 : Int) < 2147483629), _, rfl, t, _, 3, _, rfl, rfl, .inl (.inl hT2), a3 _ _ _, _, _, rfl, rfl, .inl ⟨by decide, by decide⟩, _, _, rfl, rfl, _, _, rfl, rfl, _, _, rfl, rfl, pow5 _ (by omega) (by omega), _, _, rfl, rfl, (by decide : (0 : Int) < 2147483647), ?_⟩
        refine ⟨_, rfl, _, rfl, t, _, 3, _, rfl, rfl, .inl (.inl hT2), a3 _ _ _, _, _, rfl, rfl, .inl ⟨by decide, by decide⟩, _, _, rfl, rfl, _, _, rfl, rfl, pow5c _ _ (by omega) (by omega), _, _, rfl, rfl, (by decide : (0 : Int) < 2147483587), _, _, rfl, rfl, ⟨by decide, by decide⟩, _, rfl, _, m, rfl, rfl, m0, ?_⟩
        exact q _ _ (Int.emod_nonneg _ (by omega)) (Int.emod_lt_of_pos _ m0) ⟨ns, sp + 1, re, ca + 1, hT2, hC2, hn, by omega, re0, by omega, by omega, hct⟩ hK2
end
end L45

set_option Elab.async false
set_option linter.all false
set_option maxRecDepth 100000
set_option maxHeartbeats 2000000
namespace L45
open PySem PySem.Spec PyProof.Rows L2 My
section
variable {P : Program} {w : World} {K : PySem.W.Frag} {mg : Str → Option Value} {base : Heap}
theorem join_sg : ∀ {ks : List Nat}, TL.tl (Str.join "" (ks.map sg)) = ks
  | [] => rfl
  | [k] => rfl
  | k :: l :: r => by
    show TL.tl (sg k ++ "" ++ Str.join "" ((l :: r).map sg)) = _
    rw [TL.tl_append, TL.tl_append, join_sg (ks := l :: r)]
    rfl
theorem erase_map {α β : Type} (f : α → β) : ∀ (l : List α) (k : Nat), (l.map f).eraseIdx k = (l.eraseIdx k).map f
  | [], _ => rfl
  | _ :: _, 0 => rfl
  | a :: l, k + 1 => by
    show f a :: (l.map f).eraseIdx k = f a :: (l.eraseIdx k).map f
    rw [erase_map f l k]
theorem erase_perm {α : Type} : ∀ {l : List α} {k : Nat} (h : k < l.length), (l[k] :: l.eraseIdx k).Perm l
  | _ :: _, 0, _ => List.Perm.refl _
  | a :: l, k + 1, h => (List.Perm.swap _ _ _).trans ((erase_perm (l := l) (k := k) (Nat.lt_of_succ_lt_succ h)).cons a)
/-- a name as the document has it -/
def Nm (z : Str) : Prop := 1 ≤ z.length ∧ z.length ≤ 8 ∧ ∀ c ∈ z.cps.toList, 97 ≤ c ∧ c ≤ 122
theorem Nm.plain {z : Str} (h : Nm z) : Plain z := ⟨by have := h.2.1; omega, fun c hc => by have := h.2.2 c hc; omega⟩
theorem letterX {x : Int} (h0 : 0 ≤ x) (h1 : x < 26) : atI (Str.ofString "abcdefghijklmnopqrstuvwxyz").cps.toList x = some (97 + x.toNat) := by
  obtain ⟨k, hk, rfl⟩ : ∃ k : Nat, k < 26 ∧ x = (k : Int) := ⟨x.toNat, by omega, by omega⟩
  have := (show ∀ k : Fin 26, ((Str.ofString "abcdefghijklmnopqrstuvwxyz").cps.toList[k.val]? == some (97 + k.val)) = true by decide +kernel) ⟨k, hk⟩
  exact atI_nat (by simpa using this)
theorem len_tl (z : Str) : z.length = (TL.tl z).length := (Array.length_toList (xs := z.cps)).symm
/-- the pool of names, k pairs put in -/
structure Pool (ws : List Str) (k : Nat) : Prop where
  len : ws.length = 2 * k
  nm : ∀ z ∈ ws, Nm z
  sh : ∀ z ∈ ws, z.length ≤ k
  nd : ws.Nodup
theorem Pool.next {ws : List Str} {k : Nat} (h : Pool ws k) (k8 : k < 8) {hd : List Nat} (hl : hd.length = k) (hh : ∀ c ∈ hd, 97 ≤ c ∧ c ≤ 122) {a b : Nat} (ha : 97 ≤ a ∧ a ≤ 122) (hb : 97 ≤ b ∧ b ≤ 122) (ab : a ≠ b) {x y : Str} (ex : TL.tl x = hd ++ [a]) (ey : TL.tl y = hd ++ [b]) : Pool (ws ++ [x, y]) (k + 1) := by
  have lx : x.length = k + 1 := by rw [len_tl, ex, List.length_append, hl]; rfl
  have ly : y.length = k + 1 := by rw [len_tl, ey, List.length_append, hl]; rfl
  have nx : Nm x := ⟨by omega, by omega, fun c hc => by
    have hc : c ∈ TL.tl x := hc
    rw [ex] at hc
    rcases List.mem_append.mp hc with h | h
    · exact hh c h
    · rw [List.mem_singleton.mp h]; exact ha⟩
  have ny : Nm y := ⟨by omega, by omega, fun c hc => by
    have hc : c ∈ TL.tl y := hc
    rw [ey] at hc
    rcases List.mem_append.mp hc with h | h
    · exact hh c h
    · rw [List.mem_singleton.mp h]; exact hb⟩
  refine ⟨by rw [List.length_append, h.len]; show _ + 2 = _; omega, fun z hz => ?_, fun z hz => ?_, ?_⟩
  · rcases List.mem_append.mp hz with e | e
    · exact h.nm z e
    · rcases List.mem_cons.mp e with rfl | e
      · exact nx
      · rw [List.mem_singleton.mp e]; exact ny
  · rcases List.mem_append.mp hz with e | e
    · exact Nat.le_succ_of_le (h.sh z e)
    · rcases List.mem_cons.mp e with rfl | e
      · omega
      · rw [List.mem_singleton.mp e]; omega
  · refine List.nodup_append.mpr ⟨h.nd, ?_, fun z hz z' hz' e => ?_⟩
    · refine List.nodup_cons.mpr ⟨fun e => ?_, List.nodup_cons.mpr ⟨(fun e => by cases e), List.nodup_nil⟩⟩
      have e := List.mem_singleton.mp e
      rw [e, ey] at ex
      exact ab (by have := List.append_cancel_left ex; injection this with h; exact h.symm)
    · have := h.sh z hz
      subst e
      rcases List.mem_cons.mp hz' with rfl | e
      · omega
      · rw [List.mem_singleton.mp e] at this; omega
def spFNm : Sp := fun vs H Q _ => ∃ (t c : Addr) (m n : Nat), vs = [.ref t, .int m] ∧ m ≤ 9 ∧ FeedC H t c n ∧ n < 900000 ∧
  ∀ (p : Addr) (zs : List Str) (H' : Hp), H' p = some (.tup (zs.map V.str)) → zs.length = m → (∀ z ∈ zs, Nm z) → zs.Nodup → sortedS zs = true → FeedC H' t c (n + 8 + m) → Kp t H H' → H p = none → Q (.ref p) H'
theorem ok_fnm (T : Tx K mg) : FnOk P w K mg base CX0 2 T.f_w_names T.d_w_names ["_law_feed_here", "_law_many"] (spFNm) := by
  have G_w_draw : FnOk P w K mg base CX0 1 T.f_w_draw T.d_w_draw ["_law_feed_here", "_law_many"] (spDraw) := ok_draw T
  refine T.F_w_names.ok S_w_names (fun vs H Q E h => ?_) (fun cdv A outer s H vs Q E hr h => ?_)
  · obtain ⟨t, c, m, n, rfl, _⟩ := h
    rfl
  · obtain ⟨t, c, m, n, rfl, m9, hT, hn, q⟩ := h
    refine ⟨_, (pss_cons (ps_set (i := 2) S_w_names.nd rfl (.inr rfl) pe_str)
      (pss_cons (ps_setLc (i := 4) (own := [("_law_k", 3)]) (g := gName 3) (tt := tYes) (by rfl) S_w_names.nd rfl rfl (sw_true rfl rfl rfl (by decide +kernel)) (pi_range1 (by rfl) T.m_range (pa_cons pe_int pa_nil)) (blkOk_by (own := [("_law_k", 3)]) (N := N_w_names) (sc := defScope s_w_names) (by decide +kernel)) (fun _ _ _ _ _ => (pg_name (i := 3) S_w_names.nd rfl (.inl rfl))) (fun _ _ _ _ _ => pts_nil) (fun _ _ _ _ _ => (pe_call G_w_draw hr (by rfl) T.g_w_draw T.F_w_draw.kp T.b_w_draw .nil pass0 (pa_cons (pv 0) (pa_cons pe_int pa_nil)))))
      (pss_cons (ps_set (i := 5) S_w_names.nd rfl (.inr rfl) (pe_lst pa_nil))
      (pss_cons (ps_for PassesOwn.never rfl (pi_range1 (by rfl) T.m_range (pa_cons pe_int pa_nil)) (pg_name (i := 3) S_w_names.nd rfl (.inl rfl))
      (pss_cons (ps_set (i := 6) S_w_names.nd rfl (.inl rfl) (pe_join pe_str (pe_lc (own := [("_law_mark", 7)]) (g := gName 7) (tt := tYes) (by rfl) S_w_names.nd (pi_list (pe_slice sl_list (pv 4) po_none (po_some (pv 3)))) (blkOk_by (own := [("_law_mark", 7)]) (N := N_w_names) (sc := defScope s_w_names) (by decide +kernel)) (fun _ _ _ _ _ => (pg_name (i := 7) S_w_names.nd rfl (.inl rfl))) (fun _ _ _ _ _ => pts_nil) (fun _ _ _ _ _ => (pe_ix ix_str (pv 2) (pv 7) (fun _ _ => rfl))))))
      (pss_one (ps_set (i := 5) S_w_names.nd rfl (.inr rfl) (pe_op op_cat (pv 5) (pe_lst (pa_cons (pe_op op_add_str (pv 6) (pe_ix ix_str (pv 2) (pe_ix ix_list (pv 4) (pv 3) (fun _ _ => rfl)) (fun _ _ => rfl))) (pa_cons (pe_op op_add_str (pv 6) (pe_ix ix_str (pv 2) (pe_op op_mod (pe_op op_add (pe_ix ix_list (pv 4) (pv 3) (fun _ _ => rfl)) pe_int) pe_int) (fun _ _ => rfl))) pa_nil))))))))
      (pss_one (ps_ret (pe_callTy call_tuple_of (by rfl) T.m_tuple (by decide +kernel) (pa_cons (pe_callB cr_sortedS (by rfl) T.m_sorted (by decide +kernel) (pa_cons (pe_lc (own := [("_law_k", 3)]) (g := gName 3) (tt := tYes) (by rfl) S_w_names.nd (pi_range1 (by rfl) T.m_range (pa_cons (pv 1) pa_nil)) (blkOk_by (own := [("_law_k", 3)]) (N := N_w_names) (sc := defScope s_w_names) (by decide +kernel)) (fun _ _ _ _ _ => (pg_name (i := 3) S_w_names.nd rfl (.inl rfl))) (fun _ _ _ _ _ => pts_nil) (fun _ _ _ _ _ => (pe_bmK (K1 := K) rfl PySem.F.plainAttrs_list PySem.F.slot_list_pop PySem.F.type_list_pop mt_popAt (pv 5) (pa_cons (pe_call G_w_draw hr (by rfl) T.g_w_draw T.F_w_draw.kp T.b_w_draw .nil pass0 (pa_cons (pv 0) (pa_cons (pe_callB (r := rLenK K) call_lenK (by rfl) T.m_len PySem.boot_len (pa_cons (pv 5) pa_nil)) pa_nil))) pa_nil)))) pa_nil)) pa_nil)))))))), ?_⟩
    refine ⟨8, rfl, by decide, by decide, fun F nF => ?_⟩
    refine lc_range (lo := 0) (n := 8) (fun i Hx => ∃ fs : List Int, Hx F = some (.lst (fs.map V.int)) ∧ fs.length = i ∧ (∀ f ∈ fs, 0 ≤ f ∧ f < 26) ∧ FeedC Hx t c (n + i) ∧ Kp t H Hx) ⟨[], upd_same, rfl, (fun f hf => by cases hf), hT.new nF, (Kp.refl t H).new nF⟩ ?_ ?_
    · rintro i Hx hi ⟨fs, hF, hl, hb, hTx, hKx⟩
      obtain ⟨f1, f2⟩ := hT.ne nF
      refine ⟨rfl, tYesT ?_⟩
      refine ⟨_, rfl, t, 26, n + i, c, rfl, by decide, by decide, hTx, by omega, fun v H1 v0 v1 hT1 hK1 => ?_⟩
      have h1 := hK1 _ _ f1 hF
      refine ⟨_, h1, small1000 (by rw [List.length_map]; omega), fs ++ [v], by rw [upd_same, List.map_append]; rfl, by rw [List.length_append, hl]; rfl, fun f hf => ?_, hT1.updO f1 f2, kp_fresh nF (hKx.trans hK1)⟩
      rcases List.mem_append.mp hf with h | h
      · exact hb f h
      · rw [List.mem_singleton.mp h]; exact ⟨v0, v1⟩
    · rintro H1 ⟨fs, hF, hl, hb, hT1, hK1⟩
      obtain ⟨f1, f2⟩ := hT.ne nF
      refine ⟨sz (by show 0 ≤ 1000; decide), fun p0 n0 => ?_⟩
      have s0 := same_upd (o := .lst []) n0
      refine ⟨8, rfl, by decide, by decide, ?_⟩
      refine for_range (lo := 0) (n := 8) (fun i σ Hx => ∃ (y3 y6 y7 : Option V) (p : Addr) (ws : List Str), σ = [some (.ref t), some (.int m), some (.str "abcdefghijklmnopqrstuvwxyz"), y3, some (.ref F), some (.ref p), y6, y7] ∧ Hx p = some (.lst (ws.map V.str)) ∧ Pool ws i ∧ Same H1 Hx ∧ H1 p = none) ⟨_, _, _, p0, [], rfl, upd_same, ⟨rfl, (fun z hz => by cases hz), (fun z hz => by cases hz), List.nodup_nil⟩, s0, n0⟩ ?_ ?_
      · rintro i σ Hx hi ⟨y3, y6, y7, p, ws, rfl, hp, po, sx, np⟩
        have hFx := sx _ _ hF
        refine ⟨⟨_, rfl⟩, _, rfl, _, rfl, _, rfl, F, _, rfl, .inl (.inl hFx), fun C nC => ?_⟩
        have ec : cutV (fs.map V.int) none (some (0 + (i : Int))) = (fs.take i).map V.int := by
          unfold cutV
          rw [HT.sIx_none, show HT.sIx (fs.map V.int).length (fs.map V.int).length (some (0 + (i : Int))) = min i (fs.map V.int).length from by rw [Int.zero_add]; exact HT.sIx_nat _ _ i]
          simp only [List.drop_zero, Nat.sub_zero, List.length_map, ← List.map_take]
          congr 1
          rw [← List.take_take]
          simp
        rw [ec]
        have sC := same_upd (o := .lst ((fs.take i).map V.int)) nC
        have lt : (fs.take i).length = i := by rw [List.length_take]; omega
        have bt : ∀ f ∈ fs.take i, 0 ≤ f ∧ f < 26 := fun f hf => hb f (List.mem_of_mem_take hf)
        refine ⟨C, rfl, ⟨_, .inl (.inl upd_same)⟩, fun D nD => ?_⟩
        have sD := fun o => same_upd (o := o) nD
        have hC2 := fun o => sD o _ _ (upd_same (H := Hx) (a := C) (o := .lst ((fs.take i).map V.int)))
        refine lc_list (xs := (fs.take i).map V.int) (fun j H' => ∃ ks : List Nat, H' = upd (upd Hx C (.lst ((fs.take i).map V.int))) D (.lst ((ks.map sg).map V.str)) ∧ ks.length = j ∧ ∀ k ∈ ks, 97 ≤ k ∧ k ≤ 122) ⟨[], rfl, rfl, fun k hk => (by cases hk)⟩ (fun j H' hj h => by obtain ⟨ks, rfl, _⟩ := h; exact .inl (.inl (hC2 _))) ?_ ?_
        · rintro j x H' hx ⟨ks, rfl, hl2, hk⟩
          obtain ⟨f, hf, rfl⟩ : ∃ f, (fs.take i)[j]? = some f ∧ x = V.int f := by
            rw [List.getElem?_map] at hx
            cases e : (fs.take i)[j]? with
            | none => rw [e] at hx; cases hx
            | some y => rw [e] at hx; exact ⟨y, rfl, (Option.some.inj hx).symm⟩
          have bf := bt f (List.mem_of_getElem? hf)
          have hj := (List.getElem?_eq_some_iff.mp hf).1
          refine ⟨rfl, tYesT ⟨_, rfl, _, rfl, _, _, _, rfl, rfl, sz (by decide +kernel), letterX bf.1 bf.2, _, upd_same, small1000 (by rw [List.length_map, List.length_map]; omega), ks ++ [97 + f.toNat], ?_, by rw [List.length_append, hl2]; rfl, fun k hk2 => ?_⟩⟩
          · rw [upd_upd', List.map_append, List.map_append]
            rfl
          · rcases List.mem_append.mp hk2 with h | h
            · exact hk k h
            · rw [List.mem_singleton.mp h]; omega
        · rintro H' ⟨ks, rfl, hl2, hk⟩
          rw [List.length_map, lt] at hl2
          refine ⟨_, D, ks.map sg, rfl, rfl, .inl (.inl (.inl upd_same)), ?_, ?_⟩
          · have : ∀ l : List Nat, ((l.map sg).map (·.length)).sum = l.length := fun l => by
              induction l with
              | nil => rfl
              | cons a r ih =>
                show 1 + ((r.map sg).map (·.length)).sum = r.length + 1
                omega
            rw [this, List.length_map]
            show _ + _ * 0 ≤ _
            omega
          have ej : TL.tl (Txt.join "" (ks.map sg)) = ks := by
            rw [TL.join_eq]
            exact join_sg
          have hlen : (Txt.join "" (ks.map sg)).length ≤ 8 := by rw [len_tl, ej]; omega
          generalize Txt.join "" (ks.map sg) = hd at ej hlen
          obtain ⟨f, hf⟩ : ∃ f, fs[i]? = some f := ⟨_, List.getElem?_eq_getElem (by omega)⟩
          have bf := hb f (List.mem_of_getElem? hf)
          have sA := (sx.trans sC).trans (sD (.lst ((ks.map sg).map V.str)))
          have sB := sC.trans (sD (.lst ((ks.map sg).map V.str)))
          have hp2 := sB _ _ hp
          generalize upd (upd Hx C (.lst ((fs.take i).map V.int))) D (.lst ((ks.map sg).map V.str)) = H3 at sA hp2 ⊢
          have hF3 := sA _ _ hF
          have af : atI (fs.map V.int) (0 + (i : Int)) = some (.int f) := by
            rw [Int.zero_add]
            exact atI_nat (by rw [List.getElem?_map, hf]; rfl)
          have m0 := Int.emod_nonneg (f + 1) (show (26 : Int) ≠ 0 by decide)
          have m1 := Int.emod_lt_of_pos (f + 1) (show (0 : Int) < 26 by decide)
          refine ⟨_, rfl, _, rfl, _, rfl, _, rfl, _, rfl, F, _, _, _, rfl, rfl, .inl (.inl hF3), af, _, _, _, rfl, rfl, sz (by decide +kernel), letterX bf.1 bf.2, _, _, rfl, rfl, sz (by show hd.length + 1 ≤ _; omega), _, rfl, _, rfl, _, rfl, _, rfl, F, _, _, _, rfl, rfl, .inl (.inl hF3), af, _, _, rfl, rfl, _, _, rfl, rfl, (show (0 : Int) < 26 by decide), _, _, _, rfl, rfl, sz (by decide +kernel), letterX m0 m1, _, _, rfl, rfl, sz (by show hd.length + 1 ≤ _; omega), sz (by show 2 ≤ 1000; decide), fun b nb => ?_⟩
          have s4 := fun o => same_upd (o := o) nb
          refine ⟨p, b, _, _, rfl, rfl, s4 _ _ _ hp2, upd_same, sz (by rw [List.length_map, po.len]; show _ + 2 ≤ _; omega), fun p' np' => ?_⟩
          have s5 := fun o => same_upd (o := o) np'
          refine ⟨_, _, _, p', ws ++ [hd ++ sg (97 + f.toNat), hd ++ sg (97 + ((f + 1) % 26).toNat)], rfl, by rw [upd_same, List.map_append]; rfl, po.next (by omega) (hd := ks) (by omega) hk (a := 97 + f.toNat) (b := 97 + ((f + 1) % 26).toNat) (by omega) (by omega) (by omega) (by rw [TL.tl_append, ej]; rfl) (by rw [TL.tl_append, ej]; rfl), (sA.trans (s4 _)).trans (s5 _), ?_⟩
          cases e : H1 p' with
          | none => rfl
          | some o => rw [s4 _ _ _ (sA _ _ e)] at np'; cases np'
      · rintro σ H2 ⟨y3, y6, y7, p, ws, rfl, hp, po, s2, np⟩
        have hT2 := hT1.same s2
        have hK2 := hK1.trans (Kp.of_same s2)
        obtain ⟨q1, q2⟩ := hT1.ne np
        have fp := kp_none hK1 np q1
        refine ⟨_, rfl, m, rfl, by omega, by omega, fun D nD => ?_⟩
        obtain ⟨d1, d2⟩ := hT2.ne nD
        have fD := kp_none hK2 nD d1
        have dp : p ≠ D := ne_of_none hp nD
        refine lc_range (lo := 0) (n := m) (fun i Hx => ∃ ws ds : List Str, Hx p = some (.lst (ws.map V.str)) ∧ Hx D = some (.lst (ds.map V.str)) ∧ ws.length + i = 16 ∧ ds.length = i ∧ (∀ z ∈ ws, Nm z) ∧ (∀ z ∈ ds, Nm z) ∧ (ws ++ ds).Nodup ∧ FeedC Hx t c (n + 8 + i) ∧ Kp t H Hx) ⟨ws, [], same_upd nD _ _ hp, upd_same, by rw [po.len], rfl, po.nm, (fun z hz => by cases hz), by rw [List.append_nil]; exact po.nd, hT2.new nD, hK2.new nD⟩ ?_ ?_
        · rintro i Hx hi ⟨ws, ds, h1, h2, lw, ld, wn, dn, nd, hTx, hKx⟩
          refine ⟨rfl, tYesT ⟨_, rfl, .inl ⟨rfl, _, .inl (.inl h1)⟩, _, rfl, _, rfl, p, _, rfl, .inl (.inl (.inl h1)), t, _, n + 8 + i, c, rfl, by rw [List.length_map]; omega, by rw [List.length_map]; omega, hTx, by omega, fun v H4 v0 v1 hT4 hK4 => ?_⟩⟩
          rw [List.length_map] at v1
          have g1 := hK4 _ _ q1 h1
          have g2 := hK4 _ _ d1 h2
          have vw : v.toNat < ws.length := by omega
          have gw : (ws.map V.str)[v.toNat]? = some (.str ws[v.toNat]) := by rw [List.getElem?_map, List.getElem?_eq_getElem vw]; rfl
          refine ⟨p, _, v, v.toNat, .str ws[v.toNat], rfl, rfl, g1, by omega, by omega, ?_, gw, ?_⟩
          · rw [List.length_map]
            exact PyProof.Rows.seqIndex_at v0 (by omega)
          have k2 : upd H4 p (.lst ((ws.map V.str).eraseIdx v.toNat)) D = _ := (upd_ne dp.symm).trans g2
          refine ⟨_, k2, small1000 (by rw [List.length_map]; omega), ws.eraseIdx v.toNat, ds ++ [ws[v.toNat]], ?_, by rw [upd_same, List.map_append]; rfl, by rw [List.length_eraseIdx_of_lt vw]; omega, by rw [List.length_append, ld]; rfl, fun z hz => wn z (List.mem_of_mem_eraseIdx hz), fun z hz => ?_, ?_, (hT4.updO q1 q2).updO d1 d2, kp_fresh fD (kp_fresh fp (hKx.trans hK4))⟩
          · rw [upd_ne dp, upd_same, erase_map]
          · rcases List.mem_append.mp hz with h | h
            · exact dn z h
            · rw [List.mem_singleton.mp h]; exact wn _ (List.getElem_mem vw)
          · refine (List.Perm.nodup_iff ?_).mp nd
            refine ((erase_perm vw).symm.append_right ds).trans ?_
            rw [← List.append_assoc]
            exact (List.perm_append_singleton _ _).symm
        · rintro H3 ⟨ws, ds, h1, h2, lw, ld, wn, dn, nd, hT3, hK3⟩
          refine ⟨D, ds, rfl, .inl (.inl h2), by omega, fun ys z pe so nz => ?_⟩
          have s6 := fun o => same_upd (o := o) nz
          refine ⟨z, _, rfl, .inl ⟨.inl (.inl upd_same), fun r nr => ?_⟩⟩
          have s7 := fun o => same_upd (o := o) nr
          have hT5 := (hT3.same (s6 (.lst (ys.map V.str)))).same (s7 (.tup (ys.map V.str)))
          have hK5 := (hK3.new (o := .lst (ys.map V.str)) nz).new (o := .tup (ys.map V.str)) nr
          have rt := ((hT3.same (s6 (.lst (ys.map V.str)))).ne nr).1
          exact q r ys _ upd_same (by rw [pe.length_eq]; exact ld) (fun z hz => dn z (pe.mem_iff.mp hz)) (pe.nodup_iff.mpr (List.nodup_append.mp nd).2.1) so hT5 hK5 (kp_none (hK3.new nz) nr rt)
end
end L45

set_option Elab.async false
set_option linter.all false
set_option maxRecDepth 100000
set_option maxHeartbeats 2000000
namespace L45
open PySem PySem.Spec PyProof.Rows L2 My
section
variable {P : Program} {w : World} {K : PySem.W.Frag} {mg : Str → Option Value} {base : Heap}
/-- all pairs along a list, the first k rows -/
def alongK (zs : List Str) (k : Nat) : List (Str × Str) := (List.range k).flatMap fun i => match zs[i]? with
  | some x => (zs.drop (i + 1)).map fun y => (x, y)
  | none => []
theorem along_next {zs : List Str} {k : Nat} {x : Str} (h : zs[k]? = some x) : alongK zs (k + 1) = alongK zs k ++ (zs.drop (k + 1)).map fun y => (x, y) := by
  unfold alongK
  rw [List.range_succ, List.flatMap_append]
  congr 1
  simp [h]
theorem along_len {zs : List Str} (l9 : zs.length ≤ 9) : ∀ k, k ≤ zs.length → (alongK zs k).length ≤ 9 * k
  | 0, _ => Nat.le_refl _
  | k + 1, h => by
    have ih := along_len l9 k (by omega)
    rw [along_next (List.getElem?_eq_getElem (show k < zs.length by omega)), List.length_append, List.length_map, List.length_drop]
    omega
theorem nk_say {H : Hp} {q : Addr} {a b : Str} (h : H q = some (.tup [.str a, .str b])) : Nk H (.ref q) (sayK (a, b)) := .tup h (.cons (.str a) (.cons (.str b) .nil))
theorem tups_lst {H : Hp} {D : Addr} {ys : List V} {o : HO} (h : H D = some (.lst ys)) : Tups H (upd H D o) := fun b xs e => by
  rw [upd_ne (fun z => by rw [z, h] at e; cases e)]
  exact e
theorem same_fresh {H H1 : Hp} {p : Addr} {o : HO} (hp : H p = none) (k : Same H H1) : Same H (upd H1 p o) := fun b x h => by
  rw [upd_ne (ne_of_none h hp)]
  exact k b x h
def spAlong : Sp := fun vs H Q _ => ∃ (l : Addr) (zs : List Str), vs = [.ref l] ∧ H l = some (.lst (zs.map V.str)) ∧ zs.length ≤ 9 ∧
  ∀ p ys H', Same H H' → H p = none → H' p = some (.lst ys) → NkAll H' ys ((alongK zs zs.length).map sayK) → Q (.ref p) H'
theorem ok_along (T : Tx K mg) : FnOk P w K mg base CX0 1 T.f_w_along T.d_w_along ["_law_order"] (spAlong) := by
  refine T.F_w_along.ok S_w_along (fun vs H Q E h => ?_) (fun cdv A outer s H vs Q E hr h => ?_)
  · obtain ⟨l, zs, rfl, _⟩ := h
    rfl
  · obtain ⟨l, zs, rfl, hl, l9, q⟩ := h
    refine ⟨_, (pss_cons (ps_set (i := 1) S_w_along.nd rfl (.inl rfl) (pe_lst pa_nil))
      (pss_cons (ps_for PassesOwn.never rfl (pi_range1 (by rfl) T.m_range (pa_cons (pe_callB call_len_seq (by rfl) T.m_len PySem.boot_len (pa_cons (pv 0) pa_nil)) pa_nil)) (pg_name (i := 2) S_w_along.nd rfl (.inr rfl))
      (pss_one (ps_set (i := 1) S_w_along.nd rfl (.inl rfl) (pe_op op_cat (pv 1) (pe_lc (own := [("_law_other", 3)]) (g := gName 3) (tt := tYes) (by rfl) S_w_along.nd (pi_list (pe_slice sl_list (pv 0) (po_some (pe_op op_add (pv 2) pe_int)) po_none)) (blkOk_by (own := [("_law_other", 3)]) (N := N_w_along) (sc := defScope s_w_along) (by decide +kernel)) (fun _ _ _ _ _ => (pg_name (i := 3) S_w_along.nd rfl (.inl rfl))) (fun _ _ _ _ _ => pts_nil) (fun _ _ _ _ _ => (pe_tup (pa_cons (pe_ix (r := rIxL K) ix_list (pv 0) (pv 2) (fun _ _ => rfl)) (pa_cons (pv 3) pa_nil)))))))))
      (pss_one (ps_ret (pv 1))))), ?_⟩
    refine ⟨sz (by show 0 ≤ 1000; decide), fun p0 n0 => ?_⟩
    have s0 := same_upd (o := .lst []) n0
    refine ⟨_, rfl, l, _, rfl, .inl (.inl (.inl (s0 _ _ hl))), zs.length, by rw [List.length_map], by omega, by omega, ?_⟩
    refine for_range (lo := 0) (n := zs.length) (fun i σ Hx => ∃ (y2 y3 : Option V) (p : Addr) (ys : List V), σ = [some (.ref l), some (.ref p), y2, y3] ∧ Same H Hx ∧ H p = none ∧ Hx p = some (.lst ys) ∧ NkAll Hx ys ((alongK zs i).map sayK)) ⟨_, _, p0, [], rfl, s0, n0, upd_same, .nil⟩ ?_ ?_
    · rintro i σ Hx hi ⟨y2, y3, p, ys, rfl, sx, np, hp, nk⟩
      have hlx := sx _ _ hl
      have al := along_len l9 i (by omega)
      have lys : ys.length = (alongK zs i).length := by have := nk.length; rw [List.length_map] at this; exact this
      have hz : zs[i]? = some zs[i] := List.getElem?_eq_getElem hi
      have az : atI (zs.map V.str) (0 + (i : Int)) = some (.str zs[i]) := by
        rw [Int.zero_add]
        exact atI_nat (by rw [List.getElem?_map, hz]; rfl)
      refine ⟨_, rfl, _, rfl, _, rfl, _, _, rfl, rfl, _, rfl, l, _, rfl, .inl (.inl hlx), fun C nC => ?_⟩
      have ec : cutV (zs.map V.str) (some (0 + (i : Int) + 1)) none = (zs.drop (i + 1)).map V.str := by
        have e1 : (0 + (i : Int) + 1) = ((i + 1 : Nat) : Int) := by omega
        unfold cutV
        rw [HT.sIx_none, e1, show HT.sIx (zs.map V.str).length 0 (some ((i + 1 : Nat) : Int)) = min (i + 1) (zs.map V.str).length from HT.sIx_nat _ _ (i + 1), List.length_map, Nat.min_eq_left (by omega), List.take_of_length_le (by rw [List.length_drop, List.length_map]; omega), List.map_drop]
      rw [ec]
      have sC := same_upd (o := .lst ((zs.drop (i + 1)).map V.str)) nC
      have hC := upd_same (H := Hx) (a := C) (o := .lst ((zs.drop (i + 1)).map V.str))
      generalize upd Hx C (.lst ((zs.drop (i + 1)).map V.str)) = H1 at sC hC ⊢
      refine ⟨C, rfl, ⟨_, .inl (.inl hC)⟩, fun D nD => ?_⟩
      refine lc_list (xs := (zs.drop (i + 1)).map V.str) (fun j H' => ∃ us, H' D = some (.lst us) ∧ Same H1 H' ∧ NkAll H' us ((((zs.drop (i + 1)).take j).map fun y => (zs[i], y)).map sayK)) ⟨[], upd_same, same_upd nD, .nil⟩ (fun j H' hj h => by obtain ⟨_, _, k, _⟩ := h; exact .inl (.inl (k _ _ hC))) ?_ ?_
      · rintro j x H' hx ⟨us, hD, sD, nu⟩
        obtain ⟨y, hy, rfl⟩ : ∃ y, (zs.drop (i + 1))[j]? = some y ∧ x = V.str y := by
          rw [List.getElem?_map] at hx
          cases e : (zs.drop (i + 1))[j]? with
          | none => rw [e] at hx; cases hx
          | some y => rw [e] at hx; exact ⟨y, rfl, (Option.some.inj hx).symm⟩
        have hj := (List.getElem?_eq_some_iff.mp hy).1
        rw [List.length_drop] at hj
        have lu : us.length ≤ j := by
          have := nu.length
          rw [List.length_map, List.length_map, List.length_take] at this
          omega
        refine ⟨rfl, tYesT ⟨_, rfl, _, rfl, l, _, _, .str zs[i], rfl, rfl, .inl (.inl (sD _ _ (sC _ _ hlx))), az, _, rfl, sz (by show 2 ≤ 1000; decide), fun c3 n3 => ?_⟩⟩
        have s3 := same_upd (o := .tup [.str zs[i], .str y]) n3
        have hD3 := s3 _ _ hD
        have tD := tups_lst (o := .lst (us ++ [.ref c3])) hD3
        refine ⟨us, hD3, small1000 (by omega), us ++ [.ref c3], upd_same, same_fresh nD (sD.trans s3), ?_⟩
        rw [List.take_add_one, hy, List.map_append, List.map_append]
        exact ((nu.at (.same s3)).app (.cons (nk_say upd_same) .nil)).at tD
      · rintro H3 ⟨us, hD, sD, nu⟩
        rw [List.length_map, List.take_of_length_le (Nat.le_refl _)] at nu
        have lu := nu.length
        rw [List.length_map, List.length_map, List.length_drop] at lu
        have hp3 := sD _ _ (sC _ _ hp)
        refine ⟨p, D, _, _, rfl, rfl, hp3, hD, sz (by omega), fun p' np' => ?_⟩
        have sp := same_upd (o := .lst (ys ++ us)) np'
        refine ⟨_, _, p', ys ++ us, rfl, ((sx.trans sC).trans sD).trans sp, ?_, upd_same, ?_⟩
        · cases e : H p' with
          | none => rfl
          | some o => rw [sD _ _ (sC _ _ (sx _ _ e))] at np'; cases np'
        · rw [along_next hz, List.map_append]
          exact ((nk.at (.same (sC.trans sD))).app nu).at (.same sp)
    · rintro σ Hx ⟨y2, y3, p, ys, rfl, sx, np, hp, nk⟩
      exact ⟨_, rfl, q p ys Hx sx np hp nk⟩
def spTurned : Sp := fun vs H Q _ => ∃ (t c p : Addr) (zs : List Str) (n : Nat), vs = [.ref t, .ref p] ∧ H p = some (.tup (zs.map V.str)) ∧ zs.length ≤ 9 ∧ FeedC H t c n ∧ n < 900000 ∧
  ∀ D (ys : List Str) H', H D = none → H' D = some (.lst (ys.map V.str)) → ys.Perm zs → FeedC H' t c (n + zs.length) → Kp t H H' → Q (.ref D) H'
theorem ok_turned (T : Tx K mg) : FnOk P w K mg base CX0 2 T.f_w_turned T.d_w_turned ["_law_feed_here", "_law_names_here"] (spTurned) := by
  have G_w_draw : FnOk P w K mg base CX0 1 T.f_w_draw T.d_w_draw ["_law_feed_here", "_law_many"] (spDraw) := ok_draw T
  refine T.F_w_turned.ok S_w_turned (fun vs H Q E h => ?_) (fun cdv A outer s H vs Q E hr h => ?_)
  · obtain ⟨t, c, p, zs, n, rfl, _⟩ := h
    rfl
  · obtain ⟨t, c, p, zs, n, rfl, hp, l9, hT, hn, q⟩ := h
    refine ⟨_, (pss_cons (ps_set (i := 2) S_w_turned.nd rfl (.inr rfl) (pe_callTy call_list_of (by rfl) T.m_list (by decide +kernel) (pa_cons (pv 1) pa_nil)))
      (pss_one (ps_ret (pe_lc (own := [("_law_name", 3)]) (g := gName 3) (tt := tYes) (by rfl) S_w_turned.nd (pi_tup (pv 1)) (blkOk_by (own := [("_law_name", 3)]) (N := N_w_turned) (sc := defScope s_w_turned) (by decide +kernel)) (fun _ _ _ _ _ => (pg_name (i := 3) S_w_turned.nd rfl (.inl rfl))) (fun _ _ _ _ _ => pts_nil) (fun _ _ _ _ _ => (pe_bmK (K1 := K) rfl PySem.F.plainAttrs_list PySem.F.slot_list_pop PySem.F.type_list_pop mt_popAt (pv 2) (pa_cons (pe_call G_w_draw hr (by rfl) T.g_w_draw T.F_w_draw.kp T.b_w_draw .nil pass0 (pa_cons (pv 0) (pa_cons (pe_callB (r := rLenK K) call_lenK (by rfl) T.m_len PySem.boot_len (pa_cons (pv 2) pa_nil)) pa_nil))) pa_nil))))))), ?_⟩
    have pt : p ≠ t := fun z => by
      obtain ⟨ns, sp, re, ca, e1, _⟩ := hT
      rw [z, e1] at hp
      cases hp
    refine ⟨_, rfl, p, _, rfl, .inr (.inl (.inl hp)), fun h0 n0 => ?_⟩
    obtain ⟨a1, a2⟩ := hT.ne n0
    have hh := upd_same (H := H) (a := h0) (o := .lst (zs.map V.str))
    have hT1 := hT.new (o := .lst (zs.map V.str)) n0
    have hK1 := (Kp.refl t H).new (o := .lst (zs.map V.str)) n0
    generalize upd H h0 (.lst (zs.map V.str)) = H1 at hh hT1 hK1 ⊢
    have hp1 := hK1 _ _ pt hp
    refine ⟨_, rfl, p, rfl, ⟨_, .inl (.inl hp1)⟩, fun D nD => ?_⟩
    obtain ⟨d1, d2⟩ := hT1.ne nD
    have fD := kp_none hK1 nD d1
    have dh : h0 ≠ D := ne_of_none hh nD
    refine lc_tup (xs := zs.map V.str) (fun i Hx => ∃ ws ds : List Str, Hx h0 = some (.lst (ws.map V.str)) ∧ Hx D = some (.lst (ds.map V.str)) ∧ (ws ++ ds).Perm zs ∧ ds.length = i ∧ FeedC Hx t c (n + i) ∧ Kp t H Hx) ⟨zs, [], same_upd nD _ _ hh, upd_same, by rw [List.append_nil], rfl, hT1.new nD, hK1.new nD⟩ (fun i Hx _ h => ?_) ?_ ?_
    · obtain ⟨_, _, _, _, _, _, _, k⟩ := h
      exact .inl (.inl (k _ _ pt hp))
    · rintro i x Hx hx ⟨ws, ds, h1, h2, pm, ld, hTx, hKx⟩
      have hi := (List.getElem?_eq_some_iff.mp hx).1
      rw [List.length_map] at hi
      have lp := pm.length_eq
      rw [List.length_append] at lp
      refine ⟨rfl, tYesT ⟨_, rfl, .inl ⟨rfl, _, .inl (.inl h1)⟩, _, rfl, _, rfl, h0, _, rfl, .inl (.inl (.inl h1)), t, _, n + i, c, rfl, by rw [List.length_map]; omega, by rw [List.length_map]; omega, hTx, by omega, fun v H4 v0 v1 hT4 hK4 => ?_⟩⟩
      rw [List.length_map] at v1
      have g1 := hK4 _ _ a1 h1
      have g2 := hK4 _ _ d1 h2
      have vw : v.toNat < ws.length := by omega
      have gw : (ws.map V.str)[v.toNat]? = some (.str ws[v.toNat]) := by rw [List.getElem?_map, List.getElem?_eq_getElem vw]; rfl
      refine ⟨h0, _, v, v.toNat, .str ws[v.toNat], rfl, rfl, g1, by omega, by omega, ?_, gw, ?_⟩
      · rw [List.length_map]
        exact PyProof.Rows.seqIndex_at v0 (by omega)
      have k2 : upd H4 h0 (.lst ((ws.map V.str).eraseIdx v.toNat)) D = _ := (upd_ne dh.symm).trans g2
      refine ⟨_, k2, small1000 (by rw [List.length_map]; omega), ws.eraseIdx v.toNat, ds ++ [ws[v.toNat]], ?_, by rw [upd_same, List.map_append]; rfl, ?_, by rw [List.length_append, ld]; rfl, (hT4.updO a1 a2).updO d1 d2, kp_fresh fD (kp_fresh n0 (hKx.trans hK4))⟩
      · rw [upd_ne dh, upd_same, erase_map]
      · refine (List.Perm.trans ?_ pm)
        rw [← List.append_assoc]
        refine (List.perm_append_singleton _ _).trans ?_
        exact (erase_perm vw).append_right ds
    · rintro H3 ⟨ws, ds, h1, h2, pm, ld, hT3, hK3⟩
      rw [List.length_map] at ld hT3
      have lp := pm.length_eq
      rw [List.length_append] at lp
      have e0 : ws = [] := List.length_eq_zero_iff.mp (by omega)
      rw [e0, List.nil_append] at pm
      exact q D ds H3 fD h2 pm hT3 hK3
end
end L45

set_option Elab.async false
set_option linter.all false
set_option maxRecDepth 100000
set_option maxHeartbeats 2000000
namespace L45
open PySem PySem.Spec PyProof.Rows L2 My
section
variable {P : Program} {w : World} {K : PySem.W.Frag} {mg : Str → Option Value} {base : Heap}
theorem idx_at : ∀ {l : List Str} {i : Nat} {x : Str}, l.Nodup → l[i]? = some x → l.idxOf x = i
  | y :: l, 0, x, _, h => by
    have e : y = x := Option.some.inj h
    rw [e, List.idxOf_cons_self]
  | y :: l, i + 1, x, nd, h => by
    obtain ⟨n1, n2⟩ := List.nodup_cons.mp nd
    have h : l[i]? = some x := h
    have ne : y ≠ x := fun e => n1 (by rw [e]; exact List.mem_of_getElem? h)
    rw [List.idxOf_cons]
    rw [show (y == x) = false from beq_eq_false_iff_ne.mpr ne, idx_at n2 h]
    rfl
theorem along_rk {zs : List Str} (nd : zs.Nodup) {n : Nat} {p : Str × Str} (h : p ∈ alongK zs n) : zs.idxOf p.1 < zs.idxOf p.2 ∧ p.1 ∈ zs ∧ p.2 ∈ zs := by
  unfold alongK at h
  obtain ⟨i, _, hp⟩ := List.mem_flatMap.mp h
  cases e : zs[i]? with
  | none => rw [e] at hp; cases hp
  | some x =>
    rw [e] at hp
    obtain ⟨y, hy, rfl⟩ := List.mem_map.mp hp
    obtain ⟨j, hj⟩ := List.mem_iff_getElem?.mp hy
    rw [List.getElem?_drop] at hj
    rw [idx_at nd e, idx_at nd hj]
    exact ⟨by omega, List.mem_of_getElem? e, List.mem_of_getElem? hj⟩
theorem tups_kp {H H' : Hp} {t c : Addr} {n : Nat} (h : FeedC H t c n) (k : Kp t H H') : Tups H H' := fun b xs e => k b _ (fun z => by
  obtain ⟨ns, sp, re, ca, e1, _⟩ := h
  rw [z, e1] at e
  cases e) e
theorem nk_erase {H : Hp} : ∀ {xs : List V} {ks : List NestedKey}, NkAll H xs ks → ∀ i : Nat, NkAll H (xs.eraseIdx i) (ks.eraseIdx i)
  | _, _, .nil, _ => .nil
  | _ :: _, _ :: _, .cons _ h, 0 => h
  | _ :: _, _ :: _, .cons n h, i + 1 => .cons n (nk_erase h i)
theorem say_nk {H : Hp} {x : V} {p : Str × Str} (n : Nk H x (sayK p)) : ∃ q, x = .ref q ∧ H q = some (.tup [.str p.1, .str p.2]) := by
  unfold sayK at n
  cases n with
  | @tup q xs _ h hk =>
    cases hk with
    | cons n1 hk =>
      cases n1
      cases hk with
      | cons n2 hk =>
        cases n2
        cases hk
        exact ⟨q, rfl, h⟩
/-- a pair of two unlike names of the list -/
def InP (zs : List Str) (p : Str × Str) : Prop := p.1 ∈ zs ∧ p.2 ∈ zs ∧ p.1 ≠ p.2
theorem nodup_len {α : Type} {l m : List α} (nd : l.Nodup) (h : ∀ x ∈ l, x ∈ m) : l.length ≤ m.length := by
  induction l generalizing m with
  | nil => exact Nat.zero_le _
  | cons a l ih =>
    obtain ⟨h1, h2⟩ := List.nodup_cons.mp nd
    obtain ⟨s, t, rfl⟩ := List.append_of_mem (h a (.head _))
    have := ih (m := s ++ t) h2 fun x hx => by
      have := h x (.tail _ hx)
      have ne : x ≠ a := fun z => h1 (z ▸ hx)
      simp only [List.mem_append, List.mem_cons] at this ⊢
      rcases this with h | h | h
      · exact .inl h
      · exact absurd h ne
      · exact .inr h
    simp only [List.length_append, List.length_cons] at this ⊢
    omega
theorem ents_say {H : Hp} : ∀ {xs : List V} {ps : List (Str × Str)}, NkAll H xs (ps.map sayK) → ∃ es : List Ent, xs = es.map (fun p => V.ref p.1) ∧ ps.map sayK = es.map (·.2)
  | [], [], .nil => ⟨[], rfl, rfl⟩
  | x :: xs, p :: ps, h => by
    cases h with
    | cons n h =>
      obtain ⟨es, rfl, e⟩ := ents_say h
      obtain ⟨y, rfl, _⟩ := say_nk n
      exact ⟨(y, sayK p) :: es, rfl, by rw [List.map_cons, List.map_cons, e]⟩
theorem ents_nk {H : Hp} : ∀ {es : List Ent}, NkAll H (es.map fun p => V.ref p.1) (es.map (·.2)) → ∀ p ∈ es, Nk H (.ref p.1) p.2
  | [], _, p, hp => by cases hp
  | e :: es, h, p, hp => by
    cases h with
    | cons n h =>
      rcases List.mem_cons.mp hp with rfl | hp
      · exact n
      · exact ents_nk h p hp
theorem says_of {gp : List (Str × Str)} : ∀ {ls : List NestedKey}, (∀ k ∈ ls, ∃ q ∈ gp, k = sayK q) → ∃ ps : List (Str × Str), ls = ps.map sayK ∧ ∀ x ∈ ps, x ∈ gp
  | [], _ => ⟨[], rfl, fun x hx => by cases hx⟩
  | k :: ls, h => by
    obtain ⟨q, hq, rfl⟩ := h k (.head _)
    obtain ⟨ps, e, hp⟩ := says_of fun k hk => h k (.tail _ hk)
    exact ⟨q :: ps, by rw [List.map_cons, e], fun x hx => (List.mem_cons.mp hx).elim (fun e => by rw [e]; exact hq) (hp x)⟩
theorem kp_noneA {t a : Addr} {H H' : Hp} (k : Kp t H H') (n : a ≠ t) (h : H' a = none) : H a = none := by
  cases e : H a with
  | none => rfl
  | some o => rw [k _ _ n e] at h; cases h
theorem none_of {H H' : Hp} {a : Addr} (s : Same H H') (n : H' a = none) : H a = none := by
  cases e : H a with
  | none => rfl
  | some o => rw [s _ _ e] at n; cases n
def spSays : Sp := fun vs H Q _ => ∃ (t c p : Addr) (zs : List Str) (ms n : Nat), vs = [.ref t, .ref p, .int ms] ∧ H p = some (.tup (zs.map V.str)) ∧ zs.length ≤ 9 ∧ zs.Nodup ∧ ms ≤ 40 ∧ FeedC H t c n ∧ n < 800000 ∧
  ∀ (r : Addr) (ro : Obj) (ys : List V) (ps : List (Str × Str)) (H' : Hp), H' r = some (.frz ro (.tup ys)) → TD ro → H r = none → NkAll H' ys (ps.map sayK) → Rs (ps.map sayK) → (∀ x ∈ ps, InP zs x) → ps.length ≤ ms + 2 → FeedC H' t c (n + 60) → Kp t H H' → Q (.ref r) H'
theorem ok_says (T : Tx K mg) : FnOk P w K mg base CX0 3 T.f_w_sayings T.d_w_sayings ["_law_feed_here", "_law_names_here", "_law_most"] (spSays) := by
  have G_w_draw : FnOk P w K mg base CX0 1 T.f_w_draw T.d_w_draw ["_law_feed_here", "_law_many"] (spDraw) := ok_draw T
  have G_w_along : FnOk P w K mg base CX0 1 T.f_w_along T.d_w_along ["_law_order"] (spAlong) := ok_along T
  have G_w_turned : FnOk P w K mg base CX0 2 T.f_w_turned T.d_w_turned ["_law_feed_here", "_law_names_here"] (spTurned) := ok_turned T
  refine T.F_w_sayings.ok S_w_sayings (fun vs H Q E h => ?_) (fun cdv A outer s H vs Q E hr h => ?_)
  · obtain ⟨t, c, p, zs, ms, n, rfl, _⟩ := h
    rfl
  · obtain ⟨t, c, p, zs, ms, n, rfl, hp, l9, nd, m40, hT, hn, q⟩ := h
    refine ⟨_, (pss_cons (ps_set (i := 3) S_w_sayings.nd rfl (.inl rfl) (pe_call G_w_draw (hr.mono (by decide)) (by rfl) T.g_w_draw T.F_w_draw.kp T.b_w_draw .nil pass0 (pa_cons (pv 0) (pa_cons pe_int pa_nil))))
      (pss_cons (ps_set (i := 4) S_w_sayings.nd rfl (.inl rfl) (pe_call G_w_along (hr.mono (by decide)) (by rfl) T.g_w_along T.F_w_along.kp T.b_w_along .nil pass0 (pa_cons (pe_call G_w_turned hr (by rfl) T.g_w_turned T.F_w_turned.kp T.b_w_turned .nil pass0 (pa_cons (pv 0) (pa_cons (pv 1) pa_nil))) pa_nil)))
      (pss_cons (ps_set (i := 5) S_w_sayings.nd rfl (.inr rfl) (pe_ifExp (pt_cmpR op_eq (pv 3) pe_int (nomark _)) (pe_op op_cat (pv 4) (pe_lc (own := [("_law_pair", 9)]) (g := gName 9) (tt := tYes) (by rfl) S_w_sayings.nd (pi_list (pv 4)) (blkOk_by (own := [("_law_pair", 9)]) (N := N_w_sayings) (sc := defScope s_w_sayings) (by decide +kernel)) (fun _ _ _ _ _ => (pg_name (i := 9) S_w_sayings.nd rfl (.inl rfl))) (fun _ _ _ _ _ => pts_nil) (fun _ _ _ _ _ => (pe_revP (K1 := K) rfl (pv 9))))) (pe_callTy call_list_of (by rfl) T.m_list (by decide +kernel) (pa_cons (pv 4) pa_nil))))
      (pss_cons (ps_set (i := 6) S_w_sayings.nd rfl (.inl rfl) (pe_call G_w_draw (hr.mono (by decide)) (by rfl) T.g_w_draw T.F_w_draw.kp T.b_w_draw .nil pass0 (pa_cons (pv 0) (pa_cons (pe_op op_add (pe_callB (call_min2 (by rfl)) (by rfl) T.m_min (by decide +kernel) (pa_cons (pv 2) (pa_cons (pe_callB call_len_seq (by rfl) T.m_len PySem.boot_len (pa_cons (pv 5) pa_nil)) pa_nil))) pe_int) pa_nil))))
      (pss_cons (ps_setLc (i := 7) (own := [("_law_k", 10)]) (g := gName 10) (tt := tYes) (by rfl) S_w_sayings.nd rfl rfl (sw_true rfl rfl rfl (by decide +kernel)) (pi_range1 (by rfl) T.m_range (pa_cons (pv 6) pa_nil)) (blkOk_by (own := [("_law_k", 10)]) (N := N_w_sayings) (sc := defScope s_w_sayings) (by decide +kernel)) (fun _ _ _ _ _ => (pg_name (i := 10) S_w_sayings.nd rfl (.inl rfl))) (fun _ _ _ _ _ => pts_nil) (fun _ _ _ _ _ => (pe_bmK (K1 := K) rfl PySem.F.plainAttrs_list PySem.F.slot_list_pop PySem.F.type_list_pop mt_popAt (pv 5) (pa_cons (pe_call G_w_draw (hr.mono (by decide)) (by rfl) T.g_w_draw T.F_w_draw.kp T.b_w_draw .nil pass0 (pa_cons (pv 0) (pa_cons (pe_callB (r := rLenK K) call_lenK (by rfl) T.m_len PySem.boot_len (pa_cons (pv 5) pa_nil)) pa_nil))) pa_nil))))
      (pss_cons (ps_for PassesOwn.never rfl (pi_range1 (by rfl) T.m_range (pa_cons (pe_callB (call_max2 (by rfl)) (by rfl) T.m_max (by decide +kernel) (pa_cons pe_int (pa_cons (pe_op op_sub (pv 3) pe_int) pa_nil))) pa_nil)) (pg_name (i := 8) S_w_sayings.nd rfl (.inl rfl))
      (pss_one (ps_set (i := 7) S_w_sayings.nd rfl (.inl rfl) (pe_ifExp (pt_cmpR (op_neE (hu_of hr)) (pv 4) (pe_lst pa_nil) (nomark _)) (pe_op op_cat (pv 7) (pe_lst (pa_cons (pe_revP (K1 := K) rfl (pe_ix ix_list (pv 4) (pe_call G_w_draw (hr.mono (by decide)) (by rfl) T.g_w_draw T.F_w_draw.kp T.b_w_draw .nil pass0 (pa_cons (pv 0) (pa_cons (pe_callB call_len_seq (by rfl) T.m_len PySem.boot_len (pa_cons (pv 4) pa_nil)) pa_nil))) (fun _ _ => rfl))) pa_nil))) (pv 7)))))
      (pss_one (ps_ret (pe_callTy call_tupleD (by rfl) T.m_tuple (by decide +kernel) (pa_cons (pe_callB (cr_sortS (by rfl) (un64 hr)) (by rfl) T.m_sorted (by decide +kernel) (pa_cons (pe_callTy (cr_setN (by rfl) (un64 hr)) (by rfl) T.m_set (by decide +kernel) (pa_cons (pv 7) pa_nil)) pa_nil)) pa_nil)))))))))), ?_⟩
    have pt : p ≠ t := fun z => by
      obtain ⟨ns, sp, re, ca, e1, _⟩ := hT
      rw [z, e1] at hp
      cases hp
    refine ⟨_, rfl, t, 4, n, c, rfl, by decide, by decide, hT, by omega, fun wy H1 w0 w1 hT1 hK1 => ?_⟩
    refine ⟨_, rfl, _, rfl, t, c, p, zs, n + 1, rfl, hK1 _ _ pt hp, l9, hT1, by omega, fun D ds H2 fD hD pm hT2 hK2 => ?_⟩
    have lds := pm.length_eq
    refine ⟨D, ds, rfl, hD, by omega, fun A1 ys H3 s3 fA hA nkA => ?_⟩
    have ndd : ds.Nodup := pm.nodup_iff.mpr nd
    have inA : ∀ x ∈ alongK ds ds.length, InP zs x := fun x hx => by
      obtain ⟨a1, a2, a3⟩ := along_rk ndd hx
      exact ⟨pm.mem_iff.mp a2, pm.mem_iff.mp a3, fun z => by rw [z] at a1; omega⟩
    have l81 : (alongK ds ds.length).length ≤ 81 := by have := along_len (zs := ds) (by omega) ds.length (Nat.le_refl _); omega
    generalize alongK ds ds.length = al at nkA inA l81
    have lA : ys.length = al.length := by have := nkA.length; rw [List.length_map] at this; exact this
    have k3 : Kp t H H3 := (hK1.trans hK2).trans (.of_same s3)
    have hT3 := hT2.same s3
    obtain ⟨At, Ac⟩ := hT2.ne fA
    have fA0 := kp_none (hK1.trans hK2) fA At
    clear hT2 hT1 hK1 hK2 s3 hD fD fA
    refine ⟨_, rfl, rfl, _, rfl, ite2 (fun e => ?_) (fun e => ?_)⟩
    · refine ⟨_, rfl, _, rfl, A1, rfl, ⟨_, .inl (.inl hA)⟩, fun G nG => ?_⟩
      refine lc_list (xs := ys) (fun j H' => ∃ us, H' G = some (.lst us) ∧ Same H3 H' ∧ NkAll H' us (((al.take j).map fun x => (x.2, x.1)).map sayK)) ⟨[], upd_same, same_upd nG, .nil⟩ (fun j H' hj h => by obtain ⟨_, _, k, _⟩ := h; exact .inl (.inl (k _ _ hA))) ?_ ?_
      · rintro j x H' hx ⟨us, hG, sG, nu⟩
        obtain ⟨kk, hkk, nx⟩ := nkA.get hx
        obtain ⟨y, hy, rfl⟩ : ∃ y, al[j]? = some y ∧ kk = sayK y := by
          rw [List.getElem?_map] at hkk
          cases e : al[j]? with
          | none => rw [e] at hkk; cases hkk
          | some y => rw [e] at hkk; exact ⟨y, rfl, (Option.some.inj hkk).symm⟩
        obtain ⟨ra, rfl, hra⟩ := say_nk nx
        have hj := (List.getElem?_eq_some_iff.mp hy).1
        have lu : us.length ≤ j := by have := nu.length; rw [List.length_map, List.length_map, List.length_take] at this; omega
        refine ⟨rfl, tYesT ⟨_, rfl, ra, _, _, rfl, .inl (.inl (sG _ _ hra)), fun c3 n3 => ?_⟩⟩
        have s3 := same_upd (o := .tup [.str y.2, .str y.1]) n3
        have hG3 := s3 _ _ hG
        have tG := tups_lst (o := .lst (us ++ [.ref c3])) hG3
        refine ⟨us, hG3, small1000 (by omega), us ++ [.ref c3], upd_same, same_fresh nG (sG.trans s3), ?_⟩
        rw [List.take_add_one, hy, List.map_append, List.map_append]
        exact ((nu.at (.same s3)).app (.cons (nk_say upd_same) .nil)).at tG
      · rintro H4 ⟨us, hG, sG, nu⟩
        rw [List.take_of_length_le (by omega)] at nu
        have lu : us.length = al.length := by have := nu.length; rw [List.length_map, List.length_map] at this; exact this
        refine ⟨A1, G, _, _, rfl, rfl, sG _ _ hA, hG, sz (by omega), fun S nS => ?_⟩
        have s5 := sG.trans (same_upd (o := .lst (ys ++ us)) nS)
        have hS := upd_same (H := H4) (a := S) (o := .lst (ys ++ us))
        have nkS : NkAll (upd H4 S (.lst (ys ++ us))) (ys ++ us) ((al ++ al.map fun x => (x.2, x.1)).map sayK) := by
          rw [List.map_append]
          exact ((nkA.at (.same sG)).app nu).at (.same (same_upd nS))
        have inS : ∀ x ∈ al ++ al.map (fun x => (x.2, x.1)), InP zs x := fun x hx => by
          rcases List.mem_append.mp hx with h | h
          · exact inA x h
          · obtain ⟨y, hy, rfl⟩ := List.mem_map.mp h
            obtain ⟨a1, a2, a3⟩ := inA y hy
            exact ⟨a2, a1, a3.symm⟩
        have lS : (al ++ al.map fun x => (x.2, x.1)).length ≤ 162 := by rw [List.length_append, List.length_map]; omega
        have fS : H3 S = none := by
          cases e : H3 S with
          | none => rfl
          | some o => rw [sG _ _ e] at nS; cases nS
        generalize upd H4 S (.lst (ys ++ us)) = H5 at s5 hS nkS ⊢
        generalize ys ++ us = ss at hS nkS
        generalize (al ++ al.map fun x => (x.2, x.1)) = sp at nkS inS lS
        have hA5 := s5 _ _ hA
        have hT5 := hT3.same s5
        have k5 := k3.trans (.of_same s5)
        obtain ⟨St, Sc⟩ := hT3.ne fS
        have fS0 := kp_none k3 fS St
        have SA : A1 ≠ S := ne_of_none hA fS
        have nkA5 := nkA.at (.same s5)
        have lS2 : ss.length = sp.length := by have := nkS.length; rw [List.length_map] at this; exact this
        refine ⟨_, rfl, _, rfl, _, rfl, S, _, rfl, .inl (.inl (.inl hS)), _, _, rfl, _, _, rfl, rfl, t, _, n + 1 + zs.length, c, rfl, by split <;> omega, by split <;> omega, hT5, by omega, fun v H6 v0 v1 hT6 hK6 => ?_⟩
        obtain ⟨mm, rfl⟩ : ∃ mm : Nat, v = (mm : Int) := ⟨v.toNat, by omega⟩
        have mb : mm ≤ ms ∧ mm ≤ sp.length := by split at v1 <;> omega
        have k6 := k5.trans hK6
        have t6 := tups_kp hT5 hK6
        have hA6 := hK6 _ _ At hA5
        have hS6 := hK6 _ _ St hS
        have nkA6 := nkA5.at t6
        have nkS6 := nkS.at t6
        refine ⟨_, rfl, mm, rfl, by omega, by omega, fun F nF => ?_⟩
        obtain ⟨f1, f2⟩ := hT6.ne nF
        have fF := kp_none k6 nF f1
        have SF : S ≠ F := ne_of_none hS6 nF
        have AF : A1 ≠ F := ne_of_none hA6 nF
        refine lc_range (lo := 0) (n := mm) (fun j Hy => ∃ (rs gs : List V) (rp gp : List (Str × Str)), Hy S = some (.lst rs) ∧ NkAll Hy rs (rp.map sayK) ∧ Hy F = some (.lst gs) ∧ NkAll Hy gs (gp.map sayK) ∧ (∀ x ∈ rp, x ∈ sp) ∧ (∀ x ∈ gp, x ∈ sp) ∧ rp.length + j = sp.length ∧ gp.length = j ∧ FeedC Hy t c (n + 11 + j) ∧ Kp t H Hy ∧ Hy A1 = some (.lst ys) ∧ NkAll Hy ys (al.map sayK)) ⟨ss, [], sp, [], same_upd nF _ _ hS6, nkS6.at (.same (same_upd nF)), upd_same, .nil, (fun x hx => hx), (fun x hx => by cases hx), rfl, rfl, (hT6.new nF).mono (by omega), k6.new nF, same_upd nF _ _ hA6, nkA6.at (.same (same_upd nF))⟩ ?_ ?_
        · rintro j Hy hj ⟨rs, gs, rp, gp, h1, nr, h2, ng, sr, sg', lr, lg, hTy, hKy, hAy, nAy⟩
          have lrs : rs.length = rp.length := by have := nr.length; rw [List.length_map] at this; exact this
          have lgs : gs.length = gp.length := by have := ng.length; rw [List.length_map] at this; exact this
          refine ⟨rfl, tYesT ⟨_, rfl, .inl ⟨rfl, _, .inl (.inl h1)⟩, _, rfl, _, rfl, S, _, rfl, .inl (.inl (.inl h1)), t, _, n + 11 + j, c, rfl, by omega, by omega, hTy, by omega, fun v H8 v0 v1 hT8 hK8 => ?_⟩⟩
          have g1 := hK8 _ _ St h1
          have g2 := hK8 _ _ f1 h2
          have gA := hK8 _ _ At hAy
          have t8 := tups_kp hTy hK8
          have vw : v.toNat < rs.length := by omega
          have vp : v.toNat < rp.length := by omega
          refine ⟨S, _, v, v.toNat, rs[v.toNat], rfl, rfl, g1, by omega, by omega, PyProof.Rows.seqIndex_at v0 (by omega), List.getElem?_eq_getElem vw, ?_⟩
          have k2 : upd H8 S (.lst (rs.eraseIdx v.toNat)) F = _ := (upd_ne SF.symm).trans g2
          have tAB := (t8.trans (tups_lst (o := .lst (rs.eraseIdx v.toNat)) g1)).trans (tups_lst (o := .lst (gs ++ [rs[v.toNat]])) k2)
          obtain ⟨kx, hkx, nx⟩ := nr.get (List.getElem?_eq_getElem vw)
          have ekx : kx = sayK rp[v.toNat] := by
            rw [List.getElem?_map, List.getElem?_eq_getElem vp] at hkx
            exact (Option.some.inj hkx).symm
          subst ekx
          refine ⟨gs, k2, small1000 (by omega), rs.eraseIdx v.toNat, gs ++ [rs[v.toNat]], rp.eraseIdx v.toNat, gp ++ [rp[v.toNat]], by rw [upd_ne SF, upd_same], by rw [← erase_map]; exact (nk_erase nr v.toNat).at tAB, upd_same, by rw [List.map_append]; exact (ng.app (.cons nx .nil)).at tAB, fun x hx => sr x (List.mem_of_mem_eraseIdx hx), fun x hx => ?_, by rw [List.length_eraseIdx_of_lt vp]; omega, by rw [List.length_append, lg]; rfl, (hT8.updO St Sc).updO f1 f2, kp_fresh fF (kp_fresh fS0 (hKy.trans hK8)), by rw [upd_ne AF, upd_ne SA]; exact gA, nAy.at tAB⟩
          rcases List.mem_append.mp hx with h | h
          · exact sg' x h
          · rw [List.mem_singleton.mp h]; exact sr _ (List.getElem_mem vp)
        · rintro H8 ⟨rs, gs, rp, gp, h1, nr, h2, ng, sr, sg', lr, lg, hT8, hK8, hA8, nA8⟩
          obtain ⟨kk, hkk, k2⟩ : ∃ kk : Nat, (if wy - 1 > 0 then wy - 1 else 0) = (kk : Int) ∧ kk ≤ 2 := by
            refine ⟨(wy - 1).toNat, ?_, by omega⟩
            split <;> omega
          have inG : ∀ x ∈ gp, InP zs x := fun x hx => inS x (sg' x hx)
          refine ⟨_, rfl, _, _, rfl, rfl, _, _, rfl, (kk : Int), congrArg (fun x => [V.int x]) hkk, by omega, by omega, ?_⟩
          refine for_range (lo := 0) (n := kk) (fun i σ Hx => ∃ (y8 y9 y10 : Option V) (fp : Addr) (gs : List V) (gp : List (Str × Str)), σ = [some (.ref t), some (.ref p), some (.int ms), some (.int wy), some (.ref A1), some (.ref S), some (.int mm), some (.ref fp), y8, y9, y10] ∧ Hx fp = some (.lst gs) ∧ NkAll Hx gs (gp.map sayK) ∧ (∀ x ∈ gp, InP zs x) ∧ gp.length ≤ mm + i ∧ FeedC Hx t c (n + 11 + mm + i) ∧ Kp t H Hx ∧ Hx A1 = some (.lst ys) ∧ NkAll Hx ys (al.map sayK)) ⟨_, _, _, F, gs, gp, rfl, h2, ng, inG, by omega, hT8, hK8, hA8, nA8⟩ ?_ ?_
          · rintro i σ Hx hi ⟨y8, y9, y10, fp, gs, gp, rfl, hf, nf, inF, lf, hTx, hKx, hAx, nAx⟩
            refine ⟨_, rfl, sz (by show 0 ≤ 1000; decide), fun Z nZ => ?_⟩
            have sZ := same_upd (o := .lst []) nZ
            have hfZ := sZ _ _ hf
            have hAZ := sZ _ _ hAx
            have nfZ := nf.at (.same sZ)
            have nAZ := nAx.at (.same sZ)
            have hTZ := hTx.same sZ
            have hKZ := hKx.trans (.of_same sZ)
            have hZ := upd_same (H := Hx) (a := Z) (o := .lst [])
            generalize upd Hx Z (.lst []) = Hz at hfZ hAZ nfZ nAZ hTZ hKZ hZ ⊢
            refine ⟨A1, Z, _, rfl, rfl, .inl (.inl hAZ), .inl (.inl hZ), _, rfl, ite2 (fun e => ?_) (fun e => ?_)⟩
            · have ne : 0 < ys.length := by
                cases ys with
                | nil => cases e
                | cons => exact Nat.succ_pos _
              refine ⟨_, rfl, _, rfl, _, rfl, _, rfl, A1, _, rfl, .inl (.inl (.inl hAZ)), t, _, n + 11 + mm + i, c, rfl, by omega, by omega, hTZ, by omega, fun v H9 v0 v1 hT9 hK9 => ?_⟩
              have t9 := tups_kp hTZ hK9
              have hA9 := hK9 _ _ At hAZ
              have nA9 := nAZ.at t9
              have ft : fp ≠ t := fun z => by
                obtain ⟨ns, sp, re, ca, e1, _⟩ := hTZ
                rw [z, e1] at hfZ
                have e5 := HO.lst.inj (Option.some.inj hfZ)
                have e6 : gs = fd4 c sp re ca := e5.symm
                have l6 := nfZ.get (i := 1) (x := .int sp) (by rw [e6]; rfl)
                obtain ⟨k6, hk6, nk6⟩ := l6
                rw [List.getElem?_map] at hk6
                cases hq : gp[1]? with
                | none => rw [hq] at hk6; cases hk6
                | some y =>
                  rw [hq] at hk6
                  have := Option.some.inj hk6
                  rw [← this] at nk6
                  obtain ⟨_, e7, _⟩ := say_nk nk6
                  cases e7
              have hf9 := hK9 _ _ ft hfZ
              have nf9 := nfZ.at t9
              have vw : v.toNat < ys.length := by omega
              have vp : v.toNat < al.length := by omega
              obtain ⟨kx, hkx, nx⟩ := nA9.get (List.getElem?_eq_getElem vw)
              have ekx : kx = sayK al[v.toNat] := by
                rw [List.getElem?_map, List.getElem?_eq_getElem vp] at hkx
                exact (Option.some.inj hkx).symm
              subst ekx
              obtain ⟨ra, era, hra⟩ := say_nk nx
              have inx := inA _ (List.getElem_mem vp)
              generalize al[v.toNat] = y at hra inx
              refine ⟨A1, _, v, ys[v.toNat], rfl, rfl, .inl (.inl hA9), atI_int v0 (List.getElem?_eq_getElem vw), ?_⟩
              rw [era]
              refine ⟨ra, _, _, rfl, .inl (.inl hra), fun b nb => ?_⟩
              have sb := same_upd (o := .tup [.str y.2, .str y.1]) nb
              have hb := upd_same (H := H9) (a := b) (o := .tup [.str y.2, .str y.1])
              have hfb := sb _ _ hf9
              have hAb := sb _ _ hA9
              have nfb := nf9.at (.same sb)
              have nAb := nA9.at (.same sb)
              have hTb := hT9.same sb
              have hKb := (hKZ.trans hK9).trans (.of_same sb)
              generalize upd H9 b (.tup [.str y.2, .str y.1]) = Hb at hb hfb hAb nfb nAb hTb hKb ⊢
              refine ⟨sz (by show 1 ≤ 1000; decide), fun E1 nE => ?_⟩
              have sE := same_upd (o := .lst [.ref b]) nE
              have lgs : gs.length = gp.length := by have := nf.length; rw [List.length_map] at this; exact this
              refine ⟨fp, E1, _, _, rfl, rfl, sE _ _ hfb, upd_same, sz (by show gs.length + 1 ≤ 1000; omega), fun fq nq => ?_⟩
              have sq := same_upd (o := .lst (gs ++ [.ref b])) nq
              have s2 := sE.trans sq
              refine ⟨_, _, _, fq, gs ++ [.ref b], gp ++ [(y.2, y.1)], rfl, upd_same, ?_, fun x hx => ?_, by rw [List.length_append]; show _ + 1 ≤ _; omega, (hTb.same s2).mono (by omega), hKb.trans (.of_same s2), s2 _ _ hAb, nAb.at (.same s2)⟩
              · rw [List.map_append]
                exact (nfb.app (.cons (nk_say hb) .nil)).at (.same s2)
              · rcases List.mem_append.mp hx with h | h
                · exact inF x h
                · rw [List.mem_singleton.mp h]; exact ⟨inx.2.1, inx.1, inx.2.2.symm⟩
            · exact ⟨_, rfl, _, _, _, fp, gs, gp, rfl, hfZ, nfZ, inF, by omega, hTZ.mono (by omega), hKZ, hAZ, nAZ⟩
          · rintro σ Hx ⟨y8, y9, y10, fp, gs, gp, rfl, hf, nf, inF, lf, hTx, hKx, hAx, nAx⟩
            obtain ⟨es, rfl, ek⟩ := ents_say nf
            rw [ek] at nf
            have le : es.length = gp.length := by have := congrArg List.length ek; rw [List.length_map, List.length_map] at this; exact this.symm
            have nke : ∀ x ∈ es, Nk Hx (.ref x.1) x.2 := ents_nk nf
            have sye : ∀ x ∈ es, ∃ q ∈ gp, x.2 = sayK q := fun x hx => by
              have : x.2 ∈ gp.map sayK := by rw [ek]; exact List.mem_map_of_mem hx
              obtain ⟨q, hq, e⟩ := List.mem_map.mp this
              exact ⟨q, hq, e.symm⟩
            refine ⟨_, rfl, fp, es, rfl, .inl (.inl hf), fun x hx => ⟨nke x hx, by obtain ⟨q, _, e⟩ := sye x hx; rw [e]; exact say_depth q⟩, by omega, fun S2 M nS2 m1 m2 ndM => ?_⟩
            have t3 := same_upd (o := My.SetO w S2 M) nS2
            refine ⟨S2, M, rfl, upd_same, fun x hx => ⟨(nke x (m1 x hx)).at (.same t3), by obtain ⟨q, _, e⟩ := sye x (m1 x hx); rw [e]; exact say_depth q⟩, say_sbl (fun k hk => by obtain ⟨x, hx, rfl⟩ := List.mem_map.mp hk; obtain ⟨q, _, e⟩ := sye x (m1 x hx); exact ⟨q, e⟩), fun M' b pm2 nb => ?_⟩
            have mm2 : ∀ x ∈ M', x ∈ M := fun x hx => pm2.mem_iff.mp hx
            have t4 := same_upd (o := .lst ((srt (M'.map fun q => V.ref q.1) (M'.map (·.2))).map Prod.fst)) nb
            refine ⟨b, _, rfl, .inl (.inl upd_same), fun r ro nr tdr => ?_⟩
            have rt := ((hTx.same (t3.trans t4)).ne nr).1
            have nrH := kp_noneA hKx rt (none_of (t3.trans t4) nr)
            have t5 := same_upd (o := .frz ro (.tup ((srt (M'.map fun q => V.ref q.1) (M'.map (·.2))).map Prod.fst))) nr
            have sA := t3.trans (t4.trans t5)
            obtain ⟨ls2, k1, k2', k3', k4⟩ := srt_ok (M := M') (fun x hx => (nke x (m1 x (mm2 x hx))).at (.same sA)) (fun x hx => by obtain ⟨q, _, e⟩ := sye x (m1 x (mm2 x hx)); exact ⟨q, e⟩) ((pm2.map (·.2)).nodup_iff.mpr ndM)
            have each : ∀ k ∈ ls2, ∃ q ∈ gp, k = sayK q := fun k hk => by
              have := (k3' k).mp hk
              obtain ⟨x, hx, rfl⟩ := List.mem_map.mp this
              exact sye x (m1 x (mm2 x hx))
            obtain ⟨ps, eps, inp⟩ := says_of each
            subst eps
            refine q r ro _ ps _ upd_same tdr nrH k1 k2' (fun x hx => inF x (inp x hx)) ?_ ((hTx.same sA).mono (by omega)) (hKx.trans (.of_same sA))
            have lM : M.length ≤ es.length := by
              have := nodup_len (l := M.map (·.2)) (m := es.map (·.2)) ndM fun k hk => by obtain ⟨x, hx, rfl⟩ := List.mem_map.mp hk; exact List.mem_map_of_mem (m1 x hx)
              rwa [List.length_map, List.length_map] at this
            have l1 : ps.length = M'.length := by rw [← k4, List.length_map]
            rw [l1, pm2.length_eq]
            omega
    · refine ⟨_, rfl, A1, _, rfl, .inl (.inl (.inl hA)), fun S nS => ?_⟩
      have s5 := same_upd (o := .lst ys) nS
      have hS := upd_same (H := H3) (a := S) (o := .lst ys)
      have nkS := nkA.at (.same s5)
      have inS := inA
      have lS : al.length ≤ 162 := by omega
      have fS := nS
      generalize upd H3 S (.lst ys) = H5 at s5 hS nkS ⊢
      obtain ⟨ss, ess⟩ : ∃ ss, ss = ys := ⟨_, rfl⟩
      obtain ⟨sp, esp⟩ : ∃ sp, sp = al := ⟨_, rfl⟩
      rw [← ess] at hS nkS
      rw [← esp] at nkS inS lS
      have hA5 := s5 _ _ hA
      have hT5 := hT3.same s5
      have k5 := k3.trans (.of_same s5)
      obtain ⟨St, Sc⟩ := hT3.ne fS
      have fS0 := kp_none k3 fS St
      have SA : A1 ≠ S := ne_of_none hA fS
      have nkA5 := nkA.at (.same s5)
      have lS2 : ss.length = sp.length := by have := nkS.length; rw [List.length_map] at this; exact this
      refine ⟨_, rfl, _, rfl, _, rfl, S, _, rfl, .inl (.inl (.inl hS)), _, _, rfl, _, _, rfl, rfl, t, _, n + 1 + zs.length, c, rfl, by split <;> omega, by split <;> omega, hT5, by omega, fun v H6 v0 v1 hT6 hK6 => ?_⟩
      obtain ⟨mm, rfl⟩ : ∃ mm : Nat, v = (mm : Int) := ⟨v.toNat, by omega⟩
      have mb : mm ≤ ms ∧ mm ≤ sp.length := by split at v1 <;> omega
      have k6 := k5.trans hK6
      have t6 := tups_kp hT5 hK6
      have hA6 := hK6 _ _ At hA5
      have hS6 := hK6 _ _ St hS
      have nkA6 := nkA5.at t6
      have nkS6 := nkS.at t6
      refine ⟨_, rfl, mm, rfl, by omega, by omega, fun F nF => ?_⟩
      obtain ⟨f1, f2⟩ := hT6.ne nF
      have fF := kp_none k6 nF f1
      have SF : S ≠ F := ne_of_none hS6 nF
      have AF : A1 ≠ F := ne_of_none hA6 nF
      refine lc_range (lo := 0) (n := mm) (fun j Hy => ∃ (rs gs : List V) (rp gp : List (Str × Str)), Hy S = some (.lst rs) ∧ NkAll Hy rs (rp.map sayK) ∧ Hy F = some (.lst gs) ∧ NkAll Hy gs (gp.map sayK) ∧ (∀ x ∈ rp, x ∈ sp) ∧ (∀ x ∈ gp, x ∈ sp) ∧ rp.length + j = sp.length ∧ gp.length = j ∧ FeedC Hy t c (n + 11 + j) ∧ Kp t H Hy ∧ Hy A1 = some (.lst ys) ∧ NkAll Hy ys (al.map sayK)) ⟨ss, [], sp, [], same_upd nF _ _ hS6, nkS6.at (.same (same_upd nF)), upd_same, .nil, (fun x hx => hx), (fun x hx => by cases hx), rfl, rfl, (hT6.new nF).mono (by omega), k6.new nF, same_upd nF _ _ hA6, nkA6.at (.same (same_upd nF))⟩ ?_ ?_
      · rintro j Hy hj ⟨rs, gs, rp, gp, h1, nr, h2, ng, sr, sg', lr, lg, hTy, hKy, hAy, nAy⟩
        have lrs : rs.length = rp.length := by have := nr.length; rw [List.length_map] at this; exact this
        have lgs : gs.length = gp.length := by have := ng.length; rw [List.length_map] at this; exact this
        refine ⟨rfl, tYesT ⟨_, rfl, .inl ⟨rfl, _, .inl (.inl h1)⟩, _, rfl, _, rfl, S, _, rfl, .inl (.inl (.inl h1)), t, _, n + 11 + j, c, rfl, by omega, by omega, hTy, by omega, fun v H8 v0 v1 hT8 hK8 => ?_⟩⟩
        have g1 := hK8 _ _ St h1
        have g2 := hK8 _ _ f1 h2
        have gA := hK8 _ _ At hAy
        have t8 := tups_kp hTy hK8
        have vw : v.toNat < rs.length := by omega
        have vp : v.toNat < rp.length := by omega
        refine ⟨S, _, v, v.toNat, rs[v.toNat], rfl, rfl, g1, by omega, by omega, PyProof.Rows.seqIndex_at v0 (by omega), List.getElem?_eq_getElem vw, ?_⟩
        have k2 : upd H8 S (.lst (rs.eraseIdx v.toNat)) F = _ := (upd_ne SF.symm).trans g2
        have tAB := (t8.trans (tups_lst (o := .lst (rs.eraseIdx v.toNat)) g1)).trans (tups_lst (o := .lst (gs ++ [rs[v.toNat]])) k2)
        obtain ⟨kx, hkx, nx⟩ := nr.get (List.getElem?_eq_getElem vw)
        have ekx : kx = sayK rp[v.toNat] := by
          rw [List.getElem?_map, List.getElem?_eq_getElem vp] at hkx
          exact (Option.some.inj hkx).symm
        subst ekx
        refine ⟨gs, k2, small1000 (by omega), rs.eraseIdx v.toNat, gs ++ [rs[v.toNat]], rp.eraseIdx v.toNat, gp ++ [rp[v.toNat]], by rw [upd_ne SF, upd_same], by rw [← erase_map]; exact (nk_erase nr v.toNat).at tAB, upd_same, by rw [List.map_append]; exact (ng.app (.cons nx .nil)).at tAB, fun x hx => sr x (List.mem_of_mem_eraseIdx hx), fun x hx => ?_, by rw [List.length_eraseIdx_of_lt vp]; omega, by rw [List.length_append, lg]; rfl, (hT8.updO St Sc).updO f1 f2, kp_fresh fF (kp_fresh fS0 (hKy.trans hK8)), by rw [upd_ne AF, upd_ne SA]; exact gA, nAy.at tAB⟩
        rcases List.mem_append.mp hx with h | h
        · exact sg' x h
        · rw [List.mem_singleton.mp h]; exact sr _ (List.getElem_mem vp)
      · rintro H8 ⟨rs, gs, rp, gp, h1, nr, h2, ng, sr, sg', lr, lg, hT8, hK8, hA8, nA8⟩
        obtain ⟨kk, hkk, k2⟩ : ∃ kk : Nat, (if wy - 1 > 0 then wy - 1 else 0) = (kk : Int) ∧ kk ≤ 2 := by
          refine ⟨(wy - 1).toNat, ?_, by omega⟩
          split <;> omega
        have inG : ∀ x ∈ gp, InP zs x := fun x hx => inS x (sg' x hx)
        refine ⟨_, rfl, _, _, rfl, rfl, _, _, rfl, (kk : Int), congrArg (fun x => [V.int x]) hkk, by omega, by omega, ?_⟩
        refine for_range (lo := 0) (n := kk) (fun i σ Hx => ∃ (y8 y9 y10 : Option V) (fp : Addr) (gs : List V) (gp : List (Str × Str)), σ = [some (.ref t), some (.ref p), some (.int ms), some (.int wy), some (.ref A1), some (.ref S), some (.int mm), some (.ref fp), y8, y9, y10] ∧ Hx fp = some (.lst gs) ∧ NkAll Hx gs (gp.map sayK) ∧ (∀ x ∈ gp, InP zs x) ∧ gp.length ≤ mm + i ∧ FeedC Hx t c (n + 11 + mm + i) ∧ Kp t H Hx ∧ Hx A1 = some (.lst ys) ∧ NkAll Hx ys (al.map sayK)) ⟨_, _, _, F, gs, gp, rfl, h2, ng, inG, by omega, hT8, hK8, hA8, nA8⟩ ?_ ?_
        · rintro i σ Hx hi ⟨y8, y9, y10, fp, gs, gp, rfl, hf, nf, inF, lf, hTx, hKx, hAx, nAx⟩
          refine ⟨_, rfl, sz (by show 0 ≤ 1000; decide), fun Z nZ => ?_⟩
          have sZ := same_upd (o := .lst []) nZ
          have hfZ := sZ _ _ hf
          have hAZ := sZ _ _ hAx
          have nfZ := nf.at (.same sZ)
          have nAZ := nAx.at (.same sZ)
          have hTZ := hTx.same sZ
          have hKZ := hKx.trans (.of_same sZ)
          have hZ := upd_same (H := Hx) (a := Z) (o := .lst [])
          generalize upd Hx Z (.lst []) = Hz at hfZ hAZ nfZ nAZ hTZ hKZ hZ ⊢
          refine ⟨A1, Z, _, rfl, rfl, .inl (.inl hAZ), .inl (.inl hZ), _, rfl, ite2 (fun e => ?_) (fun e => ?_)⟩
          · have ne : 0 < ys.length := by
              cases ys with
              | nil => cases e
              | cons => exact Nat.succ_pos _
            refine ⟨_, rfl, _, rfl, _, rfl, _, rfl, A1, _, rfl, .inl (.inl (.inl hAZ)), t, _, n + 11 + mm + i, c, rfl, by omega, by omega, hTZ, by omega, fun v H9 v0 v1 hT9 hK9 => ?_⟩
            have t9 := tups_kp hTZ hK9
            have hA9 := hK9 _ _ At hAZ
            have nA9 := nAZ.at t9
            have ft : fp ≠ t := fun z => by
              obtain ⟨ns, sp, re, ca, e1, _⟩ := hTZ
              rw [z, e1] at hfZ
              have e5 := HO.lst.inj (Option.some.inj hfZ)
              have e6 : gs = fd4 c sp re ca := e5.symm
              have l6 := nfZ.get (i := 1) (x := .int sp) (by rw [e6]; rfl)
              obtain ⟨k6, hk6, nk6⟩ := l6
              rw [List.getElem?_map] at hk6
              cases hq : gp[1]? with
              | none => rw [hq] at hk6; cases hk6
              | some y =>
                rw [hq] at hk6
                have := Option.some.inj hk6
                rw [← this] at nk6
                obtain ⟨_, e7, _⟩ := say_nk nk6
                cases e7
            have hf9 := hK9 _ _ ft hfZ
            have nf9 := nfZ.at t9
            have vw : v.toNat < ys.length := by omega
            have vp : v.toNat < al.length := by omega
            obtain ⟨kx, hkx, nx⟩ := nA9.get (List.getElem?_eq_getElem vw)
            have ekx : kx = sayK al[v.toNat] := by
              rw [List.getElem?_map, List.getElem?_eq_getElem vp] at hkx
              exact (Option.some.inj hkx).symm
            subst ekx
            obtain ⟨ra, era, hra⟩ := say_nk nx
            have inx := inA _ (List.getElem_mem vp)
            generalize al[v.toNat] = y at hra inx
            refine ⟨A1, _, v, ys[v.toNat], rfl, rfl, .inl (.inl hA9), atI_int v0 (List.getElem?_eq_getElem vw), ?_⟩
            rw [era]
            refine ⟨ra, _, _, rfl, .inl (.inl hra), fun b nb => ?_⟩
            have sb := same_upd (o := .tup [.str y.2, .str y.1]) nb
            have hb := upd_same (H := H9) (a := b) (o := .tup [.str y.2, .str y.1])
            have hfb := sb _ _ hf9
            have hAb := sb _ _ hA9
            have nfb := nf9.at (.same sb)
            have nAb := nA9.at (.same sb)
            have hTb := hT9.same sb
            have hKb := (hKZ.trans hK9).trans (.of_same sb)
            generalize upd H9 b (.tup [.str y.2, .str y.1]) = Hb at hb hfb hAb nfb nAb hTb hKb ⊢
            refine ⟨sz (by show 1 ≤ 1000; decide), fun E1 nE => ?_⟩
            have sE := same_upd (o := .lst [.ref b]) nE
            have lgs : gs.length = gp.length := by have := nf.length; rw [List.length_map] at this; exact this
            refine ⟨fp, E1, _, _, rfl, rfl, sE _ _ hfb, upd_same, sz (by show gs.length + 1 ≤ 1000; omega), fun fq nq => ?_⟩
            have sq := same_upd (o := .lst (gs ++ [.ref b])) nq
            have s2 := sE.trans sq
            refine ⟨_, _, _, fq, gs ++ [.ref b], gp ++ [(y.2, y.1)], rfl, upd_same, ?_, fun x hx => ?_, by rw [List.length_append]; show _ + 1 ≤ _; omega, (hTb.same s2).mono (by omega), hKb.trans (.of_same s2), s2 _ _ hAb, nAb.at (.same s2)⟩
            · rw [List.map_append]
              exact (nfb.app (.cons (nk_say hb) .nil)).at (.same s2)
            · rcases List.mem_append.mp hx with h | h
              · exact inF x h
              · rw [List.mem_singleton.mp h]; exact ⟨inx.2.1, inx.1, inx.2.2.symm⟩
          · exact ⟨_, rfl, _, _, _, fp, gs, gp, rfl, hfZ, nfZ, inF, by omega, hTZ.mono (by omega), hKZ, hAZ, nAZ⟩
        · rintro σ Hx ⟨y8, y9, y10, fp, gs, gp, rfl, hf, nf, inF, lf, hTx, hKx, hAx, nAx⟩
          obtain ⟨es, rfl, ek⟩ := ents_say nf
          rw [ek] at nf
          have le : es.length = gp.length := by have := congrArg List.length ek; rw [List.length_map, List.length_map] at this; exact this.symm
          have nke : ∀ x ∈ es, Nk Hx (.ref x.1) x.2 := ents_nk nf
          have sye : ∀ x ∈ es, ∃ q ∈ gp, x.2 = sayK q := fun x hx => by
            have : x.2 ∈ gp.map sayK := by rw [ek]; exact List.mem_map_of_mem hx
            obtain ⟨q, hq, e⟩ := List.mem_map.mp this
            exact ⟨q, hq, e.symm⟩
          refine ⟨_, rfl, fp, es, rfl, .inl (.inl hf), fun x hx => ⟨nke x hx, by obtain ⟨q, _, e⟩ := sye x hx; rw [e]; exact say_depth q⟩, by omega, fun S2 M nS2 m1 m2 ndM => ?_⟩
          have t3 := same_upd (o := My.SetO w S2 M) nS2
          refine ⟨S2, M, rfl, upd_same, fun x hx => ⟨(nke x (m1 x hx)).at (.same t3), by obtain ⟨q, _, e⟩ := sye x (m1 x hx); rw [e]; exact say_depth q⟩, say_sbl (fun k hk => by obtain ⟨x, hx, rfl⟩ := List.mem_map.mp hk; obtain ⟨q, _, e⟩ := sye x (m1 x hx); exact ⟨q, e⟩), fun M' b pm2 nb => ?_⟩
          have mm2 : ∀ x ∈ M', x ∈ M := fun x hx => pm2.mem_iff.mp hx
          have t4 := same_upd (o := .lst ((srt (M'.map fun q => V.ref q.1) (M'.map (·.2))).map Prod.fst)) nb
          refine ⟨b, _, rfl, .inl (.inl upd_same), fun r ro nr tdr => ?_⟩
          have rt := ((hTx.same (t3.trans t4)).ne nr).1
          have nrH := kp_noneA hKx rt (none_of (t3.trans t4) nr)
          have t5 := same_upd (o := .frz ro (.tup ((srt (M'.map fun q => V.ref q.1) (M'.map (·.2))).map Prod.fst))) nr
          have sA := t3.trans (t4.trans t5)
          obtain ⟨ls2, k1, k2', k3', k4⟩ := srt_ok (M := M') (fun x hx => (nke x (m1 x (mm2 x hx))).at (.same sA)) (fun x hx => by obtain ⟨q, _, e⟩ := sye x (m1 x (mm2 x hx)); exact ⟨q, e⟩) ((pm2.map (·.2)).nodup_iff.mpr ndM)
          have each : ∀ k ∈ ls2, ∃ q ∈ gp, k = sayK q := fun k hk => by
            have := (k3' k).mp hk
            obtain ⟨x, hx, rfl⟩ := List.mem_map.mp this
            exact sye x (m1 x (mm2 x hx))
          obtain ⟨ps, eps, inp⟩ := says_of each
          subst eps
          refine q r ro _ ps _ upd_same tdr nrH k1 k2' (fun x hx => inF x (inp x hx)) ?_ ((hTx.same sA).mono (by omega)) (hKx.trans (.of_same sA))
          have lM : M.length ≤ es.length := by
            have := nodup_len (l := M.map (·.2)) (m := es.map (·.2)) ndM fun k hk => by obtain ⟨x, hx, rfl⟩ := List.mem_map.mp hk; exact List.mem_map_of_mem (m1 x hx)
            rwa [List.length_map, List.length_map] at this
          have l1 : ps.length = M'.length := by rw [← k4, List.length_map]
          rw [l1, pm2.length_eq]
          omega
end
end L45

set_option Elab.async false
set_option linter.all false
set_option maxRecDepth 100000
set_option maxHeartbeats 2000000
/-! l[::-1], l a list. -/
namespace My
open PySem PySem.Spec PyProof.Rows L2 HT
theorem pick_back (us : List Value) : slicePick us.toArray none none (some (-1)) = us.reverse.toArray := by
  unfold slicePick
  have e : sliceRange (sliceBounds none none (some (-1)) us.toArray.size).1 (sliceBounds none none (some (-1)) us.toArray.size).2.1 (sliceBounds none none (some (-1)) us.toArray.size).2.2 = (List.range us.length).map fun (k : Nat) => ((us.length : Int) - 1 + (k : Int) * (-1)).toNat := by
    rw [List.size_toArray]
    unfold sliceRange sliceBounds
    simp only [Option.getD_some, show ¬ ((-1 : Int) > 0) by decide, if_false]
    by_cases n : us.length = 0
    · rw [n]; rfl
    · rw [if_pos (by omega), show ((us.length : Int) - 1 - -1 - -1 - 1) / (- -1) = (us.length : Int) by rw [show (- -1 : Int) = 1 by decide, Int.ediv_one]; omega]
      congr 1
      funext k
      congr 1
      omega
  rw [e, List.filterMap_map]
  have := back_places us
  rw [← this]
  congr 1
  refine congrArg (fun f => List.filterMap f (List.range us.length)) ?_
  funext k
  simp
section
variable {X : Cx} {K1 : PySem.W.Frag}
def tRevL (K : PySem.W.Frag) (te : TE) : TE := fun σ H Q => te σ H fun x H1 => ∃ a xs, x = .ref a ∧ SqL K H1 a xs ∧ ∀ b, H1 b = none → Q (.ref b) (upd H1 b (.lst xs.reverse))
theorem pe_revL {e : Expr} {te : TE} {k : Nat} {p1 p2 p3 pos : Pos} (hK : X.K = K1) (he : PE X e te) : PE X (.Subscript e (.Slice none none (some (.UnaryOp .USub (.Constant (.int 1) k p1) p2)) p3) pos) (tRevL K1 te) := by
  subst hK
  have step : PO X (some (.UnaryOp .USub (.Constant (.int 1) k p1) p2)) (tPart (tUn (rU fun i => .int (-i)) (tC (.int 1)))) := po_some (pe_un un_neg pe_int)
  constructor
  intro pins s σ H Q I h
  refine Subscript_ (thn (he.run pins s σ H _ I h) ?_)
  rintro v s1 ⟨x, H1, I1, r1, a, xs, rfl, hx, hq⟩
  cases r1
  refine wpAny_Slice (thn (po_none.run pins s1 σ H1 (fun o G => o = none ∧ G = H1) I1 ⟨rfl, rfl⟩) ?_)
  rintro vl s2 ⟨o1, G1, I2, q1, rfl, rfl⟩
  refine thn (po_none.run pins s2 σ G1 (fun o G => o = none ∧ G = G1) I2 ⟨rfl, rfl⟩) ?_
  rintro vu s3 ⟨o2, G2, I3, q2, rfl, rfl⟩
  refine thn (step.run pins s3 σ G2 (fun o G => o = some (-1) ∧ G = G2) I3 ⟨1, rfl, -1, rfl, rfl, rfl⟩) ?_
  rintro vs s4 ⟨o3, G3, I4, q3, rfl, rfl⟩
  cases q1
  cases q2
  cases q3 with
  | int _ u =>
    have I5 : Inv X pins σ G3 { s4 with heap := s4.heap.push { cls := .type "slice", data := .fields #[.none, .none, .int (-1) u] } } := I4.kept (t' := s4.toks) fun b ob q => Heap.get?_push_of_some _ q
    obtain ⟨its, r, ht, hz⟩ := I5.list hx
    show wpAny (model X.prog X.w) X.A (subscriptTail e (.Slice none none (some (.UnaryOp .USub (.Constant (.int 1) k p1) p2)) p3) (.ref a) (.ref s4.heap.objs.size)) (EP X pins σ Q) X.xe { s4 with heap := s4.heap.push { cls := .type "slice", data := .fields #[.none, .none, .int (-1) u] } }
    refine tail_any (ops := [.ref a, .ref s4.heap.objs.size]) ht.isList.typeIs (slot_list_getitem.lookup) ?_ (by with_unfolding_all rfl)
    refine wpAny_getItem_list_slice ht.isList (Heap.IsSliceOf.new _ .none .none (.int (-1) u)) .none .none (.int (-1) u) (by decide) ?_ (by rw [List.size_toArray, ← r.length]; exact hz)
    rw [pick_back]
    refine ⟨.ref _, _, I5.laid (t' := s4.toks) (o := .lst xs.reverse) (fun b ob q => Heap.get?_push_of_some _ q) (Nat.le_refl _) ⟨?_, _, _, vals_reverse r, Heap.get?_push_size _ rfl⟩, rfl, hq _ (I5.hok.fresh (Nat.le_refl _))⟩
    rw [List.length_reverse]
    exact hz
end
end My

set_option Elab.async false
set_option linter.all false
set_option maxRecDepth 100000
set_option maxHeartbeats 2000000
namespace L45
open PySem PySem.Spec PyProof.Rows L2 My
section
variable {P : Program} {w : World} {K : PySem.W.Frag} {mg : Str → Option Value} {base : Heap}
/-- what follows is shown once, for all ways that lead there -/
theorem mrg1 {α : Type} {K C : α → Prop} {G : Prop} (main : (∀ a, C a → K a) → G) (tail : ∀ a, C a → K a) : G := main tail
theorem mrg2 {α β : Type} {K C : α → β → Prop} {G : Prop} (main : (∀ a b, C a b → K a b) → G) (tail : ∀ a b, C a b → K a b) : G := main tail
theorem emp_pos {α : Type} : ∀ {ys : List α}, (!ys.isEmpty) = true → 0 < ys.length
  | [], e => by cases e
  | _ :: _, _ => Nat.succ_pos _
theorem emp_nil {α : Type} : ∀ {ys : List α}, ¬ (!ys.isEmpty) = true → ys = []
  | [], _ => rfl
  | _ :: _, e => absurd rfl e
theorem mrg11 {α β : Type} {K1 C1 : α → Prop} {K2 C2 : β → Prop} {G : Prop} (main : (∀ a, C1 a → K1 a) → (∀ b, C2 b → K2 b) → G) (one : ∀ a, C1 a → K1 a) (two : ∀ b, C2 b → K2 b) : G := main one two
/-- a new address's heap by a name of its own -/
@[elab_as_elim] theorem fresh_fin {G : Hp → Prop} {H : Hp} {p : Addr} (o : HO) (n : H p = none) (k : ∀ H', Same H H' → H' p = some o → G H') : G (upd H p o) := k _ (same_upd n) upd_same
theorem mrg0 {C K G : Prop} (main : (C → K) → G) (tail : C → K) : G := main tail
theorem fine_texts : ∀ {L : List Str}, (∀ z ∈ L, Plain z) → FineAll (L.map PyData.str) (1006 * L.length) ∧ PyData.depthAll (L.map PyData.str) = 0
  | [], _ => ⟨.nil, by rw [List.map_nil, PyData.depthAll]⟩
  | z :: L, h => by
    obtain ⟨c, d⟩ := fine_texts fun y hy => h y (.tail _ hy)
    have t := FineAll.cons (fine_text (h z (.head _))) c
    rw [List.map_cons]
    exact ⟨⟨t.sh, by have := t.cost; rw [List.length_cons]; omega, t.lay, t.deep⟩, by rw [PyData.depthAll, d, PyData.depth]; rfl⟩
theorem fine_tup {ds : List PyData} {c e : Nat} (f : FineAll ds c) (d : PyData.depthAll ds ≤ e) (e2 : e ≤ 2) : Fine (.tuple ds) (c + 10) ∧ (PyData.tuple ds).depth ≤ e + 1 := by
  have dp : (PyData.tuple ds).depth ≤ e + 1 := by rw [PyData.depth]; omega
  exact ⟨⟨f.sh, by rw [GU.cost]; have := f.cost; omega, by rw [PyData.canLay0]; exact f.lay, by omega⟩, dp⟩
theorem fine_pairs : ∀ {ps : List (Str × Str)}, (∀ p ∈ ps, Plain p.1 ∧ Plain p.2) → FineAll (NestedKey.datas (ps.map sayK)) (2030 * ps.length) ∧ PyData.depthAll (NestedKey.datas (ps.map sayK)) ≤ 1
  | [], _ => ⟨by rw [List.map_nil, NestedKey.datas]; exact .nil, by rw [List.map_nil, NestedKey.datas, PyData.depthAll]; omega⟩
  | p :: ps, h => by
    obtain ⟨c, d⟩ := fine_pairs fun y hy => h y (.tail _ hy)
    obtain ⟨p1, p2⟩ := h p (.head _)
    obtain ⟨t1, t2⟩ := fine_texts (L := [p.1, p.2]) fun z hz => by
      rcases List.mem_cons.mp hz with rfl | hz
      · exact p1
      · rw [List.mem_singleton.mp hz]; exact p2
    obtain ⟨f, fd⟩ := fine_tup (e := 0) t1 (by rw [t2]; exact Nat.le_refl _) (by decide)
    have e : (sayK p).data = .tuple [.str p.1, .str p.2] := by unfold sayK; simp [NestedKey.data, NestedKey.datas]
    have f : Fine (.tuple [.str p.1, .str p.2]) (1006 * 2 + 10) := f
    have t := FineAll.cons f c
    rw [List.map_cons, NestedKey.datas, e]
    refine ⟨⟨t.sh, by have := t.cost; rw [List.length_cons]; omega, t.lay, t.deep⟩, ?_⟩
    rw [PyData.depthAll]
    have fd : (PyData.tuple [.str p.1, .str p.2]).depth ≤ 1 := fd
    omega
theorem two_shown {a b : PyData} {c d : Nat} (fa : Fine a c) (fb : Fine b d) (h : c + d ≤ 4000000) : GU.Sh (.tuple [a, b]) ∧ (PyData.tuple [a, b]).depth ≤ 50 ∧ GU.cost (.tuple [a, b]) ≤ sizeLine := by
  have t := FineAll.cons fa (FineAll.cons fb .nil)
  refine ⟨t.sh, by rw [PyData.depth]; have := t.deep; omega, ?_⟩
  rw [GU.cost]
  have := t.cost
  exact Nat.le_trans (show _ ≤ 4000403 by omega) (by decide)
theorem dp_texts {H : Hp} : ∀ (L : List Str), DpAll K H (L.map V.str) (L.map PyData.str)
  | [] => .nil
  | _ :: L => .cons (.str _) (dp_texts L)
theorem shaped_says {ps : List (Str × Str)} (h : ∀ p ∈ ps, Plain p.1 ∧ Plain p.2) : SeqAt.shaped (.list (NestedKey.datas (ps.map sayK))) = true := by
  obtain ⟨f, fd⟩ := fine_pairs h
  unfold SeqAt.shaped
  rw [Bool.and_eq_true, PyData.canLay0, PyData.depth]
  exact ⟨f.lay, decide_eq_true (by omega)⟩
theorem inV_strs (x : Str) : ∀ ks : List Str, inV (.str x) (ks.map V.str) = decide (x ∈ ks)
  | [] => by simp [inV]
  | k :: ks => by
    have ih := inV_strs x ks
    unfold inV at ih ⊢
    rw [List.map_cons, List.any_cons, ih]
    show ((k == x) || decide (x ∈ ks)) = _
    rw [Bool.eq_iff_iff]
    simp only [Bool.or_eq_true, beq_iff_eq, decide_eq_true_eq, List.mem_cons]
    exact or_congr ⟨Eq.symm, Eq.symm⟩ Iff.rfl
theorem flat_strs (ks : List Str) : (ks.map V.str).all flatV = true := by
  rw [List.all_map]
  exact List.all_eq_true.mpr fun _ _ => rfl
/-- some one of cs leads into it -/
def intoC (cs : List (Str × Str)) (p : Str × Str) : Bool := decide (p.1 ∈ cs.map (·.2))
/-- those that some one leads into -/
def stepC (cs : List (Str × Str)) : List (Str × Str) := cs.filter (intoC cs)
theorem stepC_len {cs : List (Str × Str)} (h : stepC cs ≠ cs) : (stepC cs).length < cs.length := by
  refine Nat.lt_of_le_of_ne (List.length_filter_le _ _) fun e => h ?_
  exact List.filter_eq_self.mpr fun p hp => (List.length_filter_eq_length_iff.mp e) p hp
theorem stepC_fix {cs : List (Str × Str)} (h : stepC cs = cs) : ∀ p ∈ cs, p.1 ∈ cs.map (·.2) := fun p hp => by
  have : p ∈ stepC cs := by rw [h]; exact hp
  exact of_decide_eq_true (List.mem_filter.mp this).2
theorem map_sayK_inj : ∀ {ps qs : List (Str × Str)}, ps.map sayK = qs.map sayK → ps = qs
  | [], [], _ => rfl
  | [], _ :: _, e => by cases e
  | _ :: _, [], e => by cases e
  | p :: ps, q :: qs, e => by
    rw [List.map_cons, List.map_cons] at e
    injection e with e1 e2
    rw [sayK_inj e1, map_sayK_inj e2]
theorem none_back {H H' : Hp} {a : Addr} (s : Same H H') (n : H' a = none) : H a = none := by
  cases e : H a with
  | none => rfl
  | some o => rw [s _ _ e] at n; cases n
def spCore : Sp := fun vs H Q _ => ∃ (s : Addr) (ys : List V) (ps : List (Str × Str)), vs = [.ref s] ∧ (H s = some (.tup ys) ∨ H s = some (.lst ys)) ∧ NkAll H ys (ps.map sayK) ∧ ps.length ≤ 60 ∧ (∀ p ∈ ps, Plain p.1 ∧ Plain p.2) ∧
  ∀ (r : Addr) (us : List V) (cs : List (Str × Str)) (H' : Hp), Same H H' → H r = none → H' r = some (.lst us) → NkAll H' us (cs.map sayK) → (∀ p ∈ cs, p ∈ ps) → (∀ p ∈ cs, p.1 ∈ cs.map (·.2)) → cs.length ≤ ps.length → (∀ S : List (Str × Str), (∀ p ∈ S, p ∈ ps) → (∀ p ∈ S, p.1 ∈ S.map (·.2)) → ∀ p ∈ S, p ∈ cs) → Q (.ref r) H'
theorem ok_core (T : Tx K mg) : FnOk P w K mg base CX0 1 T.f_w_core T.d_w_core ["_law_some"] (spCore) := by
  refine T.F_w_core.ok S_w_core (fun vs H Q E h => ?_) (fun cdv A outer s H vs Q E hr h => ?_)
  · obtain ⟨s, ys, ps, rfl, _⟩ := h
    rfl
  · obtain ⟨s, ys, ps, rfl, hs, nk, l60, pl, q⟩ := h
    refine ⟨_, (pss_cons (ps_asg (pe_tup (pa_cons (pe_callTy call_list_of (by rfl) T.m_list (by decide +kernel) (pa_cons (pv 0) pa_nil)) (pa_cons pe_non pa_nil))) (pg_tup rfl (pgs_cons (pg_name (i := 1) S_w_core.nd rfl (.inl rfl)) (pgs_cons (pg_name (i := 2) S_w_core.nd rfl (.inr rfl)) pgs_nil))))
      (pss_cons (ps_while PassesOwn.never (pt_cmpR (op_neD hr.units) (pv 1) (pv 2) (nomark _)) (pss_cons (ps_set (i := 2) S_w_core.nd rfl (.inr rfl) (pv 1))
      (pss_one (ps_setLc (i := 1) (own := [("_law_pair", 4)]) (g := gName 4) (by rfl) S_w_core.nd rfl rfl (sw_true rfl rfl rfl (by decide +kernel)) (pi_list (pv 2)) (blkOk_by (own := [("_law_pair", 4)]) (N := N_w_core) (sc := defScope s_w_core) (by decide +kernel)) (fun _ _ _ _ _ => (pg_name (i := 4) S_w_core.nd rfl (.inl rfl))) (fun _ _ _ _ _ => (pts_one (pt_cmpR (r := rIn K false) op_in_seq (pe_ix (r := rIxT K) ix_tup (pv 4) pe_int (fun _ _ => rfl)) (pe_lc (own := [("_law_other", 3)]) (g := gName 3) (tt := tYes) (by rfl) S_w_core.nd (pi_listK (K1 := K) rfl (pv 2)) (blkOk_by (own := [("_law_other", 3)]) (N := N_w_core) (by rfl)) (fun _ _ _ _ _ => (pg_name (i := 3) S_w_core.nd rfl (.inl rfl))) (fun _ _ _ _ _ => pts_nil) (fun _ _ _ _ _ => (pe_ix (r := rIxT K) ix_tup (pv 3) pe_int (fun _ _ => rfl)))) (by rfl)))) (fun _ _ _ _ _ => (pv 4))))))
      (pss_one (ps_ret (pv 1))))), ?_⟩
    refine ⟨_, rfl, s, ys, rfl, hs.elim (fun h => .inr (.inl (.inl h))) (fun h => .inl (.inl (.inl h))), fun L nL => ?_⟩
    refine fresh_fin (.lst ys) nL fun H1 s1 h1 => ?_
    refine ⟨sz (by show 2 ≤ 1000; decide), fun c0 n0 => ?_⟩
    refine fresh_fin (.tup [V.ref L, V.non]) n0 fun H2 s2 h2 => ?_
    refine ⟨c0, [V.ref L, V.non], rfl, .inl (.inl h2), rfl, _, _, rfl, _, _, rfl, rfl, ?_⟩
    have s12 := s1.trans s2
    refine ⟨fun m σ Hx => ∃ (L : Addr) (us : List V) (cs : List (Str × Str)) (fo : V) (y3 y4 : Option V), σ = [some (.ref s), some (.ref L), some fo, y3, y4] ∧ Hx L = some (.lst us) ∧ NkAll Hx us (cs.map sayK) ∧ (∀ p ∈ cs, p ∈ ps) ∧ cs.length ≤ ps.length ∧ Same H Hx ∧ H L = none ∧ (∀ S : List (Str × Str), (∀ p ∈ S, p ∈ ps) → (∀ p ∈ S, p.1 ∈ S.map (·.2)) → ∀ p ∈ S, p ∈ cs) ∧
      ((fo = .non ∧ m = ps.length + 2) ∨ ∃ (f : Addr) (fus : List V) (fs : List (Str × Str)), fo = .ref f ∧ Hx f = some (.lst fus) ∧ NkAll Hx fus (fs.map sayK) ∧ cs = stepC fs ∧ m = fs.length + 1 ∧ fs.length ≤ ps.length ∧ ∀ p ∈ fs, p ∈ ps),
      ⟨_, L, ys, ps, .non, _, _, rfl, s2 _ _ h1, nk.at (.same s12), fun p hp => hp, Nat.le_refl _, s12, nL, (fun S h _ => h), .inl ⟨rfl, rfl⟩⟩, ?_⟩
    rintro m σ Hx ⟨L, us, cs, fo, y3, y4, rfl, hL, nkc, sub, lc, sx, nL, full, fm⟩
    have lus : us.length = cs.length := by have := nkc.length; rw [List.length_map] at this; exact this
    have shc : SeqAt.shaped (.list (NestedKey.datas (cs.map sayK))) = true := shaped_says fun p hp => pl p (sub p hp)
    have dpc : Dp K Hx (.ref L) (.list (NestedKey.datas (cs.map sayK))) := .lst (.inl (.inl hL)) nkc.dp
    apply mrg0 (C := cs.length + 1 < m)
    · intro tail
      rcases fm with ⟨e1, e2⟩ | ⟨f, fus, fs, e1, hf, nkf, ec, e2, lf, subf⟩
      · have dpf : Dp K Hx fo .none := by rw [e1]; exact .non
        refine ⟨_, rfl, _, rfl, _, _, dpc, dpf, shc, by decide +kernel, _, rfl, ite2 (fun _ => tail (by omega)) (fun e => absurd rfl e)⟩
      · have shf : SeqAt.shaped (.list (NestedKey.datas (fs.map sayK))) = true := shaped_says fun p hp => pl p (subf p hp)
        have dpf : Dp K Hx fo (.list (NestedKey.datas (fs.map sayK))) := by rw [e1]; exact .lst (.inl (.inl hf)) nkf.dp
        refine ⟨_, rfl, _, rfl, _, _, dpc, dpf, shc, shf, _, rfl, ite2 (fun e => tail ?_) (fun e => ?_)⟩
        · have ne : cs ≠ fs := fun z => by
            rw [z, PyData.eqv, eqv_keys, NestedKey.beqAll_self] at e
            cases e
          have := stepC_len (cs := fs) (fun z => ne (ec.trans z))
          rw [← ec] at this
          omega
        · have eq : cs = fs := by
            cases z : NestedKey.beqAll (cs.map sayK) (fs.map sayK) with
            | true => exact map_sayK_inj (NestedKey.eq_of_beqAll _ _ z)
            | false =>
              rw [PyData.eqv, eqv_keys, z] at e
              exact absurd rfl e
          refine ⟨_, rfl, q L us cs Hx sx nL hL nkc sub (stepC_fix ?_) lc full⟩
          rw [← eq] at ec
          exact ec.symm
    · intro lt
      refine ⟨_, fun σ' H' n => n, _, rfl, ?_⟩
      refine ⟨_, rfl, L, rfl, ⟨_, .inl (.inl hL)⟩, fun D nD => ?_⟩
      have sD := same_upd (o := .lst []) nD
      refine lc_list (xs := us) (fun j Hy => ∃ acc, Hy D = some (.lst acc) ∧ Same Hx Hy ∧ NkAll Hy acc (((cs.take j).filter (intoC cs)).map sayK) ∧ acc.length ≤ j) ⟨[], upd_same, sD, by rw [List.take_zero]; exact .nil, Nat.le_refl _⟩ (fun j Hy hj ⟨acc, _, sy, _⟩ => .inl (.inl (sy _ _ hL))) ?_ ?_
      · rintro j x Hy hx ⟨acc, hD, sy, nka, la⟩
        have hj := (List.getElem?_eq_some_iff.mp hx).1
        obtain ⟨k, hk, nx⟩ := (nkc.at (.same sy)).get hx
        obtain ⟨p, hp, rfl⟩ : ∃ p, cs[j]? = some p ∧ k = sayK p := by
          rw [List.getElem?_map] at hk
          cases e : cs[j]? with
          | none => rw [e] at hk; cases hk
          | some y => rw [e] at hk; exact ⟨y, rfl, (Option.some.inj hk).symm⟩
        obtain ⟨y, rfl, hy⟩ := say_nk nx
        refine ⟨rfl, _, rfl, y, _, 0, .str p.1, rfl, rfl, .inl (.inl hy), rfl, ?_⟩
        refine ⟨_, rfl, L, rfl, ⟨_, .inl (.inl (sy _ _ hL))⟩, fun E2 nE => ?_⟩
        have sE := fun o => same_upd (H := Hy) (o := o) nE
        refine lc_list (xs := us) (fun i Hz => Hz = upd Hy E2 (.lst (((cs.take i).map (·.2)).map V.str))) (by rw [List.take_zero]; rfl) (fun i Hz hi e => by rw [e]; exact .inl (.inl (sE _ _ _ (sy _ _ hL)))) ?_ ?_
        · rintro i x Hz hx2 rfl
          have hi := (List.getElem?_eq_some_iff.mp hx2).1
          obtain ⟨k2, hk2, nx2⟩ := (nkc.at (.same (sy.trans (sE _)))).get hx2
          obtain ⟨p2, hp2, rfl⟩ : ∃ p, cs[i]? = some p ∧ k2 = sayK p := by
            rw [List.getElem?_map] at hk2
            cases e : cs[i]? with
            | none => rw [e] at hk2; cases hk2
            | some y => rw [e] at hk2; exact ⟨y, rfl, (Option.some.inj hk2).symm⟩
          obtain ⟨y2, rfl, hy2⟩ := say_nk nx2
          refine ⟨rfl, tYesT ⟨_, rfl, y2, _, 1, .str p2.2, rfl, rfl, .inl (.inl hy2), rfl, _, upd_same, small1000 (by rw [List.length_map, List.length_map, List.length_take]; omega), ?_⟩⟩
          show upd _ _ _ = upd _ _ _
          rw [upd_upd', List.take_add_one, hp2, List.map_append, List.map_append]
          rfl
        · rintro Hz rfl
          rw [lus, List.take_of_length_le (Nat.le_refl _)]
          have sF := sE (.lst ((cs.map (·.2)).map V.str))
          refine ⟨E2, _, rfl, .inl (.inl (.inl upd_same)), rfl, flat_strs _, _, rfl, ?_⟩
          have iv : inV (.str p.1) ((cs.map (·.2)).map V.str) = intoC cs p := inV_strs _ _
          have hDz := sF _ _ hD
          refine ite2 (fun e => ?_) (fun e => ?_)
          · have e : intoC cs p = true := by rw [← iv]; exact e
            refine ⟨_, rfl, acc, hDz, small1000 (by omega), acc ++ [.ref y], upd_same, same_fresh nD (sy.trans sF), ?_, by rw [List.length_append]; exact Nat.succ_le_succ la⟩
            rw [List.take_add_one, hp, List.filter_append, show (some p).toList.filter (intoC cs) = [p] by simp [e], List.map_append]
            exact ((nka.at (.same sF)).at (tups_lst hDz)).app (.cons (nk_say (tups_lst hDz _ _ (sF _ _ hy))) .nil)
          · have e : ¬ intoC cs p = true := by rw [← iv]; exact e
            refine ⟨acc, hDz, sy.trans sF, ?_, by omega⟩
            rw [List.take_add_one, hp, List.filter_append, show (some p).toList.filter (intoC cs) = [] by simp [e], List.append_nil]
            exact nka.at (.same sF)
      · rintro Hy ⟨acc, hD, sy, nka, la⟩
        rw [lus, List.take_of_length_le (Nat.le_refl _)] at nka
        have lc2 : (stepC cs).length ≤ cs.length := List.length_filter_le _ _
        refine ⟨_, lt, D, acc, stepC cs, _, _, _, rfl, hD, nka, fun p hp => sub p (List.mem_filter.mp hp).1, by omega, sx.trans sy, ?_, (fun S h c p hp => List.mem_filter.mpr ⟨full S h c p hp, decide_eq_true (by obtain ⟨x, hx, e⟩ := List.mem_map.mp (c p hp); exact e ▸ List.mem_map_of_mem (full S h c x hx))⟩), .inr ⟨L, us, cs, rfl, sy _ _ hL, nkc.at (.same sy), rfl, rfl, lc, sub⟩⟩
        exact none_back sx nD
end
end L45

set_option Elab.async false
set_option linter.all false
set_option maxRecDepth 100000
set_option maxHeartbeats 4000000
/-! Things of any kind: None, truths, numbers, texts, lists, tuples, dicts of none, nested. t is the feed's own list: no thing is it. -/
namespace My
open PySem PySem.Spec PyProof.Rows L2
mutual
inductive Dq (fz : Bool) (t : Addr) (H : Hp) : V → PyData → Prop
  | non : Dq fz t H .non .none
  | bl (b : Bool) : Dq fz t H (.bl b) (.bool b)
  | int (i : Int) : Dq fz t H (.int i) (.int i)
  | str (x : Str) : Dq fz t H (.str x) (.str x)
  | lst {a : Addr} {xs : List V} {ds : List PyData} : a ≠ t → H a = some (.lst xs) → DqAll fz t H xs ds → Dq fz t H (.ref a) (.list ds)
  | tup {a : Addr} {xs : List V} {ds : List PyData} : a ≠ t → H a = some (.tup xs) → DqAll fz t H xs ds → Dq fz t H (.ref a) (.tuple ds)
  | frz {a : Addr} {o : Obj} {xs : List V} {ds : List PyData} : fz = true → a ≠ t → H a = some (.frz o (.tup xs)) → DqAll fz t H xs ds → Dq fz t H (.ref a) (.tuple ds)
  | dct {a : Addr} : a ≠ t → H a = some (.dK []) → Dq fz t H (.ref a) (.dict [])
inductive DqAll (fz : Bool) (t : Addr) (H : Hp) : List V → List PyData → Prop
  | nil : DqAll fz t H [] []
  | cons {v : V} {vs : List V} {d : PyData} {ds : List PyData} : Dq fz t H v d → DqAll fz t H vs ds → DqAll fz t H (v :: vs) (d :: ds)
end
section
variable {fz : Bool} {t : Addr} {H H' : Hp}
mutual
theorem Dq.keep (k : ∀ b o, b ≠ t → (∀ ps, o ≠ .tbl ps) → H b = some o → H' b = some o) : ∀ {d : PyData} {v : V}, Dq fz t H v d → Dq fz t H' v d
  | .none, _, .non => .non
  | .bool _, _, .bl b => .bl b
  | .int _, _, .int i => .int i
  | .str _, _, .str x => .str x
  | .list _, _, .lst n e h => .lst n (k _ _ n (fun ps z => by cases z) e) (DqAll.keep k h)
  | .tuple _, _, .tup n e h => .tup n (k _ _ n (fun ps z => by cases z) e) (DqAll.keep k h)
  | .tuple _, _, .frz fn n e h => .frz fn n (k _ _ n (fun ps z => by cases z) e) (DqAll.keep k h)
  | .dict _, _, .dct n e => .dct n (k _ _ n (fun ps z => by cases z) e)
theorem DqAll.keep (k : ∀ b o, b ≠ t → (∀ ps, o ≠ .tbl ps) → H b = some o → H' b = some o) : ∀ {ds : List PyData} {vs : List V}, DqAll fz t H vs ds → DqAll fz t H' vs ds
  | [], _, .nil => .nil
  | _ :: _, _, .cons a h => .cons (Dq.keep k a) (DqAll.keep k h)
end
theorem Dq.same {v : V} {d : PyData} (h : Dq fz t H v d) (s : Same H H') : Dq fz t H' v d := h.keep fun b o _ _ e => s b o e
theorem Dq.kp {v : V} {d : PyData} (h : Dq fz t H v d) (s : Kp t H H') : Dq fz t H' v d := h.keep fun b o n _ e => s b o n e
theorem DqAll.same {vs : List V} {ds : List PyData} (h : DqAll fz t H vs ds) (s : Same H H') : DqAll fz t H' vs ds := h.keep fun b o _ _ e => s b o e
theorem DqAll.kp {vs : List V} {ds : List PyData} (h : DqAll fz t H vs ds) (s : Kp t H H') : DqAll fz t H' vs ds := h.keep fun b o n _ e => s b o n e
theorem DqAll.length : ∀ {ds : List PyData} {vs : List V}, DqAll fz t H vs ds → vs.length = ds.length
  | [], _, .nil => rfl
  | _ :: _, _, .cons _ h => congrArg Nat.succ (DqAll.length h)
theorem DqAll.get : ∀ {ds : List PyData} {vs : List V} {i : Nat} {v : V}, DqAll fz t H vs ds → vs[i]? = some v → ∃ d, ds[i]? = some d ∧ Dq fz t H v d
  | [], _, _, _, h, e => by cases h; cases e
  | _ :: _, _, 0, _, .cons a _, e => by cases e; exact ⟨_, rfl, a⟩
  | _ :: _, _, i + 1, _, .cons _ h, e => DqAll.get (i := i) h e
theorem DqAll.app : ∀ {ds es : List PyData} {vs us : List V}, DqAll fz t H vs ds → DqAll fz t H us es → DqAll fz t H (vs ++ us) (ds ++ es)
  | [], _, _, _, .nil, k => k
  | _ :: _, _, _, _, .cons a h, k => .cons a (h.app k)
theorem DqAll.drop : ∀ {ds : List PyData} {vs : List V}, DqAll fz t H vs ds → ∀ i : Nat, DqAll fz t H (vs.drop i) (ds.drop i)
  | _, _, h, 0 => h
  | _, _, .nil, _ + 1 => .nil
  | _, _, .cons _ h, i + 1 => DqAll.drop h i
theorem DqAll.take : ∀ {ds : List PyData} {vs : List V}, DqAll fz t H vs ds → ∀ i : Nat, DqAll fz t H (vs.take i) (ds.take i)
  | _, _, _, 0 => by rw [List.take_zero, List.take_zero]; exact .nil
  | _, _, .nil, _ + 1 => .nil
  | _, _, .cons a h, i + 1 => .cons a (DqAll.take h i)
theorem DqAll.rev : ∀ {ds : List PyData} {vs : List V}, DqAll fz t H vs ds → DqAll fz t H vs.reverse ds.reverse
  | _, _, .nil => .nil
  | _, _, .cons a h => by
    rw [List.reverse_cons, List.reverse_cons]
    exact (DqAll.rev h).app (.cons a .nil)
theorem dq_texts : ∀ zs : List Str, DqAll fz t H (zs.map V.str) (zs.map PyData.str)
  | [] => .nil
  | _ :: zs => .cons (.str _) (dq_texts zs)
theorem DqAll.mem {v : V} : ∀ {ds : List PyData} {vs : List V}, DqAll fz t H vs ds → v ∈ vs → ∃ d ∈ ds, Dq fz t H v d
  | [], _, h, m => by cases h; cases m
  | _ :: _, _, .cons a h, m => by
    rcases List.mem_cons.mp m with rfl | m
    · exact ⟨_, .head _, a⟩
    · obtain ⟨d, hd, q⟩ := DqAll.mem h m
      exact ⟨d, .tail _ hd, q⟩
theorem DqAll.of {vs : List V} (h : ∀ v ∈ vs, ∃ d, Dq fz t H v d) : ∃ ds, DqAll fz t H vs ds := by
  induction vs with
  | nil => exact ⟨[], .nil⟩
  | cons v vs ih =>
    obtain ⟨ds, q⟩ := ih fun u hu => h u (.tail _ hu)
    obtain ⟨d, p⟩ := h v (.head _)
    exact ⟨d :: ds, .cons p q⟩
end
/-! ### repr -/
section
variable {X : Cx} {pins : List (Addr × Obj)} {σ : L2.St} {H : Hp} {s : Shared} {fz : Bool} {t : Addr}
/-- the heap's own objects behind a thing's address -/
theorem dq_list {a : Addr} {xs : List V} (I : Inv X pins σ H s) (e : H a = some (.lst xs)) : ∃ (o : Obj) (us : List Value) (n : Nat), s.heap.get? a = some o ∧ o.cls = .type "list" ∧ o.data = .seq us.toArray n ∧ Vals xs us := by
  obtain ⟨us, rv, ⟨o, n, ho, hc, _, hd⟩, _⟩ := I.list (.inl (.inl e))
  exact ⟨o, us, n, ho, hc, hd, rv⟩
theorem dq_tuple {a : Addr} {xs : List V} (I : Inv X pins σ H s) (e : SqT X.K H a xs) : ∃ (o : Obj) (us : List Value) (n : Nat), s.heap.get? a = some o ∧ o.cls = .type "tuple" ∧ o.data = .seq us.toArray n ∧ Vals xs us := by
  obtain ⟨us, rv, ⟨o, ho, hc, n, hd⟩, _⟩ := I.tuple e
  exact ⟨o, us, n, ho, hc, hd, rv⟩
theorem dq_dict {a : Addr} (I : Inv X pins σ H s) (e : H a = some (.dK [])) : ∃ (o : Obj) (n : Nat), s.heap.get? a = some o ∧ o.cls = .type "dict" ∧ o.data = .dict #[] n ∧ (a == sysModules) = false := by
  obtain ⟨_, ns, vs, kv, o, es, n, ho, hx, hd, _, pr, _⟩ := (show ObjOk X.prog X.w H s.heap a (.dK []) from I.hok a _ e)
  have ve : vs = [] := by
    cases kv
    rfl
  subst ve
  have ee : es.toList = [] := by
    cases h : es.toList with
    | nil => rfl
    | cons x l => rw [h] at pr; cases pr
  obtain ⟨es⟩ := es
  have ee : es = [] := ee
  subst ee
  exact ⟨o, n, ho, hx.1, hd, ns⟩
mutual
theorem dq_reads (I : Inv X pins σ H s) : ∀ {d : PyData} {v : V} {u : Value}, Dq fz t H v d → RelV v u → ∃ as, Reads s.heap u d as
  | .none, _, _, .non, r => by cases r; exact ⟨_, .none⟩
  | .bool b, _, _, .bl _, r => by cases r; exact ⟨_, .bool b⟩
  | .int i, _, _, .int _, r => by obtain ⟨k, rfl⟩ := r; exact ⟨_, .int i k⟩
  | .str x, _, _, .str _, r => by obtain ⟨k, rfl⟩ := r; exact ⟨_, .str x k⟩
  | .list ds, _, _, .lst _ e h, r => by
    cases r
    obtain ⟨o, us, n, h1, h2, h3, rv⟩ := dq_list I e
    obtain ⟨as, q⟩ := dq_readsAll I h rv
    exact ⟨_, .list h1 h2 h3 q⟩
  | .tuple ds, _, _, .tup _ e h, r => by
    cases r
    obtain ⟨o, us, n, h1, h2, h3, rv⟩ := dq_tuple I (.inl (.inl e))
    obtain ⟨as, q⟩ := dq_readsAll I h rv
    exact ⟨_, .tuple h1 h2 h3 q⟩
  | .tuple ds, _, _, .frz fn _ e h, r => by
    cases r
    obtain ⟨o, us, n, h1, h2, h3, rv⟩ := dq_tuple I (.inl (.inr ⟨_, e⟩))
    obtain ⟨as, q⟩ := dq_readsAll I h rv
    exact ⟨_, .tuple h1 h2 h3 q⟩
  | .dict _, _, _, .dct _ e, r => by
    cases r
    obtain ⟨o, n, h1, h2, h3, _⟩ := dq_dict I e
    exact ⟨_, .dict (as := []) (bs := []) h1 h2 h3 .nil .nil⟩
theorem dq_readsAll (I : Inv X pins σ H s) : ∀ {ds : List PyData} {vs : List V} {us : List Value}, DqAll fz t H vs ds → Vals vs us → ∃ as, ReadsAll s.heap us ds as
  | [], _, _, .nil, .nil => ⟨_, .nil⟩
  | _ :: _, _, _, .cons a h, .cons r1 r2 => by
    obtain ⟨as, q1⟩ := dq_reads I a r1
    obtain ⟨bs, q2⟩ := dq_readsAll I h r2
    exact ⟨_, .cons q1 q2⟩
end
mutual
/-- how a thing is shown within another one -/
theorem dq_shows (I : Inv X pins σ H s) : ∀ {d : PyData} {v : V} {u : Value}, Dq fz t H v d → RelV v u → d.showable = true → d.shown.length ≤ sizeLine → ∃ bs, ReadAtMost s.heap d.depth bs ∧ ReprK X.prog X.w bs s.heap d.depth u d.shown
  | .none, _, _, .non, r, _, _ => by cases r; exact ⟨[], (fun _ h => nomatch h), by simp only [PyData.shown]; exact .of_is ReprIs.none _ _ _⟩
  | .bool b, _, _, .bl _, r, _, _ => by cases r; exact ⟨[], (fun _ h => nomatch h), by simp only [PyData.shown]; exact .of_is (ReprIs.bool b) _ _ _⟩
  | .int i, _, _, .int _, r, hs, _ => by obtain ⟨k, rfl⟩ := r; exact ⟨[], (fun _ h => nomatch h), by simp only [PyData.shown]; exact .of_is (ReprIs.int k (by simpa [PyData.showable] using hs)) _ _ _⟩
  | .str x, _, _, .str _, r, _, hz => by obtain ⟨k, rfl⟩ := r; exact ⟨[], (fun _ h => nomatch h), by simp only [PyData.shown]; exact .of_is (ReprIs.str x k (by simpa only [PyData.shown] using hz)) _ _ _⟩
  | .list ds, _, _, .lst n e h, r, hs, hz => by
    cases r
    obtain ⟨as, rd⟩ := dq_reads (u := .ref _) I (Dq.lst n e h) rfl
    obtain ⟨o, us, m, h1, h2, h3, rv⟩ := dq_list I e
    have room : ∀ x ∈ PyData.shownAll ds, x.length ≤ sizeLine := fun x hx => Nat.le_trans (listText_mem_le hx) (by simpa only [PyData.shown] using hz)
    obtain ⟨bs, b1, b2⟩ := dq_showsAll I h rv (by simpa [PyData.showable] using hs) room
    have lt : PyData.depthAll ds < (PyData.list ds).depth := by simp only [PyData.depth]; omega
    refine ⟨_, ReadAtMost.cons rd (Nat.le_of_lt lt) b1, ?_⟩
    have out := not_mem_of_deeper rd lt b1
    simp only [PyData.depth, PyData.shown]
    cases us with
    | nil =>
      cases rv
      cases h
      simp only [PyData.shownAll, listText_nil]
      exact ReprK.listEmpty h1 h2 h3
    | cons x l => exact ReprK.list h1 h2 h3 out (by simpa using b2.length_eq) fun i y q => b2.item i y (by simpa using q)
  | .tuple ds, _, _, .tup n e h, r, hs, hz => by
    cases r
    obtain ⟨as, rd⟩ := dq_reads (u := .ref _) I (Dq.tup n e h) rfl
    obtain ⟨o, us, m, h1, h2, h3, rv⟩ := dq_tuple I (.inl (.inl e))
    have room : ∀ x ∈ PyData.shownAll ds, x.length ≤ sizeLine := fun x hx => Nat.le_trans (tupleText_mem_le hx) (by simpa only [PyData.shown] using hz)
    obtain ⟨bs, b1, b2⟩ := dq_showsAll I h rv (by simpa [PyData.showable] using hs) room
    have lt : PyData.depthAll ds < (PyData.tuple ds).depth := by simp only [PyData.depth]; omega
    refine ⟨_, ReadAtMost.cons rd (Nat.le_of_lt lt) b1, ?_⟩
    simp only [PyData.depth, PyData.shown]
    exact ReprK.tuple h1 h2 h3 (not_mem_of_deeper rd lt b1) b2
  | .tuple ds, _, _, .frz fn n e h, r, hs, hz => by
    cases r
    obtain ⟨as, rd⟩ := dq_reads (u := .ref _) I (Dq.frz fn n e h) rfl
    obtain ⟨o, us, m, h1, h2, h3, rv⟩ := dq_tuple I (.inl (.inr ⟨_, e⟩))
    have room : ∀ x ∈ PyData.shownAll ds, x.length ≤ sizeLine := fun x hx => Nat.le_trans (tupleText_mem_le hx) (by simpa only [PyData.shown] using hz)
    obtain ⟨bs, b1, b2⟩ := dq_showsAll I h rv (by simpa [PyData.showable] using hs) room
    have lt : PyData.depthAll ds < (PyData.tuple ds).depth := by simp only [PyData.depth]; omega
    refine ⟨_, ReadAtMost.cons rd (Nat.le_of_lt lt) b1, ?_⟩
    simp only [PyData.depth, PyData.shown]
    exact ReprK.tuple h1 h2 h3 (not_mem_of_deeper rd lt b1) b2
  | .dict _, _, _, .dct n e, r, hs, hz => by
    cases r
    obtain ⟨as, rd⟩ := dq_reads (u := .ref _) I (Dq.dct (fz := fz) n e) rfl
    obtain ⟨o, m, h1, h2, h3, h4⟩ := dq_dict I e
    refine ⟨[_], ReadAtMost.cons (n := 0) rd (Nat.zero_le _) (fun _ h => nomatch h), ?_⟩
    have k := ReprK.dict (prog := X.prog) (w := X.w) (as := []) (d := PyData.depthKv []) (ps := []) h1 h2 h3 h4 (fun z => nomatch z) .nil
    simp only [PyData.depth, PyData.shown, PyData.shownKv]
    exact k
theorem dq_showsAll (I : Inv X pins σ H s) : ∀ {ds : List PyData} {vs : List V} {us : List Value}, DqAll fz t H vs ds → Vals vs us → PyData.showableAll ds = true → (∀ x ∈ PyData.shownAll ds, x.length ≤ sizeLine) → ∃ bs, ReadAtMost s.heap (PyData.depthAll ds) bs ∧ ReprAllK X.prog X.w bs s.heap (PyData.depthAll ds) us (PyData.shownAll ds)
  | [], _, _, .nil, .nil, _, _ => ⟨[], (fun _ h => nomatch h), by simp only [PyData.shownAll]; exact .nil⟩
  | d :: ds, _, _, .cons a h, .cons r1 r2, hs, hz => by
    have hs : d.showable = true ∧ PyData.showableAll ds = true := by simpa [PyData.showableAll] using hs
    obtain ⟨b1, m1, k1⟩ := dq_shows I a r1 hs.1 (hz _ (by simp only [PyData.shownAll]; exact .head _))
    obtain ⟨b2, m2, k2⟩ := dq_showsAll I h r2 hs.2 fun x hx => hz x (by simp only [PyData.shownAll]; exact .tail _ hx)
    have l1 : d.depth ≤ PyData.depthAll (d :: ds) := by simp only [PyData.depthAll]; exact Nat.le_max_left _ _
    have l2 : PyData.depthAll ds ≤ PyData.depthAll (d :: ds) := by simp only [PyData.depthAll]; exact Nat.le_max_right _ _
    refine ⟨b1 ++ b2, (m1.mono l1).append (m2.mono l2), ?_⟩
    simp only [PyData.shownAll]
    exact .cons ((k1.more fun b hb => List.mem_append_left _ hb).level_le l1) (k2.more_le (fun b hb => List.mem_append_right _ hb) l2)
end
end
end My

set_option Elab.async false
set_option linter.all false
set_option maxRecDepth 100000
set_option maxHeartbeats 4000000
/-! repr of things of any kind; what kind a thing is of. -/
namespace My
open PySem PySem.Spec PyProof.Rows L2
mutual
def ShQ : PyData → Prop
  | .none => True
  | .bool _ => True
  | .int i => i.natAbs.log2 < 1920
  | .str x => ∀ c ∈ x.cps.toList, c < 16 ^ 8
  | .list xs => ShQs xs
  | .tuple xs => ShQs xs
  | .dict xs => xs = []
def ShQs : List PyData → Prop
  | [] => True
  | x :: xs => ShQ x ∧ ShQs xs
end
mutual
def wt : PyData → Nat
  | .none => 4
  | .bool _ => 5
  | .int _ => 1921
  | .str x => 10 * x.length + 4
  | .list xs => wts xs + 3
  | .tuple xs => wts xs + 3
  | .dict _ => 2
def wts : List PyData → Nat
  | [] => 0
  | x :: xs => wt x + 2 + wts xs
end
theorem shqs_mem : ∀ {ds : List PyData}, ShQs ds ↔ ∀ d ∈ ds, ShQ d
  | [] => ⟨fun _ d h => (by cases h), fun _ => trivial⟩
  | x :: xs => by
    rw [ShQs, shqs_mem (ds := xs)]
    exact ⟨fun h d hd => (List.mem_cons.mp hd).elim (fun e => by rw [e]; exact h.1) (h.2 d), fun h => ⟨h x (.head _), fun d hd => h d (.tail _ hd)⟩⟩
theorem wts_app : ∀ {ds es : List PyData}, wts (ds ++ es) = wts ds + wts es
  | [], _ => by rw [List.nil_append, wts]; omega
  | x :: xs, es => by
    rw [List.cons_append, wts, wts, wts_app (ds := xs)]
    omega
theorem wts_drop : ∀ {ds : List PyData} (i : Nat), wts (ds.drop i) ≤ wts ds
  | _, 0 => Nat.le_refl _
  | [], _ + 1 => by rw [List.drop_nil]; exact Nat.le_refl _
  | x :: xs, i + 1 => by
    rw [List.drop_succ_cons, wts]
    have := wts_drop (ds := xs) i
    omega
theorem wts_take : ∀ {ds : List PyData} (i : Nat), wts (ds.take i) ≤ wts ds
  | _, 0 => by rw [List.take_zero, wts]; exact Nat.zero_le _
  | [], _ + 1 => by rw [List.take_nil]; exact Nat.le_refl _
  | x :: xs, i + 1 => by
    rw [List.take_succ_cons, wts, wts]
    have := wts_take (ds := xs) i
    omega
theorem wts_mem {d : PyData} : ∀ {ds : List PyData}, d ∈ ds → wt d + 2 ≤ wts ds
  | x :: xs, h => by
    rw [wts]
    rcases List.mem_cons.mp h with rfl | h
    · omega
    · have := wts_mem h
      omega
theorem wts_len : ∀ {ds : List PyData}, ds.length ≤ wts ds
  | [] => Nat.zero_le _
  | x :: xs => by
    have := wts_len (ds := xs)
    rw [wts, List.length_cons]
    omega
theorem depths_mem {d : PyData} : ∀ {ds : List PyData}, d ∈ ds → d.depth ≤ PyData.depthAll ds
  | x :: xs, h => by
    rw [PyData.depthAll]
    rcases List.mem_cons.mp h with rfl | h
    · exact Nat.le_max_left _ _
    · exact Nat.le_trans (depths_mem h) (Nat.le_max_right _ _)
theorem depths_le {n : Nat} : ∀ {ds : List PyData}, (∀ d ∈ ds, d.depth ≤ n) → PyData.depthAll ds ≤ n
  | [], _ => by rw [PyData.depthAll]; exact Nat.zero_le _
  | x :: xs, h => by
    rw [PyData.depthAll]
    exact Nat.max_le.mpr ⟨h x (.head _), depths_le fun d hd => h d (.tail _ hd)⟩
mutual
theorem shq_ok : ∀ {d : PyData}, ShQ d → d.showable = true ∧ d.shown.length ≤ wt d
  | .none, _ => ⟨rfl, by decide +kernel⟩
  | .bool b, _ => ⟨rfl, by cases b <;> decide +kernel⟩
  | .int i, h => ⟨decide_eq_true h, int_text_len_1921 h⟩
  | .str x, h => ⟨rfl, Nat.le_trans (StrLaws.reprText_len x h) (Nat.add_le_add_left (by decide) _)⟩
  | .list xs, h => by
    obtain ⟨a, c⟩ := shqs_ok (xs := xs) h
    refine ⟨by rw [PyData.showable]; exact a, ?_⟩
    rw [PyData.shown, wt]
    exact Nat.le_trans (listText_len_le _) (by omega)
  | .tuple xs, h => by
    obtain ⟨a, c⟩ := shqs_ok (xs := xs) h
    refine ⟨by rw [PyData.showable]; exact a, ?_⟩
    rw [PyData.shown, wt]
    exact Nat.le_trans (tupleText_len_le _) (by omega)
  | .dict xs, h => by
    have h : xs = [] := h
    subst h
    exact ⟨by rw [PyData.showable, PyData.showableKv], by rw [PyData.shown, PyData.shownKv, wt]; decide +kernel⟩
theorem shqs_ok : ∀ {xs : List PyData}, ShQs xs → PyData.showableAll xs = true ∧ ((PyData.shownAll xs).map (·.length)).sum + 2 * (PyData.shownAll xs).length ≤ wts xs
  | [], _ => ⟨rfl, Nat.le_refl _⟩
  | x :: xs, h => by
    obtain ⟨a1, c1⟩ := shq_ok h.1
    obtain ⟨a2, c2⟩ := shqs_ok h.2
    refine ⟨by rw [PyData.showableAll, a1, a2]; rfl, ?_⟩
    rw [PyData.shownAll, wts, List.map_cons, List.sum_cons, List.length_cons]
    omega
end
section
variable {X : Cx} {k : Nat} {fz : Bool} {t : Addr}
/-- repr of a thing of any kind -/
theorem call_reprQ (gd : X.A.guards = some []) (hr : Room k X.A) : CallR X (.builtin "repr") (fun xs H Q => ∃ fz t v d, xs = [v] ∧ Dq fz t H v d ∧ ShQ d ∧ d.depth ≤ 50 ∧ wt d ≤ 4000000 ∧ Q (.str d.shown) H) := by
  intro pins s σ H xs us Q I r h
  obtain ⟨fz, t, v, d, rfl, dq, sh, deep, few, q⟩ := h
  obtain ⟨u, rfl, ru⟩ := vals1 r
  obtain ⟨a, c⟩ := shq_ok sh
  have fits : wt d ≤ sizeLine := Nat.le_trans few (by decide)
  have hz := Nat.le_trans c fits
  have hu := hr.un
  have turn : ∀ h' u tk, (∀ b o, s.heap.get? b = some o → h'.get? b = some o) → EP X pins σ Q (.str d.shown u) { s with heap := h', toks := tk } := fun h' u tk kp => ⟨.str _, H, I.turnedL (ch := []) (h' := h') (t' := tk) (fun b o _ e => kp b o e) (fun b hb => by cases hb), ⟨_, rfl⟩, q⟩
  cases dq with
  | non => cases ru; exact PySem.P.repr_of_none ⟨.str _, H, I.tok _, ⟨_, rfl⟩, q⟩
  | bl x => cases ru; exact PySem.P.repr_of_bool ⟨.str _, H, I.tok _, ⟨_, rfl⟩, q⟩
  | int i =>
    obtain ⟨tt, rfl⟩ := ru
    exact PySem.P.repr_of_int sh ⟨.str _, H, I.tok _, ⟨_, rfl⟩, q⟩
  | str x =>
    obtain ⟨tt, rfl⟩ := ru
    exact PySem.P.repr_of_str ⟨.str _, H, I.tok _, ⟨_, rfl⟩, q⟩ hz
  | @lst p vs ds n e h =>
    cases ru
    obtain ⟨as, rd⟩ := dq_reads (u := .ref _) I (Dq.lst n e h) rfl
    obtain ⟨o, us, m, h1, h2, h3, rv⟩ := dq_list I e
    obtain ⟨bs, b1, b2⟩ := dq_showsAll I h rv (by simpa [PyData.showable] using a) fun x hx => Nat.le_trans (listText_mem_le hx) (by simpa only [PyData.shown] using hz)
    have lt : PyData.depthAll ds < (PyData.list ds).depth := by simp only [PyData.depth]; omega
    have out := not_mem_of_deeper rd lt b1
    refine call_repr_slot (by omega) ⟨o, h1, h2⟩ F.slot_list_repr.toG ?_
    have turn2 : ∀ h' u tk, (∀ b o, s.heap.get? b = some o → h'.get? b = some o) → ∃ x z, Value.str (PyData.list ds).shown u = .str x z ∧ EP X pins σ Q (.str (PyData.list ds).shown u) { s with heap := h', toks := tk } := fun h' u tk kp => ⟨_, _, rfl, turn h' u tk kp⟩
    simp only [PyData.shown] at turn2 hz
    cases us with
    | nil =>
      cases rv
      cases h
      simp only [PyData.shownAll, listText_nil] at turn2
      exact call_list_repr_empty ⟨o, h1, h2⟩ h1 h3 (turn2 s.heap _ _ fun _ _ e => e)
    | cons x l => exact call_list_reprK h1 h2 h3 out (by simpa using b2.length_eq) (fun i y q => b2.item i y (by simpa using q)) gd (fun b _ => Clear.nil b) (by simp only [PyData.depth] at deep; show X.A.units + 1 + _ < _; omega) (fun _ _ e => e) turn2 hz
  | @tup p vs ds n e h =>
    cases ru
    obtain ⟨as, rd⟩ := dq_reads (u := .ref _) I (Dq.tup n e h) rfl
    obtain ⟨o, us, m, h1, h2, h3, rv⟩ := dq_tuple I (.inl (.inl e))
    obtain ⟨bs, b1, b2⟩ := dq_showsAll I h rv (by simpa [PyData.showable] using a) fun x hx => Nat.le_trans (tupleText_mem_le hx) (by simpa only [PyData.shown] using hz)
    have lt : PyData.depthAll ds < (PyData.tuple ds).depth := by simp only [PyData.depth]; omega
    refine call_repr_slot (by omega) ⟨o, h1, h2⟩ F.slot_tuple_repr ?_
    have turn2 : ∀ h' u tk, (∀ b o, s.heap.get? b = some o → h'.get? b = some o) → ∃ x z, Value.str (PyData.tuple ds).shown u = .str x z ∧ EP X pins σ Q (.str (PyData.tuple ds).shown u) { s with heap := h', toks := tk } := fun h' u tk kp => ⟨_, _, rfl, turn h' u tk kp⟩
    simp only [PyData.shown] at turn2 hz
    exact call_tuple_reprK h1 h2 h3 (not_mem_of_deeper rd lt b1) b2 gd (fun b _ => Clear.nil b) (by simp only [PyData.depth] at deep; show X.A.units + 1 + _ < _; omega) (fun _ _ e => e) turn2 hz
  | @frz p o' vs ds fn n e h =>
    cases ru
    obtain ⟨as, rd⟩ := dq_reads (u := .ref _) I (Dq.frz fn n e h) rfl
    obtain ⟨o, us, m, h1, h2, h3, rv⟩ := dq_tuple I (.inl (.inr ⟨_, e⟩))
    obtain ⟨bs, b1, b2⟩ := dq_showsAll I h rv (by simpa [PyData.showable] using a) fun x hx => Nat.le_trans (tupleText_mem_le hx) (by simpa only [PyData.shown] using hz)
    have lt : PyData.depthAll ds < (PyData.tuple ds).depth := by simp only [PyData.depth]; omega
    refine call_repr_slot (by omega) ⟨o, h1, h2⟩ F.slot_tuple_repr ?_
    have turn2 : ∀ h' u tk, (∀ b o, s.heap.get? b = some o → h'.get? b = some o) → ∃ x z, Value.str (PyData.tuple ds).shown u = .str x z ∧ EP X pins σ Q (.str (PyData.tuple ds).shown u) { s with heap := h', toks := tk } := fun h' u tk kp => ⟨_, _, rfl, turn h' u tk kp⟩
    simp only [PyData.shown] at turn2 hz
    exact call_tuple_reprK h1 h2 h3 (not_mem_of_deeper rd lt b1) b2 gd (fun b _ => Clear.nil b) (by simp only [PyData.depth] at deep; show X.A.units + 1 + _ < _; omega) (fun _ _ e => e) turn2 hz
  | @dct p n e =>
    cases ru
    obtain ⟨o, m, h1, h2, h3, h4⟩ := dq_dict I e
    refine call_repr_slot (by omega) ⟨o, h1, h2⟩ F.slot_dict_repr ?_
    have turn2 : ∀ h' u tk, (∀ b o, s.heap.get? b = some o → h'.get? b = some o) → ∃ x z, Value.str (PyData.dict []).shown u = .str x z ∧ EP X pins σ Q (.str (PyData.dict []).shown u) { s with heap := h', toks := tk } := fun h' u tk kp => ⟨_, _, rfl, turn h' u tk kp⟩
    simp only [PyData.shown, PyData.shownKv] at turn2 hz
    exact call_dict_reprK (as := []) (d := 0) (ps := []) h1 h2 h3 h4 (fun z => nomatch z) .nil gd (fun b _ => Clear.nil b) (by show X.A.units + 1 + _ < _; omega) (fun _ _ e => e) turn2 hz
end
/-! ### kinds -/
theorem dq_typed {fz : Bool} {t : Addr} {H : Hp} {v : V} {d : PyData} (h : Dq fz t H v d) : (∃ a o xs, v = .ref a ∧ H a = some (.frz o (.tup xs))) ∨ Typed H v := by
  cases h with
  | non => exact .inr trivial
  | bl => exact .inr trivial
  | int => exact .inr trivial
  | str => exact .inr trivial
  | lst n e h => exact .inr (.inr (.inl ⟨_, e⟩))
  | tup n e h => exact .inr (.inl ⟨_, e⟩)
  | frz fn n e h => exact .inl ⟨_, _, _, rfl, e⟩
  | dct n e => exact .inr (.inr (.inr ⟨_, e⟩))
/-- whether a thing's data are of a built-in kind -/
def kindQ (n : String) : PyData → Bool
  | .none => false
  | .bool _ => n == "bool" || n == "int"
  | .int _ => n == "int"
  | .str _ => n == "str"
  | .tuple _ => n == "tuple"
  | .list _ => n == "list"
  | .dict _ => n == "dict"
theorem dq_kind {K : PySem.W.Frag} {fz : Bool} {t : Addr} {H : Hp} {v : V} {d : PyData} {n : String} (hn : n = "int" ∨ n = "bool" ∨ n = "str" ∨ n = "tuple") (h : Dq fz t H v d) : ∃ u, TyX K H v u ∧ PySem.W.kitOne K u (.type n) = some (kindQ n d) := by
  cases h with
  | non => rcases hn with rfl | rfl | rfl | rfl <;> exact ⟨_, .base .non, kit_ty (r := false) (by decide +kernel)⟩
  | bl b =>
    rcases hn with rfl | rfl | rfl | rfl
    · exact ⟨_, .base (.bl b), kit_ty (r := true) (by decide +kernel)⟩
    · exact ⟨_, .base (.bl b), kit_ty (r := true) (by decide +kernel)⟩
    · exact ⟨_, .base (.bl b), kit_ty (r := false) (by decide +kernel)⟩
    · exact ⟨_, .base (.bl b), kit_ty (r := false) (by decide +kernel)⟩
  | int i =>
    rcases hn with rfl | rfl | rfl | rfl
    · exact ⟨_, .base (.int i), kit_ty (r := true) (by decide +kernel)⟩
    · exact ⟨_, .base (.int i), kit_ty (r := false) (by decide +kernel)⟩
    · exact ⟨_, .base (.int i), kit_ty (r := false) (by decide +kernel)⟩
    · exact ⟨_, .base (.int i), kit_ty (r := false) (by decide +kernel)⟩
  | str x =>
    rcases hn with rfl | rfl | rfl | rfl
    · exact ⟨_, .base (.str x), kit_ty (r := false) (by decide +kernel)⟩
    · exact ⟨_, .base (.str x), kit_ty (r := false) (by decide +kernel)⟩
    · exact ⟨_, .base (.str x), kit_ty (r := true) (by decide +kernel)⟩
    · exact ⟨_, .base (.str x), kit_ty (r := false) (by decide +kernel)⟩
  | lst _ e _ => rcases hn with rfl | rfl | rfl | rfl <;> exact ⟨_, .base (.lst e), kit_ty (r := false) (by decide +kernel)⟩
  | tup _ e _ => rcases hn with rfl | rfl | rfl | rfl <;> first | exact ⟨_, .base (.tup e), kit_ty (r := false) (by decide +kernel)⟩ | exact ⟨_, .base (.tup e), kit_ty (r := true) (by decide +kernel)⟩
  | frz _ _ e _ => rcases hn with rfl | rfl | rfl | rfl <;> first | exact ⟨_, .fTuple e, kit_ty (r := false) (by decide +kernel)⟩ | exact ⟨_, .fTuple e, kit_ty (r := true) (by decide +kernel)⟩
  | dct _ e => rcases hn with rfl | rfl | rfl | rfl <;> exact ⟨_, .base (.dK e), kit_ty (r := false) (by decide +kernel)⟩
end My

set_option Elab.async false
set_option linter.all false
set_option maxRecDepth 100000
set_option maxHeartbeats 4000000
/-! in, not in: a thing of any kind in texts or in pairs of texts; a text in things of any kind. -/
namespace My
open PySem PySem.Spec PyProof.Rows L2 PySem.SeqAt
theorem tuple_declines_dict (b l : Addr) (items : Array Value) (n m : Nat) (dd d2 : Option Addr) (sl s2 : Array (Option Value)) (es : Array DictEntry) :
    Meets (Builtin.«tuple.__eq__» ⟨[.ref b, .ref l], []⟩) (fun _ R s => s.heap.get? b = some { cls := .type "tuple", dict := dd, data := .seq items n, slots := sl } ∧ s.heap.get? l = some { cls := .type "dict", dict := d2, data := .dict es m, slots := s2 } ∧ R (.ok (.ret .notImplemented)) s) := by
  refine .of_wp fun prog w A R s h => ?_
  obtain ⟨hp, g, d, tk, os⟩ := s
  obtain ⟨hb, hl, h⟩ := h
  have f1 := F.sub_dict_tuple
  wp_walk using wpAny_loadPart' hb, wpAny_loadPart' hl
  exact ⟨_, rfl, h⟩
theorem dict_declines_tuple (b l : Addr) (items : Array Value) (n m : Nat) (dd d2 : Option Addr) (sl s2 : Array (Option Value)) (es : Array DictEntry) :
    Meets (Builtin.«dict.__eq__» ⟨[.ref l, .ref b], []⟩) (fun _ R s => s.heap.get? b = some { cls := .type "tuple", dict := dd, data := .seq items n, slots := sl } ∧ s.heap.get? l = some { cls := .type "dict", dict := d2, data := .dict es m, slots := s2 } ∧ R (.ok (.ret .notImplemented)) s) := by
  refine .of_wp fun prog w A R s h => ?_
  obtain ⟨hp, g, d, tk, os⟩ := s
  obtain ⟨hb, hl, h⟩ := h
  wp_walk using wpAny_loadPart' hl, wpAny_loadPart' hb, wpAny_load hl
  refine wpAny_of_eq F.sub_tuple_dict ?_
  rw [if_pos (by decide)]
  exact wpAny_bind (wpAny_rule (wpAny_pure ⟨_, rfl, h⟩))
section
variable {A : Around} {s : Shared}
theorem eq_tuple_dict {b l : Addr} {items : Array Value} {o : Obj} {es : Array DictEntry} {m : Nat} (hb : s.heap.IsTuple b items) (ho : s.heap.get? l = some o) (hc : o.cls = .type "dict") (hd : o.data = .dict es m) (hu : A.units < cLine) : EqAt A s (.ref b) (.ref l) false := by
  obtain ⟨⟨cls, dd, data, sl⟩, hb, hbc, n, hbd⟩ := hb
  obtain ⟨c2, d2, da2, s2⟩ := o
  simp only at hc hd hbc hbd
  subst hc hd hbc hbd
  have ne : b ≠ l := fun e => by
    subst e
    rw [ho] at hb
    simp at hb
  refine .of_refs ne fun prog w E Q h => ?_
  exact rc_eq_decline_or (k := false) ⟨_, hb, rfl⟩ ⟨_, ho, rfl⟩ (by decide) F.sub_dict_tuple F.slot_tuple_eq F.slot_dict_eq_refl
    (fun _ hq => call_meets F.slot_tuple_eq ⟨_, hb, rfl⟩ F.entry_tuple_eq (F.args_tuple_eq_2 _ _) (tuple_declines_dict b l items n m dd d2 sl s2 es) ⟨hb, ho, hq⟩)
    (fun _ hq => call_meets F.slot_dict_eq_refl ⟨_, ho, rfl⟩ F.entry_dict_eq (F.args_dict_eq_2 _ _) (dict_declines_tuple b l items n m dd d2 sl s2 es) ⟨hb, ho, hq⟩)
    (fun _ hq => by first | exact wpAny_isSame_ref_other' ne hb ho (by simp) hq | exact wpAny_isSame_ref_other ne hb ho (by simp) hq) (.inr hu) h
theorem eq_dict_str {l : Addr} {o : Obj} {es : Array DictEntry} {n : Nat} (b : Str) (u : Tok) (ho : s.heap.get? l = some o) (hc : o.cls = .type "dict") (hd : o.data = .dict es n) (hu : A.units < cLine) : EqAt A s (.ref l) (.str b u) false := fun prog w E Q h => by
  unfold eqBool
  refine wpAny_holding (wpAny_ite_split (fun hab => absurd (eq_of_beq hab) nofun) fun _ => ?_)
  refine wpAny_bind (rc_eq_decline_or (k := false) ⟨_, ho, hc⟩ (typeIs_str s b u) (by decide) (show isSubtype (.type "str") (.type "dict") = pure false by rw [isSubtype_type]; kernel_rfl) F.slot_dict_eq F.slot_str_eq_refl
    (fun _ hq => call_meets F.slot_dict_eq ⟨_, ho, hc⟩ F.entry_dict_eq (F.args_dict_eq_2 _ _) (dict_declines_str b u l o es n hc hd) ⟨ho, hq⟩)
    (fun _ hq => call_meets F.slot_str_eq_refl (typeIs_str s b u) F.entry_str_eq (F.args_str_eq_2 _ _) (str_declines_dict b u l o es n hd) ⟨ho, hq⟩)
    (fun _ hq => wpAny_of_eq (rfl : isSame (.ref l) (.str b u) = pure false) hq) (.inr hu) (wpAny_truthy_bool h))
end
/-! ### a text, a pair of texts against a thing -/
/-- the thing is that text -/
def isT (z : Str) : PyData → Bool
  | .str y => z == y
  | _ => false
/-- the thing is that pair -/
def isP (p : Str × Str) : PyData → Bool
  | .tuple [x, y] => isT p.1 x && isT p.2 y
  | _ => false
section
variable {X : Cx} {pins : List (Addr × Obj)} {σ : L2.St} {H : Hp} {s : Shared} {fz : Bool} {t : Addr} {A : Around}
theorem dq_isTuple {a : Addr} {xs : List V} (I : Inv X pins σ H s) (e : SqT X.K H a xs) : ∃ us : List Value, s.heap.IsTuple a us.toArray ∧ Vals xs us := by
  obtain ⟨us, rv, p, _⟩ := I.tuple e
  exact ⟨us, p, rv⟩
/-- a text, then the thing -/
theorem eq_text {x : V} {d : PyData} {v : Value} (I : Inv X pins σ H s) (h : Dq fz t H x d) (r : RelV x v) (hu : A.units < cLine) (z : Str) (k : Tok) : EqAt A s (.str z k) v (isT z d) := by
  cases h with
  | non => cases r; exact EqAt.str_none z k
  | bl b => cases r; exact EqAt.str_bool z k b
  | int i => obtain ⟨u, rfl⟩ := r; exact EqAt.str_int z k i u
  | str y => obtain ⟨u, rfl⟩ := r; exact EqAt.str_str z k y u
  | lst n e h =>
    cases r
    obtain ⟨us, rv, pl, _⟩ := I.list (.inl (.inl e))
    exact EqAt.str_list z k pl.isList hu
  | tup n e h =>
    cases r
    obtain ⟨us, p, _⟩ := dq_isTuple I (.inl (.inl e))
    exact EqAt.str_tuple z k p hu
  | frz fn n e h =>
    cases r
    obtain ⟨us, p, _⟩ := dq_isTuple I (.inl (.inr ⟨_, e⟩))
    exact EqAt.str_tuple z k p hu
  | dct n e =>
    cases r
    obtain ⟨o, m, h1, h2, h3, _⟩ := dq_dict I e
    exact eq_str_dict z k h1 h2 h3 hu
/-- the thing, then a text -/
theorem eq_text2 {x : V} {d : PyData} {v : Value} (I : Inv X pins σ H s) (h : Dq fz t H x d) (r : RelV x v) (hu : A.units < cLine) (z : Str) (k : Tok) : EqAt A s v (.str z k) (isT z d) := by
  cases h with
  | non => cases r; exact EqAt.none_str z k
  | bl b => cases r; exact EqAt.bool_str b z k
  | int i => obtain ⟨u, rfl⟩ := r; exact EqAt.int_str i u z k
  | str y =>
    obtain ⟨u, rfl⟩ := r
    have e := EqAt.str_str (A := A) (s := s) y u z k
    rw [show (y == z) = isT z (.str y) by show (y == z) = (z == y); rw [Bool.eq_iff_iff, beq_iff_eq, beq_iff_eq]; exact eq_comm] at e
    exact e
  | lst n e h =>
    cases r
    obtain ⟨us, rv, pl, _⟩ := I.list (.inl (.inl e))
    exact EqAt.list_str z k pl.isList hu
  | tup n e h =>
    cases r
    obtain ⟨us, p, _⟩ := dq_isTuple I (.inl (.inl e))
    exact EqAt.tuple_str z k p hu
  | frz fn n e h =>
    cases r
    obtain ⟨us, p, _⟩ := dq_isTuple I (.inl (.inr ⟨_, e⟩))
    exact EqAt.tuple_str z k p hu
  | dct n e =>
    cases r
    obtain ⟨o, m, h1, h2, h3, _⟩ := dq_dict I e
    exact eq_dict_str z k h1 h2 h3 hu
theorem vals_at : ∀ {xs : List V} {us : List Value}, Vals xs us → ∀ (j : Nat) (u : Value), us[j]? = some u → ∃ v, xs[j]? = some v ∧ RelV v u
  | _, _, .nil, _, _, e => by cases e
  | _, _, .cons a _, 0, _, e => by cases e; exact ⟨_, rfl, a⟩
  | _, _, .cons _ r, j + 1, u, e => vals_at r j u e
theorem dqs_two {xs : List V} {ds : List PyData} {us : List Value} (h : DqAll fz t H xs ds) (r : Vals xs us) (n : us.length = 2) : ∃ x y d e u v, xs = [x, y] ∧ ds = [d, e] ∧ us = [u, v] ∧ Dq fz t H x d ∧ Dq fz t H y e ∧ RelV x u ∧ RelV y v := by
  cases r with
  | nil => cases n
  | cons r1 r =>
    cases r with
    | nil => cases n
    | cons r2 r =>
      cases r with
      | cons _ _ => simp at n
      | nil =>
        cases h with
        | cons h1 h =>
          cases h with
          | cons h2 h =>
            cases h
            exact ⟨_, _, _, _, _, _, rfl, rfl, rfl, h1, h2, r1, r2⟩
theorem eq_pair_tup {a b : Addr} {xs : List V} {ds : List PyData} {p : Str × Str} {k1 k2 : Tok} (I : Inv X pins σ H s) (hu : A.units + 1 < cLine) (hb : s.heap.IsTuple b #[.str p.1 k1, .str p.2 k2]) (e : SqT X.K H a xs) (h : DqAll fz t H xs ds) : EqAt A s (.ref b) (.ref a) (isP p (.tuple ds)) := by
  obtain ⟨us, ha, rv⟩ := dq_isTuple I e
  by_cases ab : b = a
  · subst ab
    have eu : us.toArray = #[.str p.1 k1, .str p.2 k2] := by
      obtain ⟨o, h1, _, n1, d1⟩ := hb
      obtain ⟨o2, h2, _, n2, d2⟩ := ha
      rw [h1] at h2
      cases h2
      rw [d1] at d2
      cases d2
      rfl
    have eu : us = [.str p.1 k1, .str p.2 k2] := by simpa using congrArg Array.toList eu
    obtain ⟨x, y, d, e', u, v, rfl, rfl, eu2, h1, h2, r1, r2⟩ := dqs_two h rv (by rw [eu]; rfl)
    rw [eu] at eu2
    cases eu2
    have dx : ∀ {x : V} {d : PyData} {z : Str} {k : Tok}, Dq fz t H x d → RelV x (.str z k) → isT z d = true := fun {x d z k} h r => by
      cases h with
      | str y =>
        obtain ⟨u, e⟩ := r
        cases e
        show (z == z) = true
        exact beq_self_eq_true z
      | non => cases r
      | bl b => cases r
      | int i => obtain ⟨u, e⟩ := r; cases e
      | lst => cases r
      | tup => cases r
      | frz => cases r
      | dct => cases r
    rw [show isP p (.tuple [d, e']) = true by show (isT p.1 d && isT p.2 e') = true; rw [dx h1 r1, dx h2 r2]; rfl]
    exact EqAt.same _
  · refine EqAt.of_refs ab ?_
    let e : Nat → Bool := fun j => match ds[j]? with | some d => isT (if j = 0 then p.1 else p.2) d | none => false
    have q := RcAt.tuples (A := A) (e := e) hb ha (by omega) (fun j j1 j2 => by
      have j2 : j < us.length := by simpa using j2
      obtain ⟨v, hv, rel⟩ := vals_at rv j us[j] (List.getElem?_eq_getElem j2)
      obtain ⟨d, hd, dq⟩ := h.get hv
      have ee : e j = isT (if j = 0 then p.1 else p.2) d := by show (match ds[j]? with | some d => isT (if j = 0 then p.1 else p.2) d | none => false) = _; rw [hd]
      rw [ee]
      match j, j1 with
      | 0, _ => exact eq_text I dq rel (by show A.units + 1 < cLine; exact hu) p.1 k1
      | 1, _ => exact eq_text I dq rel (by show A.units + 1 < cLine; exact hu) p.2 k2
      | j + 2, j1 => exact absurd j1 (by simp))
    have l1 := h.length
    have l2 := rv.length
    have fin : ((List.range (min (#[Value.str p.1 k1, Value.str p.2 k2] : Array Value).size us.toArray.size)).all e && (#[Value.str p.1 k1, Value.str p.2 k2] : Array Value).size == us.toArray.size) = isP p (.tuple ds) := by
      rw [show us.toArray.size = ds.length by rw [List.size_toArray, ← l2, l1]]
      show ((List.range (min 2 ds.length)).all e && (2 == ds.length)) = _
      clear q l1 h
      rcases ds with _ | ⟨d, _ | ⟨d', _ | ⟨d3, r⟩⟩⟩
      · rfl
      · simp [isP]
      · show ((List.range 2).all _ && true) = (isT p.1 d && isT p.2 d')
        rw [show List.range 2 = [0, 1] from rfl]
        simp [e]
      · have : (2 == (r.length + 3)) = false := by simp
        show (_ && (2 == (r.length + 3))) = false
        rw [this, Bool.and_false]
    rw [fin] at q
    exact q
/-- a pair of texts, then the thing -/
theorem eq_pair {x : V} {d : PyData} {v : Value} {b : Addr} {p : Str × Str} {k1 k2 : Tok} (I : Inv X pins σ H s) (h : Dq fz t H x d) (r : RelV x v) (hu : A.units + 1 < cLine) (hb : s.heap.IsTuple b #[.str p.1 k1, .str p.2 k2]) : EqAt A s (.ref b) v (isP p d) := by
  cases h with
  | non => cases r; exact EqAt.tuple_none hb (by omega)
  | bl c => cases r; exact EqAt.tuple_bool c hb (by omega)
  | int i => obtain ⟨u, rfl⟩ := r; exact EqAt.tuple_int i u hb (by omega)
  | str y => obtain ⟨u, rfl⟩ := r; exact EqAt.tuple_str y u hb (by omega)
  | lst n e h =>
    cases r
    obtain ⟨us, rv, pl, _⟩ := I.list (.inl (.inl e))
    exact EqAt.tuple_list hb pl.isList (by omega)
  | tup n e h =>
    cases r
    exact eq_pair_tup I hu hb (.inl (.inl e)) h
  | frz fn n e h =>
    cases r
    exact eq_pair_tup I hu hb (.inl (.inr ⟨_, e⟩)) h
  | dct n e =>
    cases r
    obtain ⟨o, m, h1, h2, h3, _⟩ := dq_dict I e
    exact eq_tuple_dict hb h1 h2 h3 (by omega)
end
/-- the thing is among the texts -/
def inT (zs : List Str) (d : PyData) : Bool := zs.any fun z => isT z d
/-- the thing is among the pairs -/
def inPs (ps : List (Str × Str)) (d : PyData) : Bool := ps.any fun p => isP p d
open Classical in
/-- what == tells of an item, by what the item is -/
noncomputable def tells {α : Type} (R : Value → α → Prop) (f : α → Bool) (y : Value) : Bool := if h : ∃ a, R y a then f h.choose else false
theorem tells_is {α : Type} {R : Value → α → Prop} {f : α → Bool} {y : Value} {a : α} (h : R y a) (u : ∀ b, R y b → f b = f a) : tells R f y = f a := by
  have e : ∃ a, R y a := ⟨a, h⟩
  unfold tells
  rw [dif_pos e]
  exact u _ e.choose_spec
inductive EachI {α : Type} (R : Value → α → Prop) : List Value → List α → Prop
  | nil : EachI R [] []
  | cons {y : Value} {a : α} {us : List Value} {as : List α} : R y a → EachI R us as → EachI R (y :: us) (a :: as)
/-- a text's value -/
def ValT (y : Value) (z : Str) : Prop := ∃ k, y = .str z k
theorem valT_one {y : Value} {z z' : Str} (h : ValT y z) (k : ValT y z') : z = z' := by
  obtain ⟨a, rfl⟩ := h
  obtain ⟨b, e⟩ := k
  cases e
  rfl
theorem valsT : ∀ {zs : List Str} {us : List Value}, Vals (zs.map V.str) us → EachI ValT us zs
  | [], _, .nil => .nil
  | _ :: _, _, .cons r t => .cons r (valsT t)
def ValP (h : Heap) (y : Value) (p : Str × Str) : Prop := ∃ b k1 k2, y = .ref b ∧ h.IsTuple b #[.str p.1 k1, .str p.2 k2]
theorem valP_one {h : Heap} {y : Value} {p q : Str × Str} (a : ValP h y p) (b : ValP h y q) : p = q := by
  obtain ⟨c, k1, k2, rfl, o, h1, _, n, d1⟩ := a
  obtain ⟨c', l1, l2, e, o', h2, _, n', d2⟩ := b
  cases e
  rw [h1] at h2
  cases h2
  rw [d1] at d2
  simp at d2
  exact Prod.ext d2.1.1.1 d2.1.2.1
theorem any_tells {α : Type} {R : Value → α → Prop} {f : α → Bool} (one : ∀ y a b, R y a → R y b → a = b) : ∀ {us : List Value} {as : List α}, EachI R us as → us.any (tells R f) = as.any f
  | _, _, .nil => rfl
  | _, _, .cons h t => by
    rw [List.any_cons, List.any_cons, any_tells one t, tells_is h fun b hb => by rw [one _ _ _ h hb]]
theorem each_get {α : Type} {R : Value → α → Prop} : ∀ {us : List Value} {as : List α} {y : Value}, EachI R us as → y ∈ us → ∃ a, R y a
  | _, _, _, .nil, m => by cases m
  | _, _, _, .cons h t, m => by
    rcases List.mem_cons.mp m with rfl | m
    · exact ⟨_, h⟩
    · exact each_get t m
section
variable {X : Cx} {pins : List (Addr × Obj)} {σ : L2.St} {H : Hp} {s : Shared}
theorem valsP (I : Inv X pins σ H s) : ∀ {ps : List (Str × Str)} {xs : List V} {us : List Value}, NkAll H xs (ps.map fun p => NestedKey.tup [.text p.1, .text p.2]) → Vals xs us → EachI (ValP s.heap) us ps
  | [], _, _, .nil, .nil => .nil
  | p :: ps, _, _, .cons n h, .cons r1 r2 => by
    refine .cons ?_ (valsP I h r2)
    cases n with
    | @tup q xs _ e hk =>
      cases hk with
      | cons n1 hk =>
        cases n1
        cases hk with
        | cons n2 hk =>
          cases n2
          cases hk
          cases r1
          obtain ⟨us, rv, pl, _⟩ := I.tuple (.inl (.inl e))
          cases rv with
          | cons q1 rv =>
            cases rv with
            | cons q2 rv =>
              cases rv
              obtain ⟨k1, rfl⟩ := q1
              obtain ⟨k2, rfl⟩ := q2
              exact ⟨q, k1, k2, rfl, pl⟩
end
/-! ### the rules -/
def rInQT (K : PySem.W.Frag) (neg : Bool) : R2 := fun x y H Q => ∃ (fz : Bool) (t p : Addr) (zs : List Str) (d : PyData), y = .ref p ∧ (SqL K H p (zs.map V.str) ∨ SqT K H p (zs.map V.str)) ∧ Dq fz t H x d ∧ Q (.bl (if neg then !inT zs d else inT zs d)) H
def rInQP (K : PySem.W.Frag) (neg : Bool) : R2 := fun x y H Q => ∃ (fz : Bool) (t p : Addr) (xs : List V) (ps : List (Str × Str)) (d : PyData), y = .ref p ∧ (SqL K H p xs ∨ SqT K H p xs) ∧ NkAll H xs (ps.map fun p => NestedKey.tup [.text p.1, .text p.2]) ∧ Dq fz t H x d ∧ Q (.bl (if neg then !inPs ps d else inPs ps d)) H
def rInTQ (K : PySem.W.Frag) (neg : Bool) : R2 := fun x y H Q => ∃ (fz : Bool) (t p : Addr) (z : Str) (xs : List V) (ds : List PyData), x = .str z ∧ y = .ref p ∧ (SqL K H p xs ∨ SqT K H p xs) ∧ DqAll fz t H xs ds ∧ Q (.bl (if neg then !(ds.any fun d => isT z d) else ds.any fun d => isT z d)) H
section
variable {X : Cx}
theorem op_inQT (hu : X.A.units + 64 < cLine) : OpR X (compareOp .In) (rInQT X.K false) := by
  intro pins s σ H x y v u Q I rx ry h
  obtain ⟨fz, t, p, zs, d, rfl, hq, hx, q⟩ := h
  cases ry
  have each {us : List Value} (r : Vals (zs.map V.str) us) : us.any (tells ValT fun z => isT z d) = inT zs d ∧ ∀ y ∈ us, EqAt X.A.in1 s y v (tells ValT (fun z => isT z d) y) := by
    refine ⟨any_tells (R := ValT) (fun y a b => valT_one) (valsT r), fun y hy => ?_⟩
    obtain ⟨z, hz⟩ := each_get (valsT r) hy
    rw [tells_is hz fun b hb => by rw [valT_one hz hb]]
    obtain ⟨k, rfl⟩ := hz
    exact eq_text I hx rx (by show X.A.units + 1 < cLine; omega) z k
  rcases hq with hq | hq
  · obtain ⟨its, r, pl, _⟩ := I.list hq
    obtain ⟨e1, e2⟩ := each r
    refine in_listAt (tells ValT fun z => isT z d) pl.isList (fun y hy => e2 y (by simpa using hy)) ⟨.bl _, H, I, rfl, ?_⟩
    rw [show its.toArray.any (tells ValT fun z => isT z d) = its.any (tells ValT fun z => isT z d) by simp, e1]
    exact q
  · obtain ⟨its, r, pl, _⟩ := I.tuple hq
    obtain ⟨e1, e2⟩ := each r
    refine in_tupleAt (tells ValT fun z => isT z d) pl (fun y hy => e2 y (by simpa using hy)) ⟨.bl _, H, I, rfl, ?_⟩
    rw [show its.toArray.any (tells ValT fun z => isT z d) = its.any (tells ValT fun z => isT z d) by simp, e1]
    exact q
theorem op_notInQT (hu : X.A.units + 64 < cLine) : OpR X (compareOp .NotIn) (rInQT X.K true) := by
  intro pins s σ H x y v u Q I rx ry h
  obtain ⟨fz, t, p, zs, d, rfl, hq, hx, q⟩ := h
  cases ry
  have each {us : List Value} (r : Vals (zs.map V.str) us) : us.any (tells ValT fun z => isT z d) = inT zs d ∧ ∀ y ∈ us, EqAt X.A.in1 s y v (tells ValT (fun z => isT z d) y) := by
    refine ⟨any_tells (R := ValT) (fun y a b => valT_one) (valsT r), fun y hy => ?_⟩
    obtain ⟨z, hz⟩ := each_get (valsT r) hy
    rw [tells_is hz fun b hb => by rw [valT_one hz hb]]
    obtain ⟨k, rfl⟩ := hz
    exact eq_text I hx rx (by show X.A.units + 1 < cLine; omega) z k
  rcases hq with hq | hq
  · obtain ⟨its, r, pl, _⟩ := I.list hq
    obtain ⟨e1, e2⟩ := each r
    refine notIn_listAt (tells ValT fun z => isT z d) pl.isList (fun y hy => e2 y (by simpa using hy)) ⟨.bl _, H, I, rfl, ?_⟩
    rw [show its.toArray.any (tells ValT fun z => isT z d) = its.any (tells ValT fun z => isT z d) by simp, e1]
    exact q
  · obtain ⟨its, r, pl, _⟩ := I.tuple hq
    obtain ⟨e1, e2⟩ := each r
    refine notIn_tupleAt (tells ValT fun z => isT z d) pl (fun y hy => e2 y (by simpa using hy)) ⟨.bl _, H, I, rfl, ?_⟩
    rw [show its.toArray.any (tells ValT fun z => isT z d) = its.any (tells ValT fun z => isT z d) by simp, e1]
    exact q
theorem op_inQP (hu : X.A.units + 64 < cLine) : OpR X (compareOp .In) (rInQP X.K false) := by
  intro pins s σ H x y v u Q I rx ry h
  obtain ⟨fz, t, p, xs, ps, d, rfl, hq, nk, hx, q⟩ := h
  cases ry
  have each {us : List Value} (r : Vals xs us) : us.any (tells (ValP s.heap) fun z => isP z d) = inPs ps d ∧ ∀ y ∈ us, EqAt X.A.in1 s y v (tells (ValP s.heap) (fun z => isP z d) y) := by
    refine ⟨any_tells (R := ValP s.heap) (fun y a b => valP_one) (valsP I nk r), fun y hy => ?_⟩
    obtain ⟨z, hz⟩ := each_get (valsP I nk r) hy
    rw [tells_is hz fun b hb => by rw [valP_one hz hb]]
    obtain ⟨b, k1, k2, rfl, hb⟩ := hz
    exact eq_pair I hx rx (by show X.A.units + 1 + 1 < cLine; omega) hb
  rcases hq with hq | hq
  · obtain ⟨its, r, pl, _⟩ := I.list hq
    obtain ⟨e1, e2⟩ := each r
    refine in_listAt (tells (ValP s.heap) fun z => isP z d) pl.isList (fun y hy => e2 y (by simpa using hy)) ⟨.bl _, H, I, rfl, ?_⟩
    rw [show its.toArray.any (tells (ValP s.heap) fun z => isP z d) = its.any (tells (ValP s.heap) fun z => isP z d) by simp, e1]
    exact q
  · obtain ⟨its, r, pl, _⟩ := I.tuple hq
    obtain ⟨e1, e2⟩ := each r
    refine in_tupleAt (tells (ValP s.heap) fun z => isP z d) pl (fun y hy => e2 y (by simpa using hy)) ⟨.bl _, H, I, rfl, ?_⟩
    rw [show its.toArray.any (tells (ValP s.heap) fun z => isP z d) = its.any (tells (ValP s.heap) fun z => isP z d) by simp, e1]
    exact q
theorem op_notInQP (hu : X.A.units + 64 < cLine) : OpR X (compareOp .NotIn) (rInQP X.K true) := by
  intro pins s σ H x y v u Q I rx ry h
  obtain ⟨fz, t, p, xs, ps, d, rfl, hq, nk, hx, q⟩ := h
  cases ry
  have each {us : List Value} (r : Vals xs us) : us.any (tells (ValP s.heap) fun z => isP z d) = inPs ps d ∧ ∀ y ∈ us, EqAt X.A.in1 s y v (tells (ValP s.heap) (fun z => isP z d) y) := by
    refine ⟨any_tells (R := ValP s.heap) (fun y a b => valP_one) (valsP I nk r), fun y hy => ?_⟩
    obtain ⟨z, hz⟩ := each_get (valsP I nk r) hy
    rw [tells_is hz fun b hb => by rw [valP_one hz hb]]
    obtain ⟨b, k1, k2, rfl, hb⟩ := hz
    exact eq_pair I hx rx (by show X.A.units + 1 + 1 < cLine; omega) hb
  rcases hq with hq | hq
  · obtain ⟨its, r, pl, _⟩ := I.list hq
    obtain ⟨e1, e2⟩ := each r
    refine notIn_listAt (tells (ValP s.heap) fun z => isP z d) pl.isList (fun y hy => e2 y (by simpa using hy)) ⟨.bl _, H, I, rfl, ?_⟩
    rw [show its.toArray.any (tells (ValP s.heap) fun z => isP z d) = its.any (tells (ValP s.heap) fun z => isP z d) by simp, e1]
    exact q
  · obtain ⟨its, r, pl, _⟩ := I.tuple hq
    obtain ⟨e1, e2⟩ := each r
    refine notIn_tupleAt (tells (ValP s.heap) fun z => isP z d) pl (fun y hy => e2 y (by simpa using hy)) ⟨.bl _, H, I, rfl, ?_⟩
    rw [show its.toArray.any (tells (ValP s.heap) fun z => isP z d) = its.any (tells (ValP s.heap) fun z => isP z d) by simp, e1]
    exact q
end
end My

set_option Elab.async false
set_option linter.all false
set_option maxRecDepth 100000
set_option maxHeartbeats 2000000
/-! t == (), t != (): a tuple of any things against the tuple of none. -/
namespace My
open PySem PySem.Spec PyProof.Rows L2 PySem.SeqAt
def rEqTE (K : PySem.W.Frag) (f : Bool → Bool) : R2 := fun x y H Q => ∃ (p q : Addr) (xs : List V), x = .ref p ∧ y = .ref q ∧ SqT K H p xs ∧ SqT K H q [] ∧ Q (.bl (f xs.isEmpty)) H
section
variable {X : Cx}
theorem op_eqTE (hu : X.A.units + 1 < cLine) : OpR X (compareOp .Eq) (rEqTE X.K fun b => b) := by
  intro pins s σ H x y v u Q I rx ry h
  obtain ⟨p, q, xs, rfl, rfl, hp, hq, h⟩ := h
  cases (show v = Value.ref p from rx)
  cases (show u = Value.ref q from ry)
  obtain ⟨us, r1, p1, _⟩ := I.tuple hp
  obtain ⟨ws, r2, p2, _⟩ := I.tuple hq
  cases r2
  have e := RcAt.tuples (A := X.A) (e := fun _ => true) p1 p2 (by omega) (fun j _ h2 => absurd h2 (Nat.not_lt_zero j)) X.prog X.w
  cases r1 with
  | nil => exact e _ _ ⟨.bl true, H, I, rfl, h⟩
  | cons _ _ => exact e _ _ ⟨.bl false, H, I, by simp; rfl, h⟩
theorem op_neTE (hu : X.A.units + 1 < cLine) : OpR X (compareOp .NotEq) (rEqTE X.K fun b => !b) := by
  intro pins s σ H x y v u Q I rx ry h
  obtain ⟨p, q, xs, rfl, rfl, hp, hq, h⟩ := h
  cases (show v = Value.ref p from rx)
  cases (show u = Value.ref q from ry)
  obtain ⟨us, r1, p1, _⟩ := I.tuple hp
  obtain ⟨ws, r2, p2, _⟩ := I.tuple hq
  cases r2
  have e := RcNeAt.tuples (A := X.A) (e := fun _ => true) p1 p2 (by omega) (fun j _ h2 => absurd h2 (Nat.not_lt_zero j)) X.prog X.w
  cases r1 with
  | nil => exact e _ _ ⟨.bl false, H, I, rfl, h⟩
  | cons _ _ => exact e _ _ ⟨.bl true, H, I, by simp; rfl, h⟩
end
end My

set_option Elab.async false
set_option linter.all false
set_option maxRecDepth 100000
set_option maxHeartbeats 2000000
namespace L45
open PySem PySem.Spec PyProof.Rows L2 My
section
variable {P : Program} {w : World} {K : PySem.W.Frag} {mg : Str → Option Value} {base : Heap}
/-- the data of a thing that can be shown, of so much weight, so deep -/
structure Fit (d : PyData) (m n : Nat) : Prop where
  sh : ShQ d
  wt : wt d ≤ m
  dp : d.depth ≤ n
theorem Fit.mono {d : PyData} {m n m' n' : Nat} (h : Fit d m n) (a : m ≤ m') (b : n ≤ n') : Fit d m' n' := ⟨h.sh, Nat.le_trans h.wt a, Nat.le_trans h.dp b⟩
/-- many of them, all within so much weight, so deep -/
structure Fits (ds : List PyData) (m n : Nat) : Prop where
  sh : ShQs ds
  wt : wts ds ≤ m
  dp : PyData.depthAll ds ≤ n
theorem fits_nil {n : Nat} : Fits [] 0 n := ⟨trivial, Nat.le_refl _, by rw [PyData.depthAll]; exact Nat.zero_le _⟩
theorem depths_app : ∀ {ds es : List PyData}, PyData.depthAll (ds ++ es) = max (PyData.depthAll ds) (PyData.depthAll es)
  | [], es => by rw [List.nil_append, show PyData.depthAll [] = 0 by rw [PyData.depthAll]]; omega
  | d :: ds, es => by
    rw [List.cons_append, PyData.depthAll, PyData.depthAll, depths_app (ds := ds)]
    omega
theorem Fits.app {ds es : List PyData} {m k n : Nat} (h : Fits ds m n) (g : Fits es k n) : Fits (ds ++ es) (m + k) n :=
  ⟨shqs_mem.mpr fun d hd => (List.mem_append.mp hd).elim (shqs_mem.mp h.sh d) (shqs_mem.mp g.sh d), by rw [wts_app]; exact Nat.add_le_add h.wt g.wt, by rw [depths_app]; exact Nat.max_le.mpr ⟨h.dp, g.dp⟩⟩
theorem Fits.drop {ds : List PyData} {m n : Nat} (h : Fits ds m n) (i : Nat) : Fits (ds.drop i) m n :=
  ⟨shqs_mem.mpr fun d hd => shqs_mem.mp h.sh d (List.mem_of_mem_drop hd), Nat.le_trans (wts_drop i) h.wt, depths_le fun d hd => Nat.le_trans (depths_mem (List.mem_of_mem_drop hd)) h.dp⟩
theorem Fits.take {ds : List PyData} {m n : Nat} (h : Fits ds m n) (i : Nat) : Fits (ds.take i) m n :=
  ⟨shqs_mem.mpr fun d hd => shqs_mem.mp h.sh d (List.mem_of_mem_take hd), Nat.le_trans (wts_take i) h.wt, depths_le fun d hd => Nat.le_trans (depths_mem (List.mem_of_mem_take hd)) h.dp⟩
theorem Fits.mem {ds : List PyData} {m n : Nat} {d : PyData} (h : Fits ds m n) (hd : d ∈ ds) : Fit d m n :=
  ⟨shqs_mem.mp h.sh d hd, by have := wts_mem hd; have := h.wt; omega, Nat.le_trans (depths_mem hd) h.dp⟩
theorem Fit.one {d : PyData} {m n : Nat} (h : Fit d m n) : Fits [d] (m + 2) n :=
  ⟨⟨h.sh, trivial⟩, by rw [wts, wts]; have := h.wt; omega, by rw [PyData.depthAll, PyData.depthAll]; have := h.dp; omega⟩
theorem Fits.tup {ds : List PyData} {m n : Nat} (h : Fits ds m n) : Fit (.tuple ds) (m + 3) (n + 1) := ⟨h.sh, by rw [My.wt]; have := h.wt; omega, by rw [PyData.depth]; have := h.dp; omega⟩
theorem Fits.lst {ds : List PyData} {m n : Nat} (h : Fits ds m n) : Fit (.list ds) (m + 3) (n + 1) := ⟨h.sh, by rw [My.wt]; have := h.wt; omega, by rw [PyData.depth]; have := h.dp; omega⟩
theorem Fit.items {ds : List PyData} {m n : Nat} (h : Fit (.tuple ds) m n) : ∃ k, m = k + 3 ∧ Fits ds k (n - 1) ∧ 1 ≤ n := by
  have a := h.wt
  have b := h.dp
  rw [My.wt] at a
  rw [PyData.depth] at b
  exact ⟨m - 3, by omega, ⟨h.sh, by omega, by omega⟩, by omega⟩
theorem Fits.mono {ds : List PyData} {m n m' n' : Nat} (h : Fits ds m n) (a : m ≤ m') (b : n ≤ n') : Fits ds m' n' := ⟨h.sh, Nat.le_trans h.wt a, Nat.le_trans h.dp b⟩
theorem mem_set_of {α : Type} {x y : α} : ∀ {l : List α} {i : Nat}, x ∈ l.set i y → x ∈ l ∨ x = y
  | [], _, h => by cases h
  | a :: l, 0, h => (List.mem_cons.mp h).elim .inr fun h => .inl (.tail _ h)
  | a :: l, i + 1, h => (List.mem_cons.mp h).elim (fun e => .inl (e ▸ .head _)) fun h => (mem_set_of (i := i) h).elim (fun h => .inl (.tail _ h)) .inr
theorem wts_set {d : PyData} : ∀ {ds : List PyData} {i : Nat}, wts (ds.set i d) ≤ wts ds + wt d + 2
  | [], _ => by rw [List.set_nil, wts]; omega
  | x :: ds, 0 => by rw [List.set_cons_zero, wts, wts]; omega
  | x :: ds, i + 1 => by
    rw [List.set_cons_succ, wts, wts]
    have := wts_set (d := d) (ds := ds) (i := i)
    omega
theorem Fits.set {ds : List PyData} {d : PyData} {m k n i : Nat} (h : Fits ds m n) (g : Fit d k n) : Fits (ds.set i d) (m + k + 2) n :=
  ⟨shqs_mem.mpr fun e he => (mem_set_of he).elim (shqs_mem.mp h.sh e) fun z => z ▸ g.sh, Nat.le_trans wts_set (by have := h.wt; have := g.wt; omega), depths_le fun e he => (mem_set_of he).elim (fun z => Nat.le_trans (depths_mem z) h.dp) fun z => z ▸ g.dp⟩
theorem dqs_set {fz : Bool} {t : Addr} {H : Hp} {v : V} {d : PyData} (g : Dq fz t H v d) : ∀ {ds : List PyData} {vs : List V} (i : Nat), DqAll fz t H vs ds → DqAll fz t H (vs.set i v) (ds.set i d)
  | _, _, _, .nil => by rw [List.set_nil, List.set_nil]; exact .nil
  | _, _, 0, .cons a h => .cons g h
  | _, _, i + 1, .cons a h => .cons a (dqs_set g i h)
theorem wts_perm {ds es : List PyData} (h : ds.Perm es) : wts ds = wts es := by
  induction h with
  | nil => rfl
  | cons x _ ih => rw [wts, wts, ih]
  | swap x y l => rw [wts, wts, wts, wts]; omega
  | trans _ _ a b => exact a.trans b
/-- what an address holds; a tuple of a known object too, where fz says so -/
def RdQ (fz : Bool) (H : Hp) (a : Addr) (o : HO) : Prop := H a = some o ∨ (fz = true ∧ ∃ ob, H a = some (.frz ob o))
theorem RdQ.rd {fz : Bool} {H : Hp} {a : Addr} {o : HO} (h : RdQ fz H a o) : Rd H a o := h.elim .inl fun ⟨_, e⟩ => .inr e
theorem rd_same {fz : Bool} {H H' : Hp} {a : Addr} {o : HO} (h : RdQ fz H a o) (s : Same H H') : RdQ fz H' a o := h.elim (fun e => .inl (s _ _ e)) fun ⟨f, ob, e⟩ => .inr ⟨f, ob, s _ _ e⟩
theorem rd_kp {fz : Bool} {H H' : Hp} {t a : Addr} {o : HO} (h : RdQ fz H a o) (n : a ≠ t) (s : Kp t H H') : RdQ fz H' a o := h.elim (fun e => .inl (s _ _ n e)) fun ⟨f, ob, e⟩ => .inr ⟨f, ob, s _ _ n e⟩
theorem dq_rd {fz : Bool} {t a : Addr} {H : Hp} {xs : List V} {ds : List PyData} (n : a ≠ t) (h : RdQ fz H a (.tup xs)) (q : DqAll fz t H xs ds) : Dq fz t H (.ref a) (.tuple ds) := h.elim (fun e => .tup n e q) fun ⟨f, _, e⟩ => .frz f n e q
theorem dq_tuple_at {fz : Bool} {t : Addr} {H : Hp} {v : V} {ds : List PyData} (h : Dq fz t H v (.tuple ds)) : ∃ a xs, v = .ref a ∧ a ≠ t ∧ RdQ fz H a (.tup xs) ∧ DqAll fz t H xs ds := by
  cases h with
  | tup n e q => exact ⟨_, _, rfl, n, .inl e, q⟩
  | frz f n e q => exact ⟨_, _, rfl, n, .inr ⟨f, _, e⟩, q⟩
theorem kind_tuple {d : PyData} (h : kindQ "tuple" d = true) : ∃ ds, d = .tuple ds := by
  cases d with
  | tuple ds => exact ⟨ds, rfl⟩
  | none => cases h
  | bool b => simp [kindQ] at h
  | int i => simp [kindQ] at h
  | str x => simp [kindQ] at h
  | list x => simp [kindQ] at h
  | dict x => simp [kindQ] at h
theorem ixN_of {n i : Nat} (h : i < n) : ixN n (i : Int) = some i := by
  unfold ixN
  rw [if_pos (by omega), if_pos (by omega)]
  rfl
theorem wts_cut {ds : List PyData} {d : PyData} {i : Nat} (h : ds[i]? = some d) : wts (ds.take i) + (wt d + 2) + wts (ds.drop (i + 1)) = wts ds := by
  have l := (List.getElem?_eq_some_iff.mp h).1
  have e : ds = ds.take i ++ d :: ds.drop (i + 1) := by
    rw [← (List.getElem?_eq_some_iff.mp h).2, ← List.drop_eq_getElem_cons l, List.take_append_drop]
  have e2 := congrArg wts e
  rw [wts_app, wts] at e2
  omega
/-- t[lo:hi] of things -/
theorem sl_things {fz : Bool} {t a : Addr} {H : Hp} {xs : List V} {ds : List PyData} {lo hi : Option Int} {m n : Nat} {Q : VK} (h : RdQ fz H a (.tup xs)) (at_ : a ≠ t) (Ht : ∃ ys, H t = some (.lst ys)) (dq : DqAll fz t H xs ds) (f : Fits ds m n)
    (k : ∀ u us es H', Same H H' → u ≠ t → RdQ fz H' u (.tup us) → DqAll fz t H' us es → Fits es m n → es = (ds.drop (HT.sIx ds.length 0 lo)).take (HT.sIx ds.length ds.length hi - HT.sIx ds.length 0 lo) → Q (.ref u) H') : rSlA K (.ref a) lo hi H Q := by
  have le := dq.length
  refine ⟨a, xs, rfl, .inl h.rd, fun e => k a xs ds H (fun _ _ e => e) at_ h dq f ?_, fun _ p np => ?_⟩
  · rw [le] at e
    rw [e.1, e.2, List.drop_zero, Nat.sub_zero, List.take_of_length_le (Nat.le_refl _)]
  · obtain ⟨ys, hy⟩ := Ht
    have s := same_upd (o := .tup (cutV xs lo hi)) np
    have cut : ∀ H', Same H H' → DqAll fz t H' (cutV xs lo hi) ((ds.drop (HT.sIx ds.length 0 lo)).take (HT.sIx ds.length ds.length hi - HT.sIx ds.length 0 lo)) := fun H' s' => by
      unfold cutV
      rw [le]
      exact ((dq.drop _).take _).same s'
    exact k p _ _ _ s (fun z => by rw [z, hy] at np; cases np) (.inl upd_same) (cut _ s) ((f.drop _).take _) rfl
/-- two tuples of things put together -/
theorem cat_things {fz : Bool} {t a b : Addr} {H : Hp} {xs ys : List V} {ds es : List PyData} {m k n : Nat} {Q : V → Hp → Prop} (h1 : RdQ fz H a (.tup xs)) (h2 : RdQ fz H b (.tup ys)) (a1 : a ≠ t) (b1 : b ≠ t) (Ht : ∃ ys, H t = some (.lst ys)) (d1 : DqAll fz t H xs ds) (d2 : DqAll fz t H ys es) (f1 : Fits ds m n) (f2 : Fits es k n) (l : m + k ≤ 4000000)
    (q : ∀ u us H', Same H H' → u ≠ t → RdQ fz H' u (.tup us) → DqAll fz t H' us (ds ++ es) → Fits (ds ++ es) (m + k) n → Q (.ref u) H') : rCatA K (.ref a) (.ref b) H Q := by
  have l1 : xs.length ≤ m := by rw [d1.length]; exact Nat.le_trans wts_len f1.wt
  have l2 : ys.length ≤ k := by rw [d2.length]; exact Nat.le_trans wts_len f2.wt
  refine ⟨a, b, xs, ys, rfl, rfl, .inl h1.rd, .inl h2.rd, Nat.le_trans (show _ ≤ 4000000 by omega) (by decide), fun e => ?_, fun _ e => ?_, fun _ _ p np => ?_⟩
  · subst e
    have e : ds = [] := List.length_eq_zero_iff.mp (by rw [← d1.length]; rfl)
    subst e
    exact q b ys H (fun _ _ e => e) b1 h2 d2 (f1.app f2)
  · subst e
    have e : es = [] := List.length_eq_zero_iff.mp (by rw [← d2.length]; rfl)
    subst e
    have fa := f1.app f2
    rw [List.append_nil] at q fa
    exact q a xs H (fun _ _ e => e) a1 h1 d1 fa
  · obtain ⟨zs, hz⟩ := Ht
    have s := same_upd (o := .tup (xs ++ ys)) np
    exact q p _ _ s (fun z => by rw [z, hz] at np; cases np) (.inl upd_same) ((d1.app d2).same s) (f1.app f2)
mutual
/-- a tuple has at most l items, so has each within -/
def Wid (l : Nat) : PyData → Prop
  | .tuple xs => xs.length ≤ l ∧ Wids l xs
  | .list xs => Wids l xs
  | _ => True
def Wids (l : Nat) : List PyData → Prop
  | [] => True
  | x :: xs => Wid l x ∧ Wids l xs
end
theorem wids_mem {l : Nat} : ∀ {ds : List PyData}, Wids l ds ↔ ∀ d ∈ ds, Wid l d
  | [] => ⟨fun _ d h => (by cases h), fun _ => trivial⟩
  | x :: xs => by
    rw [Wids, wids_mem (ds := xs)]
    exact ⟨fun h d hd => (List.mem_cons.mp hd).elim (fun e => by rw [e]; exact h.1) (h.2 d), fun h => ⟨h x (.head _), fun d hd => h d (.tail _ hd)⟩⟩
mutual
theorem Wid.mono {l m : Nat} (le : l ≤ m) : ∀ {d : PyData}, Wid l d → Wid m d
  | .tuple xs, h => by
    rw [Wid] at h ⊢
    exact ⟨Nat.le_trans h.1 le, Wids.mono le h.2⟩
  | .list xs, h => by
    rw [Wid] at h ⊢
    exact Wids.mono le h
  | .none, _ => by rw [Wid]; exact trivial; all_goals exact fun _ z => by cases z
  | .bool _, _ => by rw [Wid]; exact trivial; all_goals exact fun _ z => by cases z
  | .int _, _ => by rw [Wid]; exact trivial; all_goals exact fun _ z => by cases z
  | .str _, _ => by rw [Wid]; exact trivial; all_goals exact fun _ z => by cases z
  | .dict _, _ => by rw [Wid]; exact trivial; all_goals exact fun _ z => by cases z
theorem Wids.mono {l m : Nat} (le : l ≤ m) : ∀ {ds : List PyData}, Wids l ds → Wids m ds
  | [], _ => trivial
  | _ :: _, h => ⟨Wid.mono le h.1, Wids.mono le h.2⟩
end
theorem wid_tup {ds : List PyData} {l : Nat} (h : ds.length ≤ l) (a : ∀ d ∈ ds, Wid l d) : Wid l (.tuple ds) := by
  rw [Wid]
  exact ⟨h, wids_mem.mpr a⟩
theorem wid_lst {ds : List PyData} {l : Nat} (a : ∀ d ∈ ds, Wid l d) : Wid l (.list ds) := by
  rw [Wid]
  exact wids_mem.mpr a
theorem Wid.items {ds : List PyData} {l : Nat} (h : Wid l (.tuple ds)) : ds.length ≤ l ∧ ∀ d ∈ ds, Wid l d := by
  rw [Wid] at h
  exact ⟨h.1, wids_mem.mp h.2⟩
theorem mem_cut {e : PyData} {es ds : List PyData} {a b : Nat} (eu : es = (ds.drop a).take b) (he : e ∈ es) : e ∈ ds := by
  rw [eu] at he
  exact List.mem_of_mem_drop (List.mem_of_mem_take he)
theorem feed_lst {H : Hp} {t c : Addr} {n : Nat} (h : FeedC H t c n) : ∃ ys, H t = some (.lst ys) := by
  obtain ⟨ns, sp, re, ca, e, _⟩ := h
  exact ⟨_, e⟩
theorem at_last {xs : List V} {v : V} {i : Nat} (h : xs[i]? = some v) (e : i + 1 = xs.length) : atI xs (-1) = some v := by
  have : xs = xs.take i ++ [v] := by
    have := List.take_add_one (l := xs) (i := i)
    rw [h, e, List.take_of_length_le (Nat.le_refl _)] at this
    exact this
  rw [this]
  exact atI_last _ _
theorem say_at {H : Hp} : ∀ {ws : List V} {wp : List (Str × Str)} {i : Nat} {p : Str × Str}, NkAll H ws (wp.map sayK) → wp[i]? = some p → ∃ y, ws[i]? = some (.ref y) ∧ H y = some (.tup [.str p.1, .str p.2])
  | [], [], _, _, _, h => by cases h
  | x :: ws, q :: wp, 0, p, h, e => by
    cases h with
    | cons n h =>
      have e : q = p := Option.some.inj e
      subst e
      obtain ⟨y, rfl, hy⟩ := say_nk n
      exact ⟨y, rfl, hy⟩
  | x :: ws, q :: wp, i + 1, p, h, e => by
    cases h with
    | cons n h =>
      obtain ⟨y, a, b⟩ := say_at h (show wp[i]? = some p from e)
      exact ⟨y, a, b⟩
theorem idx_ne {y z : Str} (l : List Str) (e : y ≠ z) : (y :: l).idxOf z = l.idxOf z + 1 := by
  rw [List.idxOf_cons]
  have : (y == z) = false := by simpa using e
  rw [this]
  rfl
theorem ix_first {z : Str} : ∀ {l : List Str}, z ∈ l → l[l.idxOf z]? = some z ∧ ∀ m : Nat, m < l.idxOf z → l[m]? ≠ some z
  | y :: l, h => by
    by_cases e : y = z
    · subst e
      rw [List.idxOf_cons_self]
      exact ⟨rfl, fun m hm => by omega⟩
    · have hx := (List.mem_cons.mp h).resolve_left fun q => e q.symm
      obtain ⟨a, b⟩ := ix_first hx
      rw [idx_ne l e]
      refine ⟨a, fun m hm => ?_⟩
      cases m with
      | zero => exact fun q => e (Option.some.inj q)
      | succ m => exact b m (by omega)
end
end L45

set_option Elab.async false
set_option linter.all false
set_option maxRecDepth 100000
set_option maxHeartbeats 2000000
namespace L45
open PySem PySem.Spec PyProof.Rows L2 My
section
variable {P : Program} {w : World} {K : PySem.W.Frag} {mg : Str → Option Value} {base : Heap}
/-- the data of a saying -/
def sayD (p : Str × Str) : PyData := .tuple [.str p.1, .str p.2]
theorem in_text {zs : List Str} {d : PyData} (h : inT zs d = true) : ∃ z ∈ zs, d = .str z := by
  obtain ⟨z, hz, e⟩ := List.any_eq_true.mp h
  cases d with
  | str y => exact ⟨z, hz, by rw [eq_of_beq (show (z == y) = true from e)]⟩
  | none => cases e
  | bool b => cases e
  | int i => cases e
  | tuple l => cases e
  | list l => cases e
  | dict l => cases e
theorem in_of {zs : List Str} {z : Str} (h : z ∈ zs) : inT zs (.str z) = true := List.any_eq_true.mpr ⟨z, h, beq_self_eq_true z⟩
theorem dqs_pair {fz : Bool} {t : Addr} {H : Hp} {xs : List V} {ds : List PyData} (h : DqAll fz t H xs ds) (n : xs.length = 2) : ∃ x y d e, xs = [x, y] ∧ ds = [d, e] ∧ Dq fz t H x d ∧ Dq fz t H y e := by
  cases h with
  | nil => cases n
  | cons h1 h =>
    cases h with
    | nil => cases n
    | cons h2 h =>
      cases h with
      | nil => exact ⟨_, _, _, _, rfl, rfl, h1, h2⟩
      | cons _ _ => simp at n
theorem sayD_inj {p q : Str × Str} (e : sayD p = sayD q) : p = q := by
  unfold sayD at e
  injection e with e
  injection e with e1 e2
  injection e1 with e1
  injection e2 with e2 e3
  injection e2 with e2
  exact Prod.ext e1 e2
theorem sayDs_inj : ∀ {ps qs : List (Str × Str)}, ps.map sayD = qs.map sayD → ps = qs
  | [], [], _ => rfl
  | [], _ :: _, e => by cases e
  | _ :: _, [], e => by cases e
  | p :: ps, q :: qs, e => by
    rw [List.map_cons, List.map_cons] at e
    injection e with e1 e2
    rw [sayD_inj e1, sayDs_inj e2]
theorem dq_say {t : Addr} {H : Hp} {v : V} {p : Str × Str} (h : Dq false t H v (sayD p)) : Nk H v (sayK p) := by
  unfold sayD at h
  cases h with
  | tup n e q =>
    cases q with
    | cons q1 q =>
      cases q with
      | cons q2 q =>
        cases q
        cases q1
        cases q2
        exact nk_say e
  | frz f _ _ _ => cases f
theorem dqs_of_says {t : Addr} {H : Hp} : ∀ {ps : List (Str × Str)} {vs : List V}, DqAll false t H vs (ps.map sayD) → ∃ es : List Ent, vs = es.map (fun p => V.ref p.1) ∧ es.map (·.2) = ps.map sayK
  | [], _, .nil => ⟨[], rfl, rfl⟩
  | p :: ps, _, .cons a h => by
    obtain ⟨es, rfl, e⟩ := dqs_of_says h
    obtain ⟨q, rfl, _⟩ := say_nk (dq_say a)
    exact ⟨(q, sayK p) :: es, rfl, by rw [List.map_cons, List.map_cons, e]⟩
theorem dqs_say {t : Addr} {H : Hp} : ∀ {ps : List (Str × Str)} {vs : List V}, DqAll false t H vs (ps.map sayD) → NkAll H vs (ps.map sayK)
  | [], _, .nil => .nil
  | _ :: _, _, .cons a h => .cons (dq_say a) (dqs_say h)
theorem fit_text {z : Str} {n : Nat} (l : z.length ≤ n) (h : ∀ c ∈ z.cps.toList, c < 128) : Fit (.str z) (10 * n + 4) 0 :=
  ⟨fun c hc => Nat.lt_of_lt_of_le (h c hc) (by decide), by rw [My.wt]; omega, by rw [PyData.depth]; exact Nat.le_refl _⟩
theorem fit_name {z : Str} (h : Nm z) : Fit (.str z) 84 0 := fit_text h.2.1 h.plain.2
theorem Fits.cons {d : PyData} {ds : List PyData} {a b n : Nat} (h : Fit d a n) (t : Fits ds b n) : Fits (d :: ds) (a + 2 + b) n := Fits.app h.one t
theorem Fit.cons {d : PyData} {ds : List PyData} {a b n : Nat} (h : Fit d a n) (t : Fits ds b n) : Fits (d :: ds) (a + 2 + b) n := Fits.app h.one t
theorem fits_names : ∀ {zs : List Str} {n : Nat}, (∀ z ∈ zs, Nm z) → Fits (zs.map PyData.str) (86 * zs.length) n
  | [], n, _ => fits_nil
  | z :: zs, n, h => by
    have := Fits.cons ((fit_name (h z (.head _))).mono (Nat.le_refl _) (Nat.zero_le n)) (fits_names (n := n) fun y hy => h y (.tail _ hy))
    exact this.mono (by rw [List.length_cons]; omega) (Nat.le_refl _)
theorem fit_say {p : Str × Str} (a : Nm p.1) (b : Nm p.2) : Fit (sayD p) 175 1 := by
  have := (Fits.cons (fit_name a) (Fits.cons (fit_name b) fits_nil)).tup
  exact this.mono (by omega) (by omega)
theorem fits_says : ∀ {ps : List (Str × Str)}, (∀ p ∈ ps, Nm p.1 ∧ Nm p.2) → Fits (ps.map sayD) (177 * ps.length) 1
  | [], _ => fits_nil
  | p :: ps, h => by
    have := Fits.cons (fit_say (h p (.head _)).1 (h p (.head _)).2) (fits_says fun y hy => h y (.tail _ hy))
    exact this.mono (by rw [List.length_cons]; omega) (Nat.le_refl _)
def tri : Nat → Nat
  | 0 => 0
  | k + 1 => tri k + (8 - k)
theorem fal_len {zs : List Str} (l9 : zs.length ≤ 9) : ∀ k, k ≤ zs.length → (alongK zs k).length ≤ tri k
  | 0, _ => Nat.le_refl _
  | k + 1, h => by
    have ih := fal_len l9 k (by omega)
    rw [along_next (List.getElem?_eq_getElem (show k < zs.length by omega)), List.length_append, List.length_map, List.length_drop, tri]
    omega
theorem tri_36 {n : Nat} (h : n ≤ 9) : tri n ≤ 36 := by
  have : n = 0 ∨ n = 1 ∨ n = 2 ∨ n = 3 ∨ n = 4 ∨ n = 5 ∨ n = 6 ∨ n = 7 ∨ n = 8 ∨ n = 9 := by omega
  rcases this with rfl | rfl | rfl | rfl | rfl | rfl | rfl | rfl | rfl | rfl <;> decide
theorem fal_36 {zs : List Str} (l9 : zs.length ≤ 9) : (alongK zs zs.length).length ≤ 36 := Nat.le_trans (fal_len l9 zs.length (Nat.le_refl _)) (tri_36 l9)
theorem feed_tup {H : Hp} {t c a : Addr} {n : Nat} {xs : List V} (h : FeedC H t c n) (e : H a = some (.tup xs)) : a ≠ t := fun z => by
  obtain ⟨ys, y⟩ := feed_lst h
  rw [z, y] at e
  cases e
theorem nk_dqs {H : Hp} {t : Addr} (ht : ∃ ys, H t = some (.lst ys)) : ∀ {ps : List (Str × Str)} {vs : List V}, NkAll H vs (ps.map sayK) → DqAll false t H vs (ps.map sayD)
  | [], _, .nil => .nil
  | p :: ps, _, .cons a h => by
    obtain ⟨q, rfl, hq⟩ := say_nk a
    refine .cons (.tup (fun z => ?_) hq (.cons (.str _) (.cons (.str _) .nil))) (nk_dqs ht h)
    obtain ⟨ys, y⟩ := ht
    rw [z, y] at hq
    cases hq
end
end L45

set_option Elab.async false
set_option linter.all false
set_option maxRecDepth 100000
set_option maxHeartbeats 2000000
namespace L45
open PySem PySem.Spec PyProof.Rows L2 My
section
variable {P : Program} {w : World} {K : PySem.W.Frag} {mg : Str → Option Value} {base : Heap}
theorem along_some {zs : List Str} (h : 2 ≤ zs.length) : 1 ≤ (alongK zs zs.length).length := by
  refine List.length_pos_of_mem (a := (zs[0], zs[1])) ?_
  unfold alongK
  refine List.mem_flatMap.mpr ⟨0, List.mem_range.mpr (by omega), ?_⟩
  rw [List.getElem?_eq_getElem (by omega)]
  refine List.mem_map.mpr ⟨zs[1], ?_, rfl⟩
  refine List.mem_iff_getElem?.mpr ⟨0, ?_⟩
  rw [List.getElem?_drop, List.getElem?_eq_getElem (by omega)]
theorem feed_list {H : Hp} {t c : Addr} {n : Nat} (h : FeedC H t c n) : ∃ ys, H t = some (.lst ys) := by
  obtain ⟨ns, sp, re, ca, e, _⟩ := h
  exact ⟨_, e⟩
def spKnot : Sp := fun vs H Q _ => ∃ (t c : Addr) (n : Nat), vs = [.ref t] ∧ FeedC H t c n ∧ n < 700000 ∧
  ∀ (r nA s : Addr) (so : Obj) (ys : List V) (ps : List (Str × Str)) (zs : List Str) (H' : Hp), H' r = some (.tup [.ref nA, .ref s]) → H' nA = some (.tup (zs.map V.str)) → H' s = some (.frz so (.tup ys)) → TD so → H s = none → NkAll H' ys (ps.map sayK) → Rs (ps.map sayK) → ps.length ≤ 12 → zs.length ≤ 9 → zs.Nodup → (∀ x ∈ ps, InP zs x) → (∀ z ∈ zs, Nm z) → FeedC H' t c (n + 100) → Kp t H H' → Q (.ref r) H'
theorem ok_knot (T : Tx K mg) : FnOk P w K mg base CX0 4 T.f_w_knotted T.d_w_knotted ["_law_feed_here"] (spKnot) := by
  have G_w_draw : FnOk P w K mg base CX0 1 T.f_w_draw T.d_w_draw ["_law_feed_here", "_law_many"] (spDraw) := ok_draw T
  have G_w_names : FnOk P w K mg base CX0 2 T.f_w_names T.d_w_names ["_law_feed_here", "_law_many"] (spFNm) := ok_fnm T
  have G_w_turned : FnOk P w K mg base CX0 2 T.f_w_turned T.d_w_turned ["_law_feed_here", "_law_names_here"] (spTurned) := ok_turned T
  have G_w_along : FnOk P w K mg base CX0 1 T.f_w_along T.d_w_along ["_law_order"] (spAlong) := ok_along T
  have G_w_sayings : FnOk P w K mg base CX0 3 T.f_w_sayings T.d_w_sayings ["_law_feed_here", "_law_names_here", "_law_most"] (spSays) := ok_says T
  refine T.F_w_knotted.ok S_w_knotted (fun vs H Q E h => ?_) (fun cdv A outer s H vs Q E hr h => ?_)
  · obtain ⟨t, c, n, rfl, _⟩ := h
    rfl
  · obtain ⟨t, c, n, rfl, hT, hn, q⟩ := h
    refine ⟨_, (pss_cons (ps_set (i := 1) S_w_knotted.nd rfl (.inl rfl) (pe_call G_w_draw (hr.mono (by decide)) (by rfl) T.g_w_draw T.F_w_draw.kp T.b_w_draw .nil pass0 (pa_cons (pv 0) (pa_cons pe_int pa_nil))))
      (pss_cons (ps_if (pt_cmpR op_gt (pv 1) pe_int (nomark _)) (pss_cons (ps_set (i := 2) S_w_knotted.nd rfl (.inl rfl) (pe_call G_w_names (hr.mono (by decide)) (by rfl) T.g_w_names T.F_w_names.kp T.b_w_names .nil pass0 (pa_cons (pv 0) (pa_cons (pe_ix ix_list (pe_lst (pa_cons pe_int (pa_cons pe_int (pa_cons pe_int (pa_cons pe_int (pa_cons pe_int (pa_cons pe_int (pa_cons pe_int (pa_cons pe_int pa_nil))))))))) (pe_call G_w_draw (hr.mono (by decide)) (by rfl) T.g_w_draw T.F_w_draw.kp T.b_w_draw .nil pass0 (pa_cons (pv 0) (pa_cons pe_int pa_nil))) (fun _ _ => rfl)) pa_nil))))
      (pss_one (ps_ret (pe_tup (pa_cons (pv 2) (pa_cons (pe_call G_w_sayings hr (by rfl) T.g_w_sayings T.F_w_sayings.kp T.b_w_sayings .nil pass0 (pa_cons (pv 0) (pa_cons (pv 2) (pa_cons pe_int pa_nil)))) pa_nil)))))) pss_nil)
      (pss_cons (ps_set (i := 2) S_w_knotted.nd rfl (.inl rfl) (pe_call G_w_names (hr.mono (by decide)) (by rfl) T.g_w_names T.F_w_names.kp T.b_w_names .nil pass0 (pa_cons (pv 0) (pa_cons pe_int pa_nil))))
      (pss_cons (ps_set (i := 3) S_w_knotted.nd rfl (.inl rfl) (pe_call G_w_turned (hr.mono (by decide)) (by rfl) T.g_w_turned T.F_w_turned.kp T.b_w_turned .nil pass0 (pa_cons (pv 0) (pa_cons (pv 2) pa_nil))))
      (pss_cons (ps_set (i := 4) S_w_knotted.nd rfl (.inl rfl) (pe_lst pa_nil))
      (pss_cons (ps_for PassesOwn.never rfl (pi_range1 (by rfl) T.m_range (pa_cons (pe_op op_add pe_int (pe_call G_w_draw (hr.mono (by decide)) (by rfl) T.g_w_draw T.F_w_draw.kp T.b_w_draw .nil pass0 (pa_cons (pv 0) (pa_cons pe_int pa_nil)))) pa_nil)) (pg_name (i := 5) S_w_knotted.nd rfl (.inl rfl))
      (pss_one (ps_set (i := 4) S_w_knotted.nd rfl (.inl rfl) (pe_op op_cat (pv 4) (pe_lst (pa_cons (pe_tup (pa_cons (pe_ix ix_list (pv 3) (pe_op op_mul pe_int (pv 5)) (fun _ _ => rfl)) (pa_cons (pe_ix ix_list (pv 3) (pe_op op_add (pe_op op_mul pe_int (pv 5)) pe_int) (fun _ _ => rfl)) pa_nil))) (pa_cons (pe_tup (pa_cons (pe_ix ix_list (pv 3) (pe_op op_add (pe_op op_mul pe_int (pv 5)) pe_int) (fun _ _ => rfl)) (pa_cons (pe_ix ix_list (pv 3) (pe_op op_mul pe_int (pv 5)) (fun _ _ => rfl)) pa_nil))) pa_nil)))))))
      (pss_cons (ps_set (i := 6) S_w_knotted.nd rfl (.inr rfl) (pe_call G_w_along (hr.mono (by decide)) (by rfl) T.g_w_along T.F_w_along.kp T.b_w_along .nil pass0 (pa_cons (pv 3) pa_nil)))
      (pss_cons (ps_set (i := 4) S_w_knotted.nd rfl (.inl rfl) (pe_op op_cat (pv 4) (pe_lc (own := [("_law_k", 5)]) (g := gName 5) (tt := tYes) (by rfl) S_w_knotted.nd (pi_range1 (by rfl) T.m_range (pa_cons (pe_call G_w_draw (hr.mono (by decide)) (by rfl) T.g_w_draw T.F_w_draw.kp T.b_w_draw .nil pass0 (pa_cons (pv 0) (pa_cons pe_int pa_nil))) pa_nil)) (blkOk_by (own := [("_law_k", 5)]) (N := N_w_knotted) (sc := defScope s_w_knotted) (by decide +kernel)) (fun _ _ _ _ _ => (pg_name (i := 5) S_w_knotted.nd rfl (.inl rfl))) (fun _ _ _ _ _ => pts_nil) (fun _ _ _ _ _ => (pe_ix (r := rIxL K) ix_list (pv 6) (pe_call G_w_draw (hr.mono (by decide)) (by rfl) T.g_w_draw T.F_w_draw.kp T.b_w_draw .nil pass0 (pa_cons (pv 0) (pa_cons (pe_callB (r := rLenK K) call_lenK (by rfl) T.m_len PySem.boot_len (pa_cons (pv 6) pa_nil)) pa_nil))) (fun _ _ => rfl))))))
      (pss_one (ps_ret (pe_tup (pa_cons (pv 2) (pa_cons (pe_callTy call_tupleD (by rfl) T.m_tuple (by decide +kernel) (pa_cons (pe_callB (cr_sortS (by rfl) (un64 hr)) (by rfl) T.m_sorted (by decide +kernel) (pa_cons (pe_callTy (cr_setN (by rfl) (un64 hr)) (by rfl) T.m_set (by decide +kernel) (pa_cons (pv 4) pa_nil)) pa_nil)) pa_nil)) pa_nil))))))))))))), ?_⟩
    refine ⟨_, rfl, t, 6, n, c, rfl, by decide, by decide, hT, by omega, fun wy H1 w0 w1 hT1 hK1 => ?_⟩
    refine ⟨_, rfl, _, _, rfl, rfl, _, rfl, ite2 (fun _ => ?_) (fun _ => ?_)⟩
    · refine ⟨_, rfl, sz (by show 8 ≤ 1000; decide), fun p2 n2 => ?_⟩
      refine fresh_fin (.lst [V.int 4, V.int 3, V.int 5, V.int 2, V.int 6, V.int 9, V.int 4, V.int 0]) n2 fun H2 s2 h2 => ?_
      refine ⟨_, rfl, t, 8, n + 1, c, rfl, by decide, by decide, hT1.same s2, by omega, fun u H3 u0 u1 hT3 hK3 => ?_⟩
      have hp2 := hK3 _ _ (hT1.ne n2).1 h2
      have man : ∃ m : Nat, atI [V.int 4, .int 3, .int 5, .int 2, .int 6, .int 9, .int 4, .int 0] u = some (.int m) ∧ m ≤ 9 := by
        have h8 : u = 0 ∨ u = 1 ∨ u = 2 ∨ u = 3 ∨ u = 4 ∨ u = 5 ∨ u = 6 ∨ u = 7 := by omega
        rcases h8 with rfl | rfl | rfl | rfl | rfl | rfl | rfl | rfl
        · exact ⟨4, rfl, by decide⟩
        · exact ⟨3, rfl, by decide⟩
        · exact ⟨5, rfl, by decide⟩
        · exact ⟨2, rfl, by decide⟩
        · exact ⟨6, rfl, by decide⟩
        · exact ⟨9, rfl, by decide⟩
        · exact ⟨4, rfl, by decide⟩
        · exact ⟨0, rfl, by decide⟩
      obtain ⟨m, hm, m9⟩ := man
      have k3 : Kp t H H3 := (hK1.trans (.of_same s2)).trans hK3
      refine ⟨p2, _, u, .int m, rfl, rfl, .inl (.inl hp2), hm, t, c, m, n + 2, rfl, m9, hT3, by omega, fun nA zs H4 hN lz nm nd so hT4 hK4 fN => ?_⟩
      refine ⟨_, rfl, _, rfl, _, rfl, t, c, nA, zs, 10, n + 2 + 8 + m, rfl, hN, by omega, nd, by omega, hT4, by omega, fun bA bo ys ps H5 hb tdb nb4 nk rs inp lp hT5 hK5 => ?_⟩
      have hN5 := tups_kp hT4 hK5 _ _ hN
      refine ⟨sz (by show 2 ≤ 1000; decide), fun r nr => ?_⟩
      refine fresh_fin (.tup [V.ref nA, V.ref bA]) nr fun H6 s6 h6 => ?_
      exact q r nA bA bo ys ps zs H6 h6 (s6 _ _ hN5) (s6 _ _ hb) tdb (kp_noneA (k3.trans hK4) (fun z => by obtain ⟨zl, hzl⟩ := feed_list hT5; rw [z, hzl] at hb; cases hb) nb4) (nk.at (.same s6)) rs (by omega) (by omega) nd inp nm ((hT5.same s6).mono (by omega)) ((k3.trans hK4).trans (hK5.trans (.of_same s6)))
    · refine ⟨_, rfl, t, c, 9, n + 1, rfl, by decide, hT1, by omega, fun nA zs H4 hN lz nm nd so hT4 hK4 fN => ?_⟩
      refine ⟨_, rfl, _, rfl, t, c, nA, zs, n + 1 + 8 + 9, rfl, hN, by omega, hT4, by omega, fun D ds H5 nD hD pm hT5 hK5 => ?_⟩
      have hN5 := tups_kp hT4 hK5 _ _ hN
      have lds : ds.length = 9 := pm.length_eq.trans lz
      have ndd : ds.Nodup := pm.nodup_iff.mpr nd
      have Dt := (hT4.ne nD).1
      have k5 : Kp t H H5 := hK1.trans (hK4.trans hK5)
      refine ⟨sz (by show 0 ≤ 1000; decide), fun S nS => ?_⟩
      refine fresh_fin (.lst []) nS fun H6 s6 h6 => ?_
      have hT6 := hT5.same s6
      have St := (hT5.ne nS).1
      refine ⟨_, rfl, t, 4, n + 1 + 8 + 9 + zs.length, c, rfl, by decide, by decide, hT6, by omega, fun v H7 v0 v1 hT7 hK7 => ?_⟩
      have h7 := hK7 _ _ St h6
      have hD7 := hK7 _ _ Dt (s6 _ _ hD)
      have hN7 := hK7 _ _ (feed_tup hT6 (s6 _ _ hN5)) (s6 _ _ hN5)
      have k7 : Kp t H H7 := k5.trans ((Kp.of_same s6).trans hK7)
      obtain ⟨mm, emm, lm1, lm2⟩ : ∃ mm : Nat, 1 + v = (mm : Int) ∧ 1 ≤ mm ∧ mm ≤ 4 := ⟨(1 + v).toNat, by omega, by omega, by omega⟩
      have fS := kp_none k5 nS St
      have nk0 : NkAll H7 [] (([] : List (Str × Str)).map sayK) := .nil
      clear hK7 hT6 s6 h6 hD hN5 hT5 k5 hK5 hK4 hT4 hN hK1 hT1 nD
      refine ⟨_, _, rfl, rfl, (mm : Int), congrArg (fun x => [V.int x]) emm, by omega, by omega, ?_⟩
      refine for_range (lo := 0) (n := mm) (fun i σ Hx => ∃ (y5 y6 : Option V) (S : Addr) (us : List V) (gp : List (Str × Str)), σ = [some (.ref t), some (.int wy), some (.ref nA), some (.ref D), some (.ref S), y5, y6] ∧ Hx S = some (.lst us) ∧ NkAll Hx us (gp.map sayK) ∧ (∀ p ∈ gp, InP zs p) ∧ gp.length = 2 * i ∧ Same H7 Hx ∧ S ≠ t) ⟨_, _, S, [], [], rfl, h7, nk0, (fun p hp => by cases hp), rfl, (fun _ _ e => e), St⟩ ?_ ?_
      · rintro i σ Hx hi ⟨y5, y6, S, us, gp, rfl, hS, nkS, inS, lS, sx, St⟩
        have hDx := sx _ _ hD7
        obtain ⟨a, ha⟩ : ∃ a, ds[2 * i]? = some a := ⟨_, List.getElem?_eq_getElem (by omega)⟩
        obtain ⟨b, hb⟩ : ∃ b, ds[2 * i + 1]? = some b := ⟨_, List.getElem?_eq_getElem (by omega)⟩
        have am := pm.mem_iff.mp (List.mem_of_getElem? ha)
        have bm := pm.mem_iff.mp (List.mem_of_getElem? hb)
        have ab : a ≠ b := fun e => by
          have := idx_at ndd ha
          have := idx_at ndd (i := 2 * i + 1) (x := a) (by rw [e]; exact hb)
          omega
        have ha2 : atI (ds.map V.str) (2 * (0 + (i : Int))) = some (.str a) := at_of (j := 2 * i) (by omega) (by rw [List.getElem?_map, ha]; rfl)
        have hb2 : atI (ds.map V.str) (2 * (0 + (i : Int)) + 1) = some (.str b) := at_of (j := 2 * i + 1) (by omega) (by rw [List.getElem?_map, hb]; rfl)
        have lus : us.length = gp.length := by have := nkS.length; rw [List.length_map] at this; exact this
        refine ⟨_, rfl, _, rfl, _, rfl, _, _, rfl, rfl, .inl ⟨by decide, by decide⟩, D, _, _, .str a, rfl, rfl, .inl (.inl hDx), ha2, _, rfl, _, rfl, _, _, rfl, rfl, .inl ⟨by decide, by decide⟩, _, _, rfl, rfl, D, _, _, .str b, rfl, rfl, .inl (.inl hDx), hb2, sz (by show 2 ≤ 1000; decide), fun c1 n1 => ?_⟩
        refine fresh_fin (.tup [V.str a, V.str b]) n1 fun H8 s8 h8 => ?_
        have hD8 := s8 _ _ hDx
        refine ⟨_, rfl, _, rfl, _, _, rfl, rfl, .inl ⟨by decide, by decide⟩, _, _, rfl, rfl, D, _, _, .str b, rfl, rfl, .inl (.inl hD8), hb2, _, rfl, _, rfl, _, _, rfl, rfl, .inl ⟨by decide, by decide⟩, D, _, _, .str a, rfl, rfl, .inl (.inl hD8), ha2, sz (by show 2 ≤ 1000; decide), fun c2 n2 => ?_⟩
        refine fresh_fin (.tup [V.str b, V.str a]) n2 fun H9 s9 h9 => ?_
        refine ⟨sz (by show 2 ≤ 1000; decide), fun L nL => ?_⟩
        refine fresh_fin (.lst [V.ref c1, V.ref c2]) nL fun H10 s10 h10 => ?_
        refine ⟨S, L, _, _, rfl, rfl, s10 _ _ (s9 _ _ (s8 _ _ hS)), h10, sz (show us.length + 2 ≤ 1000 by omega), fun G nG => ?_⟩
        refine fresh_fin (.lst (us ++ [V.ref c1, V.ref c2])) nG fun H11 s11 h11 => ?_
        have sA := s8.trans (s9.trans (s10.trans s11))
        refine ⟨_, _, G, us ++ [.ref c1, .ref c2], gp ++ [(a, b), (b, a)], rfl, h11, ?_, fun p hp => ?_, by rw [List.length_append, lS]; show _ + 2 = _; omega, sx.trans sA, ((((hT7.same sx).same s8).same s9).same s10).ne nG |>.1⟩
        · rw [List.map_append]
          exact (nkS.at (.same sA)).app (.cons (nk_say (s11 _ _ (s10 _ _ (s9 _ _ h8)))) (.cons (nk_say (s11 _ _ (s10 _ _ h9))) .nil))
        · rcases List.mem_append.mp hp with h | h
          · exact inS p h
          · rcases List.mem_cons.mp h with rfl | h
            · exact ⟨am, bm, ab⟩
            · rw [List.mem_singleton.mp h]; exact ⟨bm, am, ab.symm⟩
      · rintro σ Hx ⟨y5, y6, S, us, gp, rfl, hS, nkS, inS, lS, sx, St⟩
        have hTx := hT7.same sx
        have lus : us.length = gp.length := by have := nkS.length; rw [List.length_map] at this; exact this
        refine ⟨_, rfl, D, ds, rfl, sx _ _ hD7, by omega, fun A ay H8 s8 nA8 hA nkA => ?_⟩
        have inA : ∀ x ∈ alongK ds ds.length, InP zs x := fun x hx => by
          obtain ⟨a1, a2, a3⟩ := along_rk ndd hx
          exact ⟨pm.mem_iff.mp a2, pm.mem_iff.mp a3, fun z => by rw [z] at a1; omega⟩
        have lA0 : 1 ≤ (alongK ds ds.length).length := along_some (by omega)
        have lA1 := along_len (zs := ds) (by omega) ds.length (Nat.le_refl _)
        generalize alongK ds ds.length = al at nkA inA lA0 lA1
        have lay : ay.length = al.length := by have := nkA.length; rw [List.length_map] at this; exact this
        have hT8 := hTx.same s8
        obtain ⟨At, Ac⟩ := hTx.ne nA8
        have hS8 := s8 _ _ hS
        have nkS8 := nkS.at (.same s8)
        refine ⟨_, rfl, _, rfl, t, 5, n + 1 + 8 + 9 + zs.length + 1, c, rfl, by decide, by decide, hT8, by omega, fun x H9 x0 x1 hT9 hK9 => ?_⟩
        obtain ⟨ml, eml, lml⟩ : ∃ ml : Nat, x = (ml : Int) ∧ ml ≤ 4 := ⟨x.toNat, by omega, by omega⟩
        subst eml
        have k9 : Kp t H H9 := k7.trans ((Kp.of_same (sx.trans s8)).trans hK9)
        have hS9 := hK9 _ _ St hS8
        have nkS9 := nkS8.at (tups_kp hT8 hK9)
        have hA9 := hK9 _ _ At hA
        have nkA9 := nkA.at (tups_kp hT8 hK9)
        have hN9 := tups_kp hT8 hK9 _ _ (s8 _ _ (sx _ _ hN7))
        refine ⟨_, rfl, by omega, by omega, fun L nL => ?_⟩
        have sL := fun o => same_upd (H := H9) (o := o) nL
        obtain ⟨Lt2, Lc⟩ := hT9.ne nL
        have fL := kp_none k9 nL Lt2
        refine lc_range (lo := 0) (n := ml) (fun j Hy => ∃ (gs : List V) (gp2 : List (Str × Str)), Hy L = some (.lst gs) ∧ NkAll Hy gs (gp2.map sayK) ∧ (∀ x ∈ gp2, x ∈ al) ∧ gp2.length = j ∧ FeedC Hy t c (n + 1 + 8 + 9 + zs.length + 2 + j) ∧ Kp t H9 Hy) ⟨[], [], upd_same, .nil, (fun x hx => by cases hx), rfl, hT9.same (sL _), .of_same (sL _)⟩ ?_ ?_
        · rintro j Hy hj ⟨gs, gp2, hL, ng, sg, lg, hTy, hKy⟩
          have lgs : gs.length = gp2.length := by have := ng.length; rw [List.length_map] at this; exact this
          have hAy := hKy _ _ At hA9
          refine ⟨rfl, tYesT ⟨_, rfl, _, rfl, _, rfl, A, _, rfl, .inl (.inl (.inl hAy)), t, _, _, c, rfl, by omega, by omega, hTy, by omega, fun v H10 v0 v1 hT10 hK10 => ?_⟩⟩
          have k10 := hKy.trans hK10
          have hA10 := hK10 _ _ At hAy
          obtain ⟨p, hp⟩ : ∃ p, al[v.toNat]? = some p := ⟨_, List.getElem?_eq_getElem (by omega)⟩
          obtain ⟨y, hy, hyy⟩ := say_at (nkA9.at (tups_kp hT9 k10)) hp
          have hL10 := hK10 _ _ Lt2 hL
          have tL := tups_lst (o := .lst (gs ++ [.ref y])) hL10
          refine ⟨A, ay, v, .ref y, rfl, rfl, .inl (.inl hA10), atI_int v0 hy, gs, hL10, small1000 (by omega), gs ++ [.ref y], gp2 ++ [p], upd_same, ?_, fun x hx => ?_, by rw [List.length_append, lg]; rfl, (hT10.updO Lt2 Lc).mono (by omega), kp_fresh nL k10⟩
          · rw [List.map_append]
            exact (ng.at ((tups_kp hTy hK10).trans tL)).app (.cons (nk_say (tL _ _ hyy)) .nil)
          · rcases List.mem_append.mp hx with h | h
            · exact sg x h
            · rw [List.mem_singleton.mp h]; exact List.mem_of_getElem? hp
        · rintro H10 ⟨gs, gp2, hL, ng, sg, lg, hT10, hK10⟩
          have lgs : gs.length = gp2.length := by have := ng.length; rw [List.length_map] at this; exact this
          have hS10 := hK10 _ _ St hS9
          refine ⟨S, L, us, gs, rfl, rfl, hS10, hL, sz (by omega), fun F nF => ?_⟩
          refine fresh_fin (.lst (us ++ gs)) nF fun H11 s11 h11 => ?_
          have t11 := (tups_kp hT9 hK10).trans (.same s11)
          have nkF : NkAll H11 (us ++ gs) ((gp ++ gp2).map sayK) := by
            rw [List.map_append]
            exact (nkS9.at t11).app (ng.at (.same s11))
          have inF : ∀ x ∈ gp ++ gp2, InP zs x := fun x hx => (List.mem_append.mp hx).elim (inS x) fun h => inA x (sg x h)
          have lF : (gp ++ gp2).length ≤ 12 := by rw [List.length_append]; omega
          generalize gp ++ gp2 = gq at nkF inF lF
          generalize us ++ gs = fv at h11 nkF
          obtain ⟨es, rfl, ek⟩ := ents_say nkF
          rw [ek] at nkF
          have le : es.length = gq.length := by have := congrArg List.length ek; rw [List.length_map, List.length_map] at this; exact this.symm
          have nke : ∀ x ∈ es, Nk H11 (.ref x.1) x.2 := ents_nk nkF
          have sye : ∀ x ∈ es, ∃ q ∈ gq, x.2 = sayK q := fun x hx => by
            have : x.2 ∈ gq.map sayK := by rw [ek]; exact List.mem_map_of_mem hx
            obtain ⟨q, hq, e⟩ := List.mem_map.mp this
            exact ⟨q, hq, e.symm⟩
          refine ⟨_, rfl, _, rfl, F, es, rfl, .inl (.inl h11), fun x hx => ⟨nke x hx, by obtain ⟨q, _, e⟩ := sye x hx; rw [e]; exact say_depth q⟩, by omega, fun S2 M nS2 m1 m2 ndM => ?_⟩
          have t3 := same_upd (o := My.SetO w S2 M) nS2
          refine ⟨S2, M, rfl, upd_same, fun x hx => ⟨(nke x (m1 x hx)).at (.same t3), by obtain ⟨q, _, e⟩ := sye x (m1 x hx); rw [e]; exact say_depth q⟩, say_sbl (fun k hk => by obtain ⟨x, hx, rfl⟩ := List.mem_map.mp hk; obtain ⟨q, _, e⟩ := sye x (m1 x hx); exact ⟨q, e⟩), fun M' b pm2 nb => ?_⟩
          have mm2 : ∀ x ∈ M', x ∈ M := fun x hx => pm2.mem_iff.mp hx
          have t4 := same_upd (o := .lst ((srt (M'.map fun q => V.ref q.1) (M'.map (·.2))).map Prod.fst)) nb
          refine ⟨b, _, rfl, .inl (.inl upd_same), fun r ro nr tdr => ?_⟩
          have rt := (((hT10.same s11).same (t3.trans t4)).ne nr).1
          have nrH := kp_noneA (k9.trans (hK10.trans (.of_same (s11.trans (t3.trans t4))))) rt nr
          have t5 := same_upd (o := .frz ro (.tup ((srt (M'.map fun q => V.ref q.1) (M'.map (·.2))).map Prod.fst))) nr
          have sA := t3.trans (t4.trans t5)
          have hr1 := upd_same (H := upd (upd H11 S2 (My.SetO w S2 M)) b (.lst ((srt (M'.map fun q => V.ref q.1) (M'.map (·.2))).map Prod.fst))) (a := r) (o := .frz ro (.tup ((srt (M'.map fun q => V.ref q.1) (M'.map (·.2))).map Prod.fst)))
          obtain ⟨ls2, k1, k2', k3', k4⟩ := srt_ok (M := M') (fun x hx => (nke x (m1 x (mm2 x hx))).at (.same sA)) (fun x hx => by obtain ⟨q, _, e⟩ := sye x (m1 x (mm2 x hx)); exact ⟨q, e⟩) ((pm2.map (·.2)).nodup_iff.mpr ndM)
          have each : ∀ k ∈ ls2, ∃ q ∈ gq, k = sayK q := fun k hk => by
            obtain ⟨x, hx, rfl⟩ := List.mem_map.mp ((k3' k).mp hk)
            exact sye x (m1 x (mm2 x hx))
          obtain ⟨qs, eqs, inq⟩ := says_of each
          subst eqs
          have lM : M.length ≤ es.length := by
            have := nodup_len (l := M.map (·.2)) (m := es.map (·.2)) ndM fun k hk => by obtain ⟨x, hx, rfl⟩ := List.mem_map.mp hk; exact List.mem_map_of_mem (m1 x hx)
            rwa [List.length_map, List.length_map] at this
          have l1 : qs.length = M'.length := by rw [← k4, List.length_map]
          have lq : qs.length ≤ 12 := by rw [l1, pm2.length_eq]; omega
          refine ⟨sz (by show 2 ≤ 1000; decide), fun z nz => ?_⟩
          refine fresh_fin (.tup [V.ref nA, V.ref r]) nz fun H12 s12 h12 => ?_
          exact q z nA r ro _ qs zs H12 h12 (s12 _ _ (sA _ _ (s11 _ _ (tups_kp hT9 hK10 _ _ hN9)))) (s12 _ _ hr1) tdr nrH (k1.at (.same s12)) k2' lq (by omega) nd (fun x hx => inF x (inq x hx)) nm (((hT10.same s11).same (sA.trans s12)).mono (by omega)) (k9.trans (hK10.trans (.of_same (s11.trans (sA.trans s12)))))
end
end L45

set_option Elab.async false
set_option linter.all false
set_option maxRecDepth 100000
set_option maxHeartbeats 2000000
namespace L45
open PySem PySem.Spec PyProof.Rows L2 LT
open My hiding Tbs Gk Tk
section
variable {P : Program} {w : World} {K : PySem.W.Frag} {mg : Str → Option Value} {base : Heap}
theorem at_prev {α : Type} (xs : List α) {i : Nat} (h : i < xs.length) : atI xs ((i : Int) - 1) = xs[if i = 0 then xs.length - 1 else i - 1]? := by
  unfold atI ixN
  by_cases e : i = 0
  · subst e
    rw [if_neg (by omega), if_pos (by omega), if_pos rfl]
    show xs[_]? = _
    congr 1
    omega
  · rw [if_pos (by omega), if_pos (by omega), if_neg e]
    show xs[_]? = _
    congr 1
    omega
/-- a ring of the sayings -/
def IsRing (ps wp : List (Str × Str)) : Prop := wp ≠ [] ∧ (∀ x ∈ wp, x ∈ ps) ∧ (∀ (i : Nat) (x y : Str × Str), wp[i]? = some x → atI wp ((i : Int) - 1) = some y → x.1 = y.2) ∧ (wp.map (·.1)).Nodup
open Classical in
/-- the thing is a ring of the sayings -/
noncomputable def ringB (ps : List (Str × Str)) (d : PyData) : Bool := decide (∃ wp : List (Str × Str), d = .tuple (wp.map sayD) ∧ IsRing ps wp)
theorem ringB_yes {ps wp : List (Str × Str)} (h : IsRing ps wp) : ringB ps (.tuple (wp.map sayD)) = true := by
  unfold ringB
  classical exact decide_eq_true ⟨wp, rfl, h⟩
theorem ringB_no {ps : List (Str × Str)} {d : PyData} (h : ∀ wp : List (Str × Str), d = .tuple (wp.map sayD) → ¬ IsRing ps wp) : ringB ps d = false := by
  unfold ringB
  classical exact decide_eq_false fun ⟨wp, e, i⟩ => h wp e i
theorem ringB_of {ps : List (Str × Str)} {d : PyData} (h : ringB ps d = true) : ∃ wp : List (Str × Str), d = .tuple (wp.map sayD) ∧ IsRing ps wp := by
  unfold ringB at h
  exact @of_decide_eq_true _ (_) h
theorem ringB_not {ps wp : List (Str × Str)} (h : ¬ IsRing ps wp) : ringB ps (.tuple (wp.map sayD)) = false := ringB_no fun qs e i => h (by
  injection e with e
  rw [sayDs_inj e]
  exact i)
theorem isP_say {p : Str × Str} {d : PyData} (h : isP p d = true) : d = sayD p := by
  cases d with
  | tuple ds =>
    match ds, h with
    | [x, y], h =>
      have h : (isT p.1 x && isT p.2 y) = true := h
      obtain ⟨h1, h2⟩ := Bool.and_eq_true_iff.mp h
      have one : ∀ {z : Str} {e : PyData}, isT z e = true → e = .str z := fun {z e} h => by
        cases e with
        | str y => rw [eq_of_beq (show (z == y) = true from h)]
        | none => cases h
        | bool b => cases h
        | int i => cases h
        | tuple l => cases h
        | list l => cases h
        | dict l => cases h
      rw [one h1, one h2]
      rfl
    | [], h => cases h
    | [_], h => cases h
    | _ :: _ :: _ :: _, h => cases h
  | none => cases h
  | bool b => cases h
  | int i => cases h
  | str y => cases h
  | list l => cases h
  | dict l => cases h
theorem isP_self (p : Str × Str) : isP p (sayD p) = true := by
  show ((p.1 == p.1) && (p.2 == p.2)) = true
  rw [beq_self_eq_true, beq_self_eq_true]
  rfl
theorem in_pair {ps : List (Str × Str)} {d : PyData} (h : inPs ps d = true) : ∃ p ∈ ps, d = sayD p := by
  obtain ⟨p, hp, e⟩ := List.any_eq_true.mp h
  exact ⟨p, hp, isP_say e⟩
theorem in_pairs {ps : List (Str × Str)} {p : Str × Str} : inPs ps (sayD p) = decide (p ∈ ps) := by
  by_cases h : p ∈ ps
  · rw [decide_eq_true h]
    exact List.any_eq_true.mpr ⟨p, h, isP_self p⟩
  · rw [decide_eq_false h]
    cases e : inPs ps (sayD p) with
    | false => rfl
    | true =>
      obtain ⟨q, hq, eq⟩ := in_pair e
      rw [← sayD_inj eq] at hq
      exact absurd hq h
/-- all of them among the pairs: which ones -/
theorem all_in {ps : List (Str × Str)} : ∀ {ds : List PyData}, (∀ (k : Nat) (d : PyData), ds[k]? = some d → inPs ps d = true) → ∃ wp : List (Str × Str), ds = wp.map sayD ∧ ∀ p ∈ wp, p ∈ ps
  | [], _ => ⟨[], rfl, fun p hp => by cases hp⟩
  | d :: ds, h => by
    obtain ⟨wp, e, a⟩ := all_in (ds := ds) fun k x hx => h (k + 1) x hx
    obtain ⟨p, hp, rfl⟩ := in_pair (h 0 d rfl)
    exact ⟨p :: wp, by rw [List.map_cons, e], fun x hx => (List.mem_cons.mp hx).elim (fun e => by rw [e]; exact hp) (a x)⟩
theorem not_all_in {ps : List (Str × Str)} {ds : List PyData} {k : Nat} {d : PyData} (hd : ds[k]? = some d) (e : ¬ inPs ps d = true) : ringB ps (.tuple ds) = false := ringB_no fun wp ew i => by
  injection ew with ew
  rw [ew, List.getElem?_map] at hd
  cases e3 : wp[k]? with
  | none => rw [e3] at hd; cases hd
  | some p =>
    rw [e3] at hd
    have hd : sayD p = d := Option.some.inj hd
    rw [← hd, in_pairs] at e
    exact e (decide_eq_true (i.2.1 p (List.mem_of_getElem? e3)))
/-- the same, told without going round -/
theorem ring_flat {ps wp : List (Str × Str)} {a b : Str × Str} (h0 : wp[0]? = some a) (hl : wp[wp.length - 1]? = some b) : IsRing ps wp ↔ (∀ x ∈ wp, x ∈ ps) ∧ b.2 = a.1 ∧ (∀ (i : Nat) (x y : Str × Str), wp[i]? = some x → wp[i + 1]? = some y → y.1 = x.2) ∧ (wp.map (·.1)).Nodup := by
  have l0 := (List.getElem?_eq_some_iff.mp h0).1
  constructor
  · rintro ⟨_, s, c, n⟩
    refine ⟨s, ?_, fun i x y hx hy => ?_, n⟩
    · refine (c 0 a b h0 ?_).symm
      rw [at_prev wp l0, if_pos rfl]
      exact hl
    · have ly := (List.getElem?_eq_some_iff.mp hy).1
      refine c (i + 1) y x hy ?_
      rw [at_prev wp ly, if_neg (by omega)]
      exact hx
  · rintro ⟨s, e, c, n⟩
    refine ⟨fun z => by rw [z] at l0; exact Nat.not_lt_zero _ l0, s, fun i x y hx hy => ?_, n⟩
    have lx := (List.getElem?_eq_some_iff.mp hx).1
    rw [at_prev wp lx] at hy
    by_cases z : i = 0
    · rw [if_pos z, hl] at hy
      rw [z, h0] at hx
      rw [← Option.some.inj hx, ← Option.some.inj hy, e]
    · rw [if_neg z] at hy
      exact c (i - 1) y x hy (by rw [show i - 1 + 1 = i by omega]; exact hx)
/-- the first place below n at which it is so -/
def firstIx (n : Nat) (p : Nat → Bool) : Option Nat := (List.range n).find? p
theorem firstIx_some {n k : Nat} {p : Nat → Bool} (hk : k < n) (e : p k = true) (h : ∀ j, j < k → p j = false) : firstIx n p = some k := by
  unfold firstIx
  rw [List.find?_range_eq_some]
  exact ⟨e, List.mem_range.mpr hk, fun j hj => by rw [h j hj]; rfl⟩
theorem firstIx_none {n : Nat} {p : Nat → Bool} (h : ∀ j, j < n → p j = false) : firstIx n p = none := by
  unfold firstIx
  rw [List.find?_eq_none]
  intro j hj e
  rw [h j (List.mem_range.mp hj)] at e
  cases e
theorem firstIx_no {n : Nat} {p : Nat → Bool} (h : firstIx n p = none) (j : Nat) (hj : j < n) : p j = false := by
  unfold firstIx at h
  rw [List.find?_eq_none] at h
  exact Bool.eq_false_iff.mpr (h j (List.mem_range.mpr hj))
def sayOf : PyData → Str × Str
  | .tuple [.str a, .str b] => (a, b)
  | _ => ("", "")
theorem sayOf_map : ∀ wp : List (Str × Str), (wp.map sayD).map sayOf = wp
  | [] => rfl
  | p :: wp => by
    rw [List.map_cons, List.map_cons, sayOf_map wp]
    rfl
def linkB (wp : List (Str × Str)) (k : Nat) : Bool := decide ((wp[k]?).map (·.1) ≠ (atI wp ((k : Int) - 1)).map (·.2))
def twiceB (wp : List (Str × Str)) (k : Nat) : Bool := match wp[k]? with
  | some x => decide (x.1 ∈ (wp.map (·.1)).take k)
  | none => false
theorem linkB_at {wp : List (Str × Str)} {k : Nat} {x y : Str × Str} (hx : wp[k]? = some x) (hy : atI wp ((k : Int) - 1) = some y) : linkB wp k = decide (x.1 ≠ y.2) := by
  unfold linkB
  rw [hx, hy]
  by_cases e : x.1 = y.2
  · rw [decide_eq_false (fun h => h (by rw [Option.map_some, Option.map_some, e])), decide_eq_false (fun h => h e)]
  · rw [decide_eq_true (show Option.map (·.1) (some x) ≠ Option.map (·.2) (some y) from fun h => e (Option.some.inj h)), decide_eq_true e]
theorem twiceB_at {wp : List (Str × Str)} {k : Nat} {x : Str × Str} (hx : wp[k]? = some x) : twiceB wp k = decide (x.1 ∈ (wp.map (·.1)).take k) := by
  unfold twiceB
  rw [hx]
/-- the word and the places by which pairs of the list are no ring -/
def linkFault (wp : List (Str × Str)) : Option (Str × List Nat) := match firstIx wp.length (linkB wp) with
  | some k => some (Str.ofString "link", [k])
  | none => match firstIx wp.length (twiceB wp) with
    | some k => some (Str.ofString "twice", [k])
    | none => none
def outB (ps : List (Str × Str)) (ds : List PyData) (k : Nat) : Bool := match ds[k]? with
  | some d => !inPs ps d
  | none => false
theorem outB_at {ps : List (Str × Str)} {ds : List PyData} {k : Nat} {d : PyData} (h : ds[k]? = some d) : outB ps ds k = !inPs ps d := by
  unfold outB
  rw [h]
def ringFaultT (ps : List (Str × Str)) (ds : List PyData) : Option (Str × List Nat) := if ds.length = 0 then some (Str.ofString "shape", []) else match firstIx ds.length (outB ps ds) with
    | some k => some (Str.ofString "saying", [k])
    | none => linkFault (ds.map sayOf)
def ringFault (ps : List (Str × Str)) : PyData → Option (Str × List Nat)
  | .tuple ds => ringFaultT ps ds
  | _ => some (Str.ofString "shape", [])
theorem rf_empty {ps : List (Str × Str)} : ringFault ps (.tuple []) = some (Str.ofString "shape", []) := rfl
theorem rf_other {ps : List (Str × Str)} {d : PyData} (h : ∀ ds, d ≠ .tuple ds) : ringFault ps d = some (Str.ofString "shape", []) := by
  cases d with
  | tuple ds => exact absurd rfl (h ds)
  | str y => rfl
  | none => rfl
  | bool b => rfl
  | int i => rfl
  | list l => rfl
  | dict l => rfl
theorem rf_say {ps : List (Str × Str)} {ds : List PyData} {k : Nat} {d : PyData} (hd : ds[k]? = some d) (e : inPs ps d = false) (h : ∀ j d, j < k → ds[j]? = some d → inPs ps d = true) : ringFault ps (.tuple ds) = some (Str.ofString "saying", [k]) := by
  have lk := (List.getElem?_eq_some_iff.mp hd).1
  show ringFaultT ps ds = _
  unfold ringFaultT
  rw [if_neg (by omega), firstIx_some lk (by rw [outB_at hd, e]; rfl) fun j hj => by
    obtain ⟨d2, h2⟩ : ∃ d, ds[j]? = some d := ⟨_, List.getElem?_eq_getElem (by omega)⟩
    rw [outB_at h2, h j d2 hj h2]
    rfl]
theorem rf_in {ps wp : List (Str × Str)} (ne : wp ≠ []) (sub : ∀ p ∈ wp, p ∈ ps) : ringFault ps (.tuple (wp.map sayD)) = linkFault wp := by
  have l0 := List.length_pos_iff.mpr ne
  show ringFaultT ps _ = _
  unfold ringFaultT
  rw [if_neg (by rw [List.length_map]; omega), firstIx_none (p := outB ps (wp.map sayD)) fun j hj => by
    rw [List.length_map] at hj
    have h2 : (wp.map sayD)[j]? = some (sayD wp[j]) := by rw [List.getElem?_map, List.getElem?_eq_getElem hj]; rfl
    rw [outB_at h2, in_pairs, decide_eq_true (sub _ (List.getElem_mem hj))]
    rfl, sayOf_map]
theorem lf_link {wp : List (Str × Str)} {k : Nat} {x y : Str × Str} (hx : wp[k]? = some x) (hy : atI wp ((k : Int) - 1) = some y) (e : x.1 ≠ y.2) (h : ∀ (j : Nat) (x y : Str × Str), j < k → wp[j]? = some x → atI wp ((j : Int) - 1) = some y → x.1 = y.2) : linkFault wp = some (Str.ofString "link", [k]) := by
  have lk := (List.getElem?_eq_some_iff.mp hx).1
  unfold linkFault
  rw [firstIx_some lk (by rw [linkB_at hx hy, decide_eq_true e]) fun j hj => by
    have lj : j < wp.length := by omega
    have hb := at_prev wp lj
    have ej : (if j = 0 then wp.length - 1 else j - 1) < wp.length := by split <;> omega
    rw [List.getElem?_eq_getElem ej] at hb
    rw [linkB_at (List.getElem?_eq_getElem lj) hb]
    exact decide_eq_false fun z => z (h j _ _ hj (List.getElem?_eq_getElem lj) hb)]
theorem links_ok {wp : List (Str × Str)} (h : ∀ (j : Nat) (x y : Str × Str), j < wp.length → wp[j]? = some x → atI wp ((j : Int) - 1) = some y → x.1 = y.2) : firstIx wp.length (linkB wp) = none := firstIx_none fun j lj => by
  have hb := at_prev wp lj
  have ej : (if j = 0 then wp.length - 1 else j - 1) < wp.length := by split <;> omega
  rw [List.getElem?_eq_getElem ej] at hb
  rw [linkB_at (List.getElem?_eq_getElem lj) hb]
  exact decide_eq_false fun z => z (h j _ _ lj (List.getElem?_eq_getElem lj) hb)
theorem lf_twice {wp : List (Str × Str)} {k : Nat} {x : Str × Str} (c : ∀ (j : Nat) (x y : Str × Str), j < wp.length → wp[j]? = some x → atI wp ((j : Int) - 1) = some y → x.1 = y.2) (hx : wp[k]? = some x) (e : x.1 ∈ (wp.map (·.1)).take k) (nd : ((wp.map (·.1)).take k).Nodup) : linkFault wp = some (Str.ofString "twice", [k]) := by
  have lk := (List.getElem?_eq_some_iff.mp hx).1
  unfold linkFault
  rw [links_ok c, firstIx_some lk (by rw [twiceB_at hx, decide_eq_true e]) fun j hj => by
    have lj : j < wp.length := by omega
    rw [twiceB_at (List.getElem?_eq_getElem lj)]
    refine decide_eq_false fun m => ?_
    obtain ⟨i, hi⟩ := List.mem_iff_getElem?.mp m
    have li := (List.getElem?_eq_some_iff.mp hi).1
    rw [List.length_take] at li
    rw [List.getElem?_take, if_pos (by omega)] at hi
    have a : ((wp.map (·.1)).take k)[i]? = some (wp[j]).1 := by rw [List.getElem?_take, if_pos (by omega)]; exact hi
    have b : ((wp.map (·.1)).take k)[j]? = some (wp[j]).1 := by rw [List.getElem?_take, if_pos hj, List.getElem?_map, List.getElem?_eq_getElem lj]; rfl
    have := nd_ix nd a b
    omega]
theorem lf_none {wp : List (Str × Str)} (c : ∀ (j : Nat) (x y : Str × Str), j < wp.length → wp[j]? = some x → atI wp ((j : Int) - 1) = some y → x.1 = y.2) (nd : (wp.map (·.1)).Nodup) : linkFault wp = none := by
  unfold linkFault
  rw [links_ok c, firstIx_none (p := twiceB wp) fun j lj => by
    rw [twiceB_at (List.getElem?_eq_getElem lj)]
    refine decide_eq_false fun m => ?_
    obtain ⟨i, hi⟩ := List.mem_iff_getElem?.mp m
    have li := (List.getElem?_eq_some_iff.mp hi).1
    rw [List.length_take] at li
    rw [List.getElem?_take, if_pos (by omega)] at hi
    have b : (wp.map (·.1))[j]? = some (wp[j]).1 := by rw [List.getElem?_map, List.getElem?_eq_getElem lj]; rfl
    have := nd_ix nd hi b
    omega]
theorem rf_ring {ps wp : List (Str × Str)} (h : IsRing ps wp) : ringFault ps (.tuple (wp.map sayD)) = none := by
  rw [rf_in h.1 h.2.1]
  exact lf_none (fun j x y _ => h.2.2.1 j x y) h.2.2.2
theorem ring_rf {ps : List (Str × Str)} {d : PyData} (h : ringFault ps d = none) : ∃ wp : List (Str × Str), d = .tuple (wp.map sayD) ∧ IsRing ps wp := by
  cases d with
  | tuple ds =>
    by_cases e : ds.length = 0
    · rw [List.length_eq_zero_iff.mp e] at h
      cases h
    · have al : ∀ (k : Nat) (d : PyData), ds[k]? = some d → inPs ps d = true := by
        refine Classical.byContradiction fun n => ?_
        have h : ringFaultT ps ds = none := h
        unfold ringFaultT at h
        rw [if_neg e] at h
        cases f : firstIx ds.length (outB ps ds) with
        | some k => rw [f] at h; cases h
        | none =>
          refine n fun k d hd => ?_
          have := firstIx_no f k (List.getElem?_eq_some_iff.mp hd).1
          rw [outB_at hd] at this
          simpa using this
      obtain ⟨wp, rfl, sub⟩ := all_in al
      have ne : wp ≠ [] := fun z => e (by rw [z]; rfl)
      rw [rf_in ne sub] at h
      unfold linkFault at h
      cases f : firstIx wp.length (linkB wp) with
      | some k => rw [f] at h; cases h
      | none =>
        rw [f] at h
        cases g : firstIx wp.length (twiceB wp) with
        | some k => rw [g] at h; cases h
        | none =>
          refine ⟨wp, rfl, ne, sub, fun i x y hx hy => ?_, ?_⟩
          · have := firstIx_no f i (List.getElem?_eq_some_iff.mp hx).1
            rw [linkB_at hx hy] at this
            exact Classical.byContradiction fun z => absurd z (of_decide_eq_false this)
          · refine List.pairwise_iff_getElem.mpr fun i j hi hj ij e2 => ?_
            have lj : j < wp.length := by rw [List.length_map] at hj; exact hj
            have := firstIx_no g j lj
            rw [twiceB_at (List.getElem?_eq_getElem lj)] at this
            refine of_decide_eq_false this ?_
            refine List.mem_iff_getElem?.mpr ⟨i, ?_⟩
            rw [List.getElem?_take, if_pos ij, List.getElem?_eq_getElem hi, e2, List.getElem_map]
  | str y => cases h
  | none => cases h
  | bool b => cases h
  | int i => cases h
  | list l => cases h
  | dict l => cases h
theorem rf_ringB {ps : List (Str × Str)} {d : PyData} : ringB ps d = (ringFault ps d).isNone := by
  cases e : ringFault ps d with
  | none =>
    obtain ⟨wp, rfl, i⟩ := ring_rf e
    exact ringB_yes i
  | some x =>
    refine ringB_no fun wp ed i => ?_
    rw [ed, rf_ring i] at e
    cases e
theorem lamTab {c P : Addr} (h : GxR.TabB base mg c P) : LamX.TabB base mg c P := ⟨h.1, h.2, h.3⟩
/-- what first_place makes of a lambda's reading: asked of 0, 1, .. till it tells True -/
def TTf (K : PySem.W.Frag) : V → (V → Hp → VK → Prop) → Hp → VK → Prop := fun v tl H Q => ∃ (th : Addr) (xs : List V) (Pv : Nat → Hp → Prop), v = .ref th ∧ (SqL K H th xs ∨ SqT K H th xs) ∧ xs.length ≤ 1000 ∧ Pv 0 H ∧ (∀ (i : Nat) H', i < xs.length → Pv i H' → Same H H' ∧ ∀ R : VK, (∀ b H'', (b = true → ∀ p, H'' p = none → Q (.ref p) (upd H'' p (.tup [.int (0 + (i : Int))]))) → (b = false → Pv (i + 1) H'') → R (.bl b) H'') → tl (.int (0 + (i : Int))) H' R) ∧ ∀ H', Pv xs.length H' → Q .non H'
theorem first_gives {X : Cx} (T : Tx X.K X.mg) (q : Str) (cdv : Value) : LM.Gives1 X N_first_place "first_place" (defScope s_first_place) T.f_first_place cdv (defBody s_first_place) "is_amiss" q (TTf X.K) := by
  intro v f c' s H Q tl act hc h
  obtain ⟨th, xs, Pv, rfl, hx, l1000, p0, step, fin⟩ := h
  refine ⟨_, (pss_cons (ps_for PassesOwn.never rfl (pi_range1 (by rfl) T.m_range (pa_cons (pe_callB call_len_seq (by rfl) T.m_len PySem.boot_len (pa_cons (pv 0) pa_nil)) pa_nil)) (pg_name (i := 2) S_first_place.nd rfl (.inl rfl))
      (pss_one (ps_if (pt_val (act _ _ _ _ _ _ (pv 2) rfl)) (pss_one (ps_ret (pe_tup (pa_cons (pv 2) pa_nil)))) pss_nil)))
      (pss_one (ps_ret pe_non))), ?_⟩
  refine ⟨_, rfl, th, xs, rfl, hx, xs.length, rfl, by omega, by omega, ?_⟩
  refine for_range (lo := 0) (n := xs.length) (fun i σ Hx => (∃ y2, σ = [some (.ref th), some (.ref f), y2]) ∧ Pv i Hx) ⟨⟨_, rfl⟩, p0⟩ ?_ ?_
  · rintro i σ Hx hi ⟨⟨y2, rfl⟩, pv⟩
    obtain ⟨sm, go⟩ := step i Hx hi pv
    refine ⟨rfl, _, rfl, sm _ _ hc, go _ fun b H'' yes no => ?_⟩
    refine ⟨_, rfl, ite2 (fun e => ?_) (fun e => ?_)⟩
    · exact ⟨_, rfl, sz (by show 1 ≤ 1000; decide), fun p np => yes e p np⟩
    · exact ⟨⟨_, rfl⟩, no (by simpa using e)⟩
  · rintro σ Hx ⟨⟨y2, rfl⟩, pv⟩
    exact fin Hx pv
theorem cut_nat {xs : List V} {z : Int} {i : Nat} (e : z = (i : Int)) (h : i ≤ xs.length) : cutV xs none (some z) = xs.take i := by
  subst e
  unfold cutV
  rw [HT.sIx_none, HT.sIx_nat, List.drop_zero, Nat.min_eq_left h, Nat.sub_zero]
theorem DqAll.gk {fz : Bool} {t : Addr} {H H' : Hp} {Ts : LT.TL} {vs : List V} {ds : List PyData} (h : DqAll fz t H vs ds) (g : Gk Ts H H') : DqAll fz t H' vs ds := h.keep fun b o _ n e => g.1 b o e n
theorem Dq.gk {fz : Bool} {t : Addr} {H H' : Hp} {Ts : LT.TL} {v : V} {d : PyData} (h : Dq fz t H v d) (g : Gk Ts H H') : Dq fz t H' v d := h.keep fun b o _ n e => g.1 b o e n
def spRFX (T : Tx K mg) : Sp := fun vs H Q _ => ∃ (s t : Addr) (v : V) (ys : List V) (ps : List (Str × Str)) (d : PyData), vs = [.ref s, v] ∧ H s = some (.tup ys) ∧ NkAll H ys (ps.map sayK) ∧ Dq false t H v d ∧ (∀ ds, d = .tuple ds → ds.length ≤ 900) ∧ Tbs (tbs T) H ∧ (∀ H', Gk (tbs T) H H' → ringFault ps d = none → Q .non H') ∧
  ∀ r pth wd us H', Gk (tbs T) H H' → ringFault ps d = some (wd, us) → H' r = some (.tup [.str wd, .ref pth]) → H' pth = some (.tup (us.map fun k => V.int (k : Nat))) → Q (.ref r) H'
theorem ok_rfx (T : Tx K mg) (B : Tb T base) : FnOk P w K mg base CX0 3 T.f_ring_fault T.d_ring_fault ["some", "thing"] (spRFX T) := by
  refine T.F_ring_fault.ok S_ring_fault (fun vs H Q E h => ?_) (fun A outer s0 H vs Q E hr h => ?_)
  · obtain ⟨s, t, v, ys, ps, d, rfl, _⟩ := h
    rfl
  · obtain ⟨s, t, v, ys, ps, d, rfl, hs, nk, dq, few, hB, q0, q1⟩ := h
    have G_first_place := fun (q : Str) (cdv : Value) => first_gives (X := (cxOf CX0 P w K mg base N_ring_fault "ring_fault" (defScope s_ring_fault) T.f_ring_fault (Value.ref T.k_ring_fault) A outer s0 H E).nox) T q cdv
    refine ⟨_, (pss_cons (ps_if (PW.pt (pw_or (pt_not (pt_val (pe_callB call_isi (by rfl) T.m_isinstance (by decide +kernel) (pa_cons (pv 1) (pa_cons (pe_bltn (v := .ty "tuple") (by rfl) T.m_tuple (by decide +kernel) rfl) pa_nil))))) (pw_or1 (pt_not (pt_truth (pv 1) (by intro _; rfl)))))) (pss_one (ps_ret (pe_tup (pa_cons pe_str (pa_cons (pe_tup pa_nil) pa_nil))))) pss_nil)
      (pss_cons (ps_set (i := 2) S_ring_fault.nd rfl (.inl rfl) (LM.lamcall1 (n := 0) (k := "k") (c := T.k_ring_fault) (P := T.P_ring_fault) (by rfl) T.g_first_place T.F_first_place T.b_first_place S_first_place rfl (by first | exact .inl rfl | exact .inr (.inl rfl)) (G_first_place _) (lamTab B.b_ring_fault) rfl (hr.mono (by decide)) (show LM.Scp (defScope s_ring_fault) _ "k" from LM.scp_by (by decide +kernel)) (show ("k" : Str) ∉ N_ring_fault by decide +kernel) rfl (fun _ _ _ _ _ _ => rfl) (pv 1) rfl (fun A outer s H f c hr => (pe_cmpR (r := rInQP K true) (op_notInQP hr.units) (pe_ix (r := rIxT K) ix_tup (pv 1) (pv 5) (fun _ _ => rfl)) (pv 0) (by rfl)))))
      (pss_cons (ps_if (pt_cmpR op_notN (pv 2) pe_non (nomark _)) (pss_one (ps_ret (pe_tup (pa_cons pe_str (pa_cons (pv 2) pa_nil))))) pss_nil)
      (pss_cons (ps_set (i := 2) S_ring_fault.nd rfl (.inl rfl) (LM.lamcall1 (n := 0) (k := "k") (c := T.k_ring_fault) (P := T.P_ring_fault) (by rfl) T.g_first_place T.F_first_place T.b_first_place S_first_place rfl (by first | exact .inl rfl | exact .inr (.inl rfl)) (G_first_place _) (lamTab B.b_ring_fault) rfl (hr.mono (by decide)) (show LM.Scp (defScope s_ring_fault) _ "k" from LM.scp_by (by decide +kernel)) (show ("k" : Str) ∉ N_ring_fault by decide +kernel) rfl (fun _ _ _ _ _ _ => rfl) (pv 1) rfl (fun A outer s H f c hr => (pe_cmpR op_ne (pe_ix (r := rIxT K) ix_tup (pe_ix (r := rIxT K) ix_tup (pv 1) (pv 5) (fun _ _ => rfl)) pe_int (fun _ _ => rfl)) (pe_ix (r := rIxT K) ix_tup (pe_ix (r := rIxT K) ix_tup (pv 1) (pe_op op_sub (pv 5) pe_int) (fun _ _ => rfl)) pe_int (fun _ _ => rfl)) (nomark _)))))
      (pss_cons (ps_if (pt_cmpR op_notN (pv 2) pe_non (nomark _)) (pss_one (ps_ret (pe_tup (pa_cons pe_str (pa_cons (pv 2) pa_nil))))) pss_nil)
      (pss_cons (ps_set (i := 3) S_ring_fault.nd rfl (.inr rfl) (pe_lc (own := [("saying", 4)]) (g := gName 4) (tt := tYes) (by rfl) S_ring_fault.nd (pi_tup (pv 1)) (blkOk_by (own := [("saying", 4)]) (N := N_ring_fault) (sc := defScope s_ring_fault) (by decide +kernel)) (fun _ _ _ _ _ => (pg_name (i := 4) S_ring_fault.nd rfl (.inl rfl))) (fun _ _ _ _ _ => pts_nil) (fun _ _ _ _ _ => (pe_ix (r := rIxT K) ix_tup (pv 4) pe_int (fun _ _ => rfl)))))
      (pss_cons (ps_set (i := 2) S_ring_fault.nd rfl (.inl rfl) (LM.lamcall1 (n := 0) (k := "k") (c := T.k_ring_fault) (P := T.P_ring_fault) (by rfl) T.g_first_place T.F_first_place T.b_first_place S_first_place rfl (by first | exact .inl rfl | exact .inr (.inl rfl)) (G_first_place _) (lamTab B.b_ring_fault) rfl (hr.mono (by decide)) (show LM.Scp (defScope s_ring_fault) _ "k" from LM.scp_by (by decide +kernel)) (show ("k" : Str) ∉ N_ring_fault by decide +kernel) rfl (fun _ _ _ _ _ _ => rfl) (pv 1) rfl (fun A outer s H f c hr => (pe_cmpR (r := rIn K false) op_in_seq (pe_ix (r := rIxL K) ix_list (pv 3) (pv 5) (fun _ _ => rfl)) (pe_slice (r := rSlL K) sl_list (pv 3) po_none (po_some (pv 5))) (by rfl)))))
      (pss_cons (ps_if (pt_cmpR op_notN (pv 2) pe_non (nomark _)) (pss_one (ps_ret (pe_tup (pa_cons pe_str (pa_cons (pv 2) pa_nil))))) pss_nil)
      (pss_one (ps_ret pe_non)))))))))), ?_⟩
    obtain ⟨u, ty, ki⟩ := dq_kind (K := K) (n := "tuple") (.inr (.inr (.inr rfl))) dq
    refine ⟨_, rfl, _, _, u, _, _, rfl, .ty _, ty, ki, _, rfl, ?_⟩
    by_cases kq : kindQ "tuple" d = true
    · obtain ⟨ds, rfl⟩ := kind_tuple kq
      obtain ⟨th, ws, rfl, an, hw, da⟩ := dq_tuple_at dq
      have hw : H th = some (.tup ws) := hw.elim id fun ⟨f, _⟩ => by cases f
      have l900 := few _ rfl
      have ld := da.length
      rw [kq]
      refine iteF ?_
      refine ⟨_, rfl, _, .inr (.inl ⟨_, .inl (.inl hw), rfl⟩), ite2 (fun e => ?_) (fun e => ?_)⟩
      · have we : ds = [] := List.length_eq_zero_iff.mp (by rw [← ld]; cases ws with | nil => rfl | cons => cases e)
        subst we
        refine ⟨sz (by show 0 ≤ 1000; decide), fun c0 n0 => ⟨sz (by show 2 ≤ 1000; decide), fun r nr => ?_⟩⟩
        have s1 := same_upd (o := .tup []) n0
        have s2 := same_upd (o := .tup [.str "shape", .ref c0]) nr
        exact q1 r c0 _ [] _ (.of_same (s1.trans s2) hB) rf_empty upd_same (s2 _ _ upd_same)
      · have wsn : ws ≠ [] := fun z => e (by rw [z]; rfl)
        have mT : (T.P_ring_fault, ("ring_fault" : Str) ++ (".<locals>." : Str) ++ ("<lambda>" : Str)) ∈ (tbs T).l := by simp [tbs]
        refine ⟨_, rfl, hB.lam _ mT, fun H1 md => ?_⟩
        have g1 := Gk.made hB mT md
        have hw1 := g1.tup hw
        have hs1 := g1.tup hs
        have nk1 := nk.at g1.tups
        have da1 := DqAll.gk da g1
        refine ⟨th, ws, fun i H' => H' = H1 ∧ ∀ j d, j < i → ds[j]? = some d → inPs ps d = true, rfl, .inr (.inl (.inl hw1)), by omega, ⟨rfl, fun j d h => by omega⟩, ?_, ?_⟩
        · rintro i H' hi ⟨rfl, al⟩
          obtain ⟨d, hd, dx⟩ := da1.get (List.getElem?_eq_getElem hi)
          refine ⟨fun _ _ e => e, fun R hR => ?_⟩
          refine ⟨_, rfl, _, rfl, th, _, _, ws[i], rfl, rfl, .inl (.inl hw1), at_of (j := i) (by omega) (List.getElem?_eq_getElem hi), _, rfl, false, t, s, ys, ps, d, rfl, .inr (.inl (.inl hs1)), nk1, dx, ?_⟩
          refine hR _ _ (fun e p np => ?_) (fun e => ⟨rfl, fun j d2 hj h2 => ?_⟩)
          · have e : (!inPs ps d) = true := e
            refine ⟨_, rfl, rfl, true, rfl, iteT ?_⟩
            refine ⟨_, rfl, sz (by show 2 ≤ 1000; decide), fun r nr => ?_⟩
            have s1 := same_upd (o := .tup [.int (0 + (i : Int))]) np
            have s2 := same_upd (o := .tup [.str "saying", .ref p]) nr
            refine q1 r p _ [i] _ (g1.trans (.of_same (s1.trans s2) g1.2)) (rf_say hd (by simpa using e) al) upd_same ?_
            rw [s2 _ _ upd_same, Int.zero_add]
            rfl
          · have e : (!inPs ps d) = false := e
            rcases Nat.lt_succ_iff_lt_or_eq.mp hj with h | rfl
            · exact al j d2 h h2
            · rw [hd] at h2
              cases h2
              simpa using e
        · rintro H' ⟨rfl, al⟩
          obtain ⟨wp, rfl, sub⟩ := all_in fun j d hd => al j d (by have := (List.getElem?_eq_some_iff.mp hd).1; omega) hd
          rw [List.length_map] at ld l900
          have lw : ws.length = wp.length := ld
          have nw1 := dqs_say da1
          have wpn : wp ≠ [] := fun z => wsn (List.length_eq_zero_iff.mp (by rw [lw, z]; rfl))
          have efl := rf_in wpn sub
          refine ⟨_, rfl, rfl, false, rfl, iteF ?_⟩
          refine ⟨_, rfl, g1.2.lam _ mT, fun H2 md2 => ?_⟩
          have g2a := Gk.made g1.2 mT md2
          have g2 := g1.trans g2a
          have hw2 := g2.tup hw
          have nw2 := nw1.at g2a.tups
          refine ⟨th, ws, fun i H' => H' = H2 ∧ ∀ (j : Nat) (x y : Str × Str), j < i → wp[j]? = some x → atI wp ((j : Int) - 1) = some y → x.1 = y.2, rfl, .inr (.inl (.inl hw2)), by omega, ⟨rfl, fun j x y h => by omega⟩, ?_, ?_⟩
          · rintro i H' hi ⟨rfl, ch⟩
            have hi2 : i < wp.length := by omega
            obtain ⟨x, hx⟩ : ∃ p, wp[i]? = some p := ⟨wp[i], List.getElem?_eq_getElem hi2⟩
            obtain ⟨y, hy, hyy⟩ := say_at nw2 hx
            have ep := at_prev wp hi2
            have ej : (if i = 0 then wp.length - 1 else i - 1) < wp.length := by split <;> omega
            obtain ⟨x2, hx2⟩ : ∃ p, wp[if i = 0 then wp.length - 1 else i - 1]? = some p := ⟨_, List.getElem?_eq_getElem ej⟩
            obtain ⟨y2, hy2, hyy2⟩ := say_at nw2 hx2
            have eq2 : atI ws ((0 + (i : Int)) - 1) = some (.ref y2) := by
              rw [show (0 + (i : Int)) - 1 = (i : Int) - 1 by omega, at_prev ws hi, lw]
              exact hy2
            rw [hx2] at ep
            refine ⟨fun _ _ e => e, fun R hR => ?_⟩
            refine ⟨_, rfl, _, rfl, th, _, _, .ref y, rfl, rfl, .inl (.inl hw2), at_of (j := i) (by omega) hy, y, _, 0, .str x.1, rfl, rfl, .inl (.inl hyy), rfl, _, rfl, _, rfl, _, _, rfl, rfl, th, _, _, .ref y2, rfl, rfl, .inl (.inl hw2), eq2, y2, _, 1, .str x2.2, rfl, rfl, .inl (.inl hyy2), rfl, rfl, ?_⟩
            refine hR _ _ (fun e p np => ?_) (fun e => ⟨rfl, fun j u v hj hu hv => ?_⟩)
            · have nx : x.1 ≠ x2.2 := fun h => by rw [h] at e; simp at e
              refine ⟨_, rfl, rfl, true, rfl, iteT ?_⟩
              refine ⟨_, rfl, sz (by show 2 ≤ 1000; decide), fun r nr => ?_⟩
              have s1 := same_upd (o := .tup [.int (0 + (i : Int))]) np
              have s2 := same_upd (o := .tup [.str "link", .ref p]) nr
              refine q1 r p _ [i] _ (g2.trans (.of_same (s1.trans s2) g2.2)) (efl.trans (lf_link hx ep nx ch)) upd_same ?_
              rw [s2 _ _ upd_same, Int.zero_add]
              rfl
            · rcases Nat.lt_succ_iff_lt_or_eq.mp hj with h | rfl
              · exact ch j u v h hu hv
              · rw [hx] at hu
                rw [ep] at hv
                cases hu
                cases hv
                simpa using e
          · rintro H' ⟨rfl, ch⟩
            rw [lw] at ch
            refine ⟨_, rfl, rfl, false, rfl, iteF ?_⟩
            refine ⟨_, rfl, th, rfl, ⟨_, .inl (.inl hw2)⟩, fun D nD => ?_⟩
            refine lc_tup (xs := ws) (fun j Hz => Hz = upd H' D (.lst (((wp.take j).map (·.1)).map V.str))) (by rw [List.take_zero]; rfl) (fun j Hz hj e => by rw [e]; exact .inl (.inl (same_upd nD _ _ hw2))) ?_ ?_
            · rintro j v Hz hv rfl
              have hj := (List.getElem?_eq_some_iff.mp hv).1
              obtain ⟨p, hp⟩ : ∃ p, wp[j]? = some p := ⟨wp[j]'(by omega), List.getElem?_eq_getElem _⟩
              obtain ⟨y, hy, hyy⟩ := say_at (nw2.at (.same (same_upd (o := .lst (((wp.take j).map (·.1)).map V.str)) nD))) hp
              rw [hv] at hy
              cases hy
              refine ⟨rfl, tYesT ⟨_, rfl, y, _, 0, .str p.1, rfl, rfl, .inl (.inl hyy), rfl, _, upd_same, small1000 (by rw [List.length_map, List.length_map, List.length_take]; omega), ?_⟩⟩
              show _ = upd _ _ _
              rw [upd_upd', List.take_add_one, hp, List.map_append, List.map_append]
              rfl
            · rintro Hz rfl
              rw [lw, List.take_of_length_le (Nat.le_refl _)]
              have sD := same_upd (o := .lst ((wp.map (·.1)).map V.str)) nD
              have g3 := g2.trans (.of_same sD g2.2)
              have hD := upd_same (H := H') (a := D) (o := .lst ((wp.map (·.1)).map V.str))
              generalize upd H' D (.lst ((wp.map (·.1)).map V.str)) = H3 at g3 hD ⊢
              refine ⟨_, rfl, g3.2.lam _ mT, fun H4 md4 => ?_⟩
              have g34 := Gk.made g3.2 mT md4
              have g4 := g3.trans g34
              have hw4 := g4.tup hw
              have hD4 := g34.1 _ _ hD (fun ps z => by cases z)
              refine ⟨th, ws, fun i Hy => Same H4 Hy ∧ Gk (tbs T) H Hy ∧ ((wp.map (·.1)).take i).Nodup, rfl, .inr (.inl (.inl hw4)), by omega, ⟨fun _ _ e => e, g4, by rw [List.take_zero]; exact List.nodup_nil⟩, ?_, ?_⟩
              · rintro i Hy hi ⟨sy, gy, ndi⟩
                have hi2 : i < wp.length := by omega
                obtain ⟨x, hx⟩ : ∃ x, wp[i]? = some x := ⟨_, List.getElem?_eq_getElem hi2⟩
                have hz : (wp.map (·.1))[i]? = some x.1 := by rw [List.getElem?_map, hx]; rfl
                have hz2 : ((wp.map (·.1)).map V.str)[i]? = some (V.str x.1) := by rw [List.getElem?_map, hz]; rfl
                have hDy := sy _ _ hD4
                refine ⟨sy, fun R hR => ?_⟩
                have ecut : cutV ((wp.map (·.1)).map V.str) none (some (0 + (i : Int))) = (((wp.map (·.1)).take i).map V.str) := by
                  rw [List.map_take]
                  exact cut_nat (by omega) (by rw [List.length_map, List.length_map]; omega)
                refine ⟨_, rfl, _, rfl, D, _, _, .str x.1, rfl, rfl, .inl (.inl hDy), at_of (j := i) (by omega) hz2, _, rfl, _, rfl, 0 + (i : Int), rfl, D, _, rfl, .inl (.inl hDy), fun S nS => ?_⟩
                rw [ecut]
                have sS := same_upd (o := .lst (((wp.map (·.1)).take i).map V.str)) nS
                refine ⟨S, _, rfl, .inl (.inl (.inl upd_same)), rfl, flat_strs _, ?_⟩
                have iv := inV_strs x.1 ((wp.map (·.1)).take i)
                refine hR _ _ (fun e p np => ?_) (fun e => ⟨sy.trans sS, gy.trans (.of_same sS gy.2), ?_⟩)
                · have e : inV (.str x.1) (((wp.map (·.1)).take i).map V.str) = true := e
                  rw [iv] at e
                  have mz := of_decide_eq_true e
                  refine ⟨_, rfl, rfl, true, rfl, iteT ?_⟩
                  refine ⟨_, rfl, sz (by show 2 ≤ 1000; decide), fun r nr => ?_⟩
                  have s1 := same_upd (o := .tup [.int (0 + (i : Int))]) np
                  have s2 := same_upd (o := .tup [.str "twice", .ref p]) nr
                  refine q1 r p _ [i] _ (gy.trans (.of_same (sS.trans (s1.trans s2)) gy.2)) (efl.trans (lf_twice ch hx mz ndi)) upd_same ?_
                  rw [s2 _ _ upd_same, Int.zero_add]
                  rfl
                · have e : inV (.str x.1) (((wp.map (·.1)).take i).map V.str) = false := e
                  rw [iv] at e
                  have mz := of_decide_eq_false e
                  rw [List.take_add_one, hz, List.nodup_append]
                  refine ⟨ndi, by simp, fun a ha b hb q => mz ?_⟩
                  have eb : b = x.1 := by simpa using hb
                  rw [← eb, ← q]
                  exact ha
              · rintro Hy ⟨sy, gy, ndi⟩
                refine ⟨_, rfl, rfl, false, rfl, iteF ?_⟩
                rw [lw, List.take_of_length_le (by rw [List.length_map]; exact Nat.le_refl _)] at ndi
                exact q0 Hy gy (efl.trans (lf_none ch ndi))
    · rw [Bool.eq_false_iff.mpr kq]
      refine iteT ?_
      refine ⟨sz (by show 0 ≤ 1000; decide), fun c0 n0 => ⟨sz (by show 2 ≤ 1000; decide), fun r nr => ?_⟩⟩
      have s1 := same_upd (o := .tup []) n0
      have s2 := same_upd (o := .tup [.str "shape", .ref c0]) nr
      exact q1 r c0 _ [] _ (.of_same (s1.trans s2) hB) (rf_other fun ds z => kq (by rw [z]; rfl)) upd_same (s2 _ _ upd_same)
end
end L45

set_option Elab.async false
set_option linter.all false
set_option maxRecDepth 100000
set_option maxHeartbeats 2000000
/-! enumerate(tuple) as what is walked -/
namespace My
open PySem PySem.Spec PyProof.Rows L2
section
open Sem (wp)
open AutoSeq1 (wpAny_loadPart')
theorem enum_newT (l : Addr) (items : Array Value) (n : Nat) (dct : Option Addr) (sl : Array (Option Value)) :
    Meets (Builtin.«enumerate.__new__» ⟨[.type "enumerate", .ref l], []⟩) (fun _ R s => s.heap.get? l = some { cls := .type "tuple", dict := dct, data := .seq items n, slots := sl } ∧
      R (.ok (.ret (.ref (s.heap.push { cls := .type "tuple_iterator", data := .fields #[.ref l, .int 0 0] }).objs.size)))
        { s with heap := (s.heap.push { cls := .type "tuple_iterator", data := .fields #[.ref l, .int 0 0] }).push { cls := .type "enumerate", data := .fields #[.none, .bool false, .ref s.heap.objs.size, rawInt 0, .none, .none] } }) :=
  .of_wp fun prog w A R s h => by
    obtain ⟨hp, g, d, tk, os⟩ := s; obtain ⟨hl, h⟩ := h
    have hsub := sub_enumerate
    have hL : Heap.IsTuple (Shared.heap ⟨hp, g, d, tk, os⟩) l items := ⟨_, hl, rfl, n, rfl⟩
    wp_walk using wpAny_loadPart' hl
    refine wpAny_stack_any fun st => wpAny_pure ?_
    split
    · rename_i c _ _ _ _ _
      cases (c == Value.type "enumerate")
      · wp_walk using wpAny_loadPart' hl, wpAny_pyIter_tuple hL
        exact ⟨_, rfl, h⟩
      · wp_walk using wpAny_loadPart' hl, wpAny_pyIter_tuple hL
        exact ⟨_, rfl, h⟩
    · wp_walk using wpAny_loadPart' hl, wpAny_pyIter_tuple hL
      exact ⟨_, rfl, h⟩
end
section
variable {prog : Program} {w : World} {A : Around} {E : Value → Shared → Prop} {s : Shared}
theorem call_enumT {l : Addr} {items : Array Value} {Q : Value → Shared → Prop} (hL : s.heap.IsTuple l items)
    (h : ∀ h', IsEnum h' (s.heap.objs.size + 1) s.heap.objs.size 0 .none → h'.IsTupleIter s.heap.objs.size l 0 → h'.objs.size = s.heap.objs.size + 2 →
      (∀ b o, s.heap.get? b = some o → h'.get? b = some o) → Q (.ref (s.heap.objs.size + 1)) { s with heap := h' }) :
    wpAny (model prog w) A (call (.type "enumerate") [.ref l]) Q E s := by
  obtain ⟨⟨c, dct, dt, sl⟩, hl, hc, n, hd⟩ := hL
  replace hc : c = .type "tuple" := hc
  replace hd : dt = .seq items n := hd
  subst hc hd
  refine callType_new F.called_enumerate (by decide) (F.typeCall_enumerate_1 _) (F.newCall_enumerate_1 _) (fun obj => F.args_object_init_2 obj _) F.entry_enumerate_new
    (enum_newT l items n dct sl) ⟨hl, ?_⟩
  have hz : (s.heap.push { cls := .type "tuple_iterator", data := .fields #[.ref l, .int 0 0] }).objs.size = s.heap.objs.size + 1 := Heap.size_push ..
  show _ ∧ _
  rw [hz]
  have he : IsEnum ((s.heap.push { cls := .type "tuple_iterator", data := .fields #[.ref l, .int 0 0] }).push
      { cls := .type "enumerate", data := .fields #[.none, .bool false, .ref s.heap.objs.size, rawInt 0, .none, .none] }) (s.heap.objs.size + 1) s.heap.objs.size 0 .none := by
    have := Heap.get?_push_size (s.heap.push { cls := .type "tuple_iterator", data := .fields #[.ref l, .int 0 0] })
      (o := { cls := .type "enumerate", data := .fields #[.none, .bool false, .ref s.heap.objs.size, rawInt 0, .none, .none] }) rfl
    rw [hz] at this; exact this
  refine ⟨⟨_, he, rfl⟩, h _ he ⟨_, Heap.get?_push_of_some _ (Heap.get?_push_size _ rfl), rfl, rfl⟩ (by rw [Heap.size_push, hz]) fun b o x => Heap.get?_push_of_some _ (Heap.get?_push_of_some _ x)⟩
end
/-- the tuple at a as it stands at each turn, each item in a new pair -/
def IteT (K : PySem.W.Frag) (a : Addr) : It :=
  ⟨fun i H => ∃ (xs : List V) (x : V), SqT K H a xs ∧ xs[i]? = some x, fun i H v H' => ∃ T x, v = .ref T ∧ H T = none ∧ H' = upd H T (.tup [.int (i : Nat), x]) ∧ ∀ xs, SqT K H a xs → xs[i]? = some x, fun i H => ∃ xs : List V, SqT K H a xs ∧ xs.length = i⟩
theorem turn_enumT {P : Program} {w : World} {K : PySem.W.Frag} {elts : List Expr} {kk : Nat} {tpos : Pos} (a e it : Addr) (ai : a ≠ it) (ea : e ≠ a) :
    Turn P w K (.Tuple elts kk tpos) (IteT K a) [e, it] e (fun i h => (∃ old, IsEnum h e it ((i : Nat) : Int) old) ∧ h.IsTupleIter it a i ∧ e ≠ it) where
  mem := by simp
  obj := fun i h st b hb => by
    obtain ⟨⟨old, he⟩, ⟨o, ho, hc, hd⟩, _⟩ := st
    have e' : b = e ∨ b = it := by simpa using hb
    rcases e' with z | z
    · rw [z]; exact ⟨_, he, fun v q => nomatch q⟩
    · rw [z]; exact ⟨o, ho, fun v q => by rw [hd] at q; cases q⟩
  keep := fun i h h' st k => let ⟨⟨old, he⟩, hi, hne⟩ := st; ⟨⟨old, k e (by simp) _ he⟩, hi.at fun o q => k it (by simp) o q, hne⟩
  item := by
    intro X hP hw hK hc i pins s σ H E I hf st hg
    subst hP hw hK
    obtain ⟨⟨old, he⟩, hit, hne⟩ := st
    obtain ⟨xs, x, hq, hx⟩ := hg
    obtain ⟨its, rv, p, hz⟩ := I.tuple hq
    obtain ⟨u, hu, ru⟩ := rv.get hx
    have hel : e < s.heap.objs.size := Heap.lt_size he
    have hil : it < s.heap.objs.size := by obtain ⟨_, q, _⟩ := hit; exact Heap.lt_size q
    have D := Draws.tuple (prog := X.prog) (w := X.w) (A := X.A.in1) (I.ok.hd hc) it a ai its.toArray
    refine wpAny_pyNext_enum_itemD D he ⟨hit, p⟩ (by rw [List.size_toArray]; exact (List.getElem?_eq_some_iff.mp hu).1) hne (by simp; exact ⟨hne, ea⟩) fun x2 h' tk hpx ho hst hT hsz hk => ?_
    have ex : x2 = u := by
      rw [List.getElem?_toArray, hu] at hpx
      exact (Option.some.inj hpx).symm
    subst ex
    have hit' := hst.1
    refine ⟨_, rfl, wpAny_letOwnedTupleGo_enum (s := { s with heap := h', toks := tk + 1 }) ho fun h'' he' sb => ?_⟩
    have hT2 : h''.get? s.heap.objs.size = some { cls := .type "tuple", data := .seq #[.int i tk, x2] } := (sb.2 _ (Nat.ne_of_gt hel)).trans hT
    have new : ObjOk X.prog X.w (upd H s.heap.objs.size (.tup [.int (i : Nat), x])) h'' s.heap.objs.size (.tup [.int (i : Nat), x]) :=
      ⟨by show 2 ≤ sizeLine; decide, [.int i tk, x2], .cons ⟨_, rfl⟩ (.cons ru .nil), ⟨_, hT2, rfl, _, rfl⟩⟩
    have I1 : Inv X pins σ (upd H s.heap.objs.size (.tup [.int (i : Nat), x])) { s with heap := h'', toks := tk + 1 } :=
      I.turnedNew (ch := [e, it]) (fun b ob hb q => (sb.2 b (fun z => hb (by simp [z]))).trans (hk b ob (fun z => hb (by simp [z])) (fun z => hb (by simp [z])) q)) hf (Nat.le_refl _) new
    refine ⟨.ref s.heap.objs.size, _, I1, rfl, ⟨_, x, rfl, I.hok.fresh (Nat.le_refl _), rfl, fun ys hy => by rw [I.tuple_inj hy hq]; exact hx⟩, ⟨⟨x2, ?_⟩, hit'.at fun o q => (sb.2 it (Ne.symm hne)).trans q, hne⟩, fun b hb => ?_⟩
    · have e1 : ((i + 1 : Nat) : Int) = (i : Int) + 1 := by omega
      rw [e1]; exact he'
    · have hb' : b < s.heap.objs.size := by
        have e' : b = e ∨ b = it := by simpa using hb
        rcases e' with z | z
        · rw [z]; exact hel
        · rw [z]; exact hil
      rw [upd_ne (Nat.ne_of_lt hb')]
      exact (hf b hb).1
  done := by
    intro X hP hw hK hc i pins s σ H E I hf st hg
    subst hP hw hK
    obtain ⟨⟨old, he⟩, hit, hne⟩ := st
    obtain ⟨xs, hq, hx⟩ := hg
    obtain ⟨its, rv, p, hz⟩ := I.tuple hq
    obtain ⟨f0, f1, f2, f3, f4, f5⟩ := hf it (by simp)
    have hl := rv.length
    have D := Draws.tuple (prog := X.prog) (w := X.w) (A := X.A.in1) (I.ok.hd hc) it a ai its.toArray
    have ei : i = its.toArray.size := by rw [List.size_toArray]; omega
    subst ei
    exact wpAny_pyNext_enum_endD D he ⟨hit, p⟩ fun h' eb => ⟨rfl, I.turned (t' := s.toks) (fun b o hb q => eb b o hb q) f0 f1 f3 f4 f5⟩
  self := fun A i s Q E st h => let ⟨⟨_, he⟩, _⟩ := st; wpAny_pyIter_enum he h
def iEnumT (K : PySem.W.Frag) (ta : TA) : TI := fun σ H R => ta σ H fun vs H1 => ∃ a xs, vs = [.ref a] ∧ SqT K H1 a xs ∧ R (IteT K a) H1
theorem pi_enumT {X : Cx} {e : Expr} {ta : TA} {p pos tpos : Pos} {elts : List Expr} {kk : Nat} (hg : Gl X "enumerate") (hm : X.mg "enumerate" = none) (ha : PA X [e] ta) (hs : starEach [e] X.env = [(false, eval e X.env)] := by rfl) :
    PI X (.Tuple elts kk tpos) (.Call (.Name "enumerate" p) [e] [] pos) (iEnumT X.K ta) := by
  refine ⟨fun pins s σ H R I h => ?_⟩
  refine Call_ (ld_blt I hg hm boot_enumerate (PyProof.Rows.callWith_type1 (thn (ha.run pos pins s σ H _ I h) fun us s1 ⟨vs, H1, I1, r1, q1⟩ => ?_) hs rfl))
  obtain ⟨a, xs, ex, hq, q⟩ := q1
  subst ex
  cases r1 with
  | cons r rr =>
    cases rr
    cases r
    obtain ⟨its, rv, p', hz⟩ := I1.tuple hq
    have al : a < s1.heap.objs.size := by obtain ⟨o, h1, _⟩ := p'; exact Heap.lt_size h1
    refine call_enumT p' fun h' he hit hsz hk => wpAny_pyIter_enum he ?_
    have I2 : Inv X pins σ H1 { s1 with heap := h' } := I1.kept (t' := s1.toks) hk
    refine ⟨s1.heap.objs.size + 1, [s1.heap.objs.size + 1, s1.heap.objs.size], _, _, H1, rfl, I2, turn_enumT a (s1.heap.objs.size + 1) s1.heap.objs.size (Nat.ne_of_lt al) (Nat.ne_of_gt (Nat.lt_succ_of_lt al)), ⟨⟨.none, he⟩, hit, Nat.succ_ne_self _⟩, fun b hb => ?_, q⟩
    have e' : b = s1.heap.objs.size + 1 ∨ b = s1.heap.objs.size := by simpa using hb
    have hle : s1.heap.objs.size ≤ b := by
      rcases e' with z | z
      · rw [z]; exact Nat.le_add_right _ _
      · rw [z]; exact Nat.le_refl _
    exact I1.fpOk hle (I1.hok.fresh hle)
theorem walk_enumT {K : PySem.W.Frag} {a : Addr} {xs : List V} : Walk (IteT K a) xs.length (fun H => SqT K H a xs) (YPair (fun i => some (.int (i : Nat))) (fun i => xs[i]?)) := by
  refine ⟨fun i _ hi q => ⟨xs, xs[i], q, by simp [hi]⟩, fun _ q => ⟨xs, q, rfl⟩, fun i H v H' _ q y => ?_⟩
  obtain ⟨T, x, h1, h2, h3, h4⟩ := y
  exact ⟨T, .int (i : Nat), x, h1, h2, h3, rfl, h4 xs q⟩
end My

set_option Elab.async false
set_option linter.all false
set_option maxRecDepth 100000
set_option maxHeartbeats 2000000
/-! list.extend(tuple). -/
namespace My
open PySem PySem.Spec PyProof.Rows L2
section
open PySem.AutoSeq1 (wpAny_loadPart')
open PySem.AutoSeq1
theorem extend_tup (l : Addr) (items : Array Value) (n : Nat) (b : Addr) (items2 : Array Value) (n2 : Nat) (dd : Option Addr) (sl : Array (Option Value)) (hs0 : ¬(!items.isEmpty && Builtin.List.listTooLong (items.size + items2.size)) = true) (hs1 : items.size ≤ sizeLine) (hs2 : items.size + items2.size ≤ sizeLine + 1) :
    Meets (Builtin.«list.extend» ⟨[.ref l, .ref b], []⟩) (fun _ R s => s.heap.get? l = some { cls := .type "list", dict := none, data := .seq items n, slots := #[] } ∧ s.heap.get? b = some { cls := .type "tuple", dict := dd, data := .seq items2 n2, slots := sl } ∧ R (.ok (.ret Value.none)) { s with heap := s.heap.update l (Obj.mapSeq fun x => x ++ items2), toks := s.toks }) :=
  .of_wp fun prog w A R s h => by
    obtain ⟨hp, g, d, tk, os⟩ := s; obtain ⟨hl, hb, h⟩ := h; have f1 := F.sub_tuple_tuple; have f2 := F.sub_list_list; have f3 := F.sub_tuple_list; have f4 := F.sub_list_tuple;
    have hz' : (items ++ items2).size ≤ sizeLine + 1 := by rw [Array.size_append]; exact hs2
    wp_walk using (wpAny_updateSeq hl rfl (hz := hs1) (_hz' := hz')), wpAny_loadPart' hl, wpAny_loadPart' hb; exact ⟨_, rfl, h⟩
end
section
variable {X : Cx} {K1 : PySem.W.Frag}
def rExtT (K : PySem.W.Frag) : V → List V → Hp → VK → Prop := fun x vs H Q => ∃ l b xs zs, x = .ref l ∧ vs = [.ref b] ∧ H l = some (.lst xs) ∧ SqT K H b zs ∧ xs.length + zs.length ≤ sizeLine ∧ Q .non (upd H l (.lst (xs ++ zs)))
theorem mt_extT (hK : X.K = K1) : MtM X "list.extend" (rExtT K1) := by
  subst hK
  intro pins s σ H x vs v us Q I rx rv h
  obtain ⟨l, b, xs, zs, rfl, rfl, hH, hB, hz, q⟩ := h
  cases rx
  obtain ⟨u, rfl, ru⟩ := rv.one
  cases ru
  obtain ⟨z, its, n, r, hl, e⟩ := I.lstM hH
  obtain ⟨its2, r2, ⟨⟨cls, dd, data, sl⟩, e2, hc, n2, hd⟩, hl2⟩ := I.tuple hB
  have hc : cls = .type "tuple" := hc
  have hd : data = .seq its2.toArray n2 := hd
  subst hc hd
  have l1 := r.length
  have l2 := r2.length
  have hsz : its.toArray.size + its2.toArray.size ≤ sizeLine := by rw [List.size_toArray, List.size_toArray]; omega
  have hlong : ¬ (!its.toArray.isEmpty && Builtin.List.listTooLong (its.toArray.size + its2.toArray.size)) = true := by
    have : Builtin.List.listTooLong (its.toArray.size + its2.toArray.size) = false := by
      simp only [Builtin.List.listTooLong, decide_eq_false_iff_not]
      omega
    rw [this, Bool.and_false]
    exact Bool.false_ne_true
  refine call_meets F.slot_list_extend ⟨_, e, rfl⟩ F.entry_list_extend (F.args_list_extend_2 _ _)
    (extend_tup l its.toArray n b its2.toArray n2 dd sl hlong (by rw [List.size_toArray]; omega) (by omega)) ⟨e, e2, ?_⟩
  refine ⟨.non, _, I.lset (its' := its ++ its2) hH e (by simp) (r.append r2) ?_, rfl, q⟩
  rw [List.length_append]
  omega
end
end My

set_option Elab.async false
set_option linter.all false
set_option maxRecDepth 100000
set_option maxHeartbeats 2000000
namespace L45
open PySem PySem.Spec PyProof.Rows L2 LT
open My hiding Tbs Gk Tk
section
variable {P : Program} {w : World} {K : PySem.W.Frag} {mg : Str → Option Value} {base : Heap}
theorem mt_extK {X : Cx} : MtM X "list.extend" (rExtT X.K) := mt_extT rfl
def spIsR (T : Tx K mg) : Sp := fun vs H Q _ => ∃ (s t : Addr) (v : V) (ys : List V) (ps : List (Str × Str)) (d : PyData), vs = [.ref s, v] ∧ H s = some (.tup ys) ∧ NkAll H ys (ps.map sayK) ∧ Dq false t H v d ∧ (∀ ds, d = .tuple ds → ds.length ≤ 900) ∧ Tbs (tbs T) H ∧ ∀ H', Gk (tbs T) H H' → Q (.bl (ringB ps d)) H'
theorem ok_isr (T : Tx K mg) (B : Tb T base) : FnOk P w K mg base CX0 4 T.f_is_ring T.d_is_ring ["some", "thing"] (spIsR T) := by
  have G_ring_fault : FnOk P w K mg base CX0 3 T.f_ring_fault T.d_ring_fault ["some", "thing"] (spRFX T) := ok_rfx T B
  refine T.F_is_ring.ok S_is_ring (fun vs H Q E h => ?_) (fun cdv A outer s0 H vs Q E hr h => ?_)
  · obtain ⟨s, t, v, ys, ps, d, rfl, _⟩ := h
    rfl
  · obtain ⟨s, t, v, ys, ps, d, rfl, hs, nk, dq, few, hB, q⟩ := h
    refine ⟨_, (pss_one (ps_ret (pe_cmpR op_isN (pe_call G_ring_fault hr (by rfl) T.g_ring_fault T.F_ring_fault.kp T.b_ring_fault .nil pass0 (pa_cons (pv 0) (pa_cons (pv 1) pa_nil))) pe_non (nomark _)))), ?_⟩
    refine ⟨_, rfl, _, rfl, s, t, v, ys, ps, d, rfl, hs, nk, dq, few, hB, fun H1 g1 e => ?_, fun r pth wd us H1 g1 e _ _ => ?_⟩
    · have := q H1 g1
      rw [rf_ringB, e] at this
      refine ⟨rfl, ?_⟩
      rw [decide_eq_true rfl]
      exact this
    · have := q H1 g1
      rw [rf_ringB, e] at this
      refine ⟨rfl, ?_⟩
      rw [decide_eq_false (fun z => by cases z)]
      exact this
theorem gk_list {Ts : LT.TL} {H H1 : Hp} {p : Addr} {o : HO} {xs : List V} (hp : H p = none) (g : Gk Ts H H1) (e : H1 p = some (.lst xs)) : Gk Ts H (upd H1 p o) := ⟨fun b x h hn => by
  rw [upd_ne (ne_of_none h hp)]
  exact g.1 b x h hn, g.2.lst e⟩
/-- the place's ring has a saying of one ahead of it -/
def commonB (wps : List (List (Str × Str))) (k : Nat) : Bool := match wps[k]? with
  | some wp => wp.any fun p => decide (p ∈ (wps.take k).flatten)
  | none => false
theorem commonB_at {wps : List (List (Str × Str))} {k : Nat} {wp : List (Str × Str)} (h : wps[k]? = some wp) : commonB wps k = wp.any fun p => decide (p ∈ (wps.take k).flatten) := by
  unfold commonB
  rw [h]
def ringsD (wps : List (List (Str × Str))) : List PyData := wps.map fun wp => .tuple (wp.map sayD)
def spCommon (T : Tx K mg) : Sp := fun vs H Q _ => ∃ (a t : Addr) (us : List V) (wps : List (List (Str × Str))), vs = [.ref a] ∧ H a = some (.tup us) ∧ DqAll false t H us (ringsD wps) ∧ (∀ wp ∈ wps, wp.length ≤ 50) ∧ wps.length ≤ 50 ∧ Tbs (tbs T) H ∧
  (∀ H', Gk (tbs T) H H' → firstIx wps.length (commonB wps) = none → Q .non H') ∧ ∀ k H', Gk (tbs T) H H' → firstIx wps.length (commonB wps) = some k → Q (.int (k : Nat)) H'
theorem ok_common (T : Tx K mg) (B : Tb T base) : FnOk P w K mg base CX0 2 T.f_first_common T.d_first_common ["rings"] (spCommon T) := by
  refine T.F_first_common.ok S_first_common (fun vs H Q E h => ?_) (fun A outer s0 H vs Q E hr h => ?_)
  · obtain ⟨a, t, us, wps, rfl, _⟩ := h
    rfl
  · obtain ⟨a, t, us, wps, rfl, ha, dq, l50, n50, hB, q0, q1⟩ := h
    refine ⟨_, (pss_cons (ps_set (i := 3) S_first_common.nd rfl (.inr rfl) (pe_lst pa_nil))
      (pss_cons (ps_for PassesOwn.never rfl (pi_enumT (by rfl) T.m_enumerate (pa_cons (pv 0) pa_nil)) (pg_tup rfl (pgs_cons (pg_name (i := 1) S_first_common.nd rfl (.inl rfl)) (pgs_cons (pg_name (i := 2) S_first_common.nd rfl (.inl rfl)) pgs_nil)))
      (pss_cons (ps_if (pt_val (GE.pe_anyG (own := [("saying", 4)]) (g := gName 4) (tt := tYes) (by rfl) S_first_common.nd hr (by rfl) T.m_any B.b_first_common rfl ⟨blkOk_by (own := [("saying", 4)]) (N := N_first_common) (sc := defScope s_first_common) (by decide +kernel), rfl, (by decide +kernel), (by decide +kernel)⟩ (pi_tup (pv 2)) (fun _ _ _ _ _ _ hr => (pg_name (i := 4) S_first_common.nd rfl (.inl rfl))) (fun _ _ _ _ _ _ hr => pts_nil) (fun _ _ _ _ _ _ hr => (pe_cmpR (r := rInN K false) (op_inN hr.units) (pv 4) (pv 3) (by rfl))))) (pss_one (ps_ret (pv 1))) pss_nil)
      (pss_one (ps_expr (pe_bm PySem.F.plainAttrs_list PySem.F.slot_list_extend PySem.F.type_list_extend mt_extK (pv 3) (pa_cons (pv 2) pa_nil))))))
      (pss_one (ps_ret pe_non)))), ?_⟩
    refine ⟨sz (by show 0 ≤ 1000; decide), fun M nM => ?_⟩
    refine fresh_fin (.lst []) nM fun H0 s0 h0 => ?_
    have lu : us.length = wps.length := by have := dq.length; unfold ringsD at this; rw [List.length_map] at this; exact this
    refine ⟨_, rfl, a, us, rfl, .inl (.inl (s0 _ _ ha)), ?_⟩
    refine for_it (walk_enumT (xs := us)) (fun i σ Hx => (∃ y2 y3 y4, σ = [some (.ref a), y2, y3, some (.ref M), y4]) ∧ Gk (tbs T) H Hx ∧ (∃ ms, Hx M = some (.lst ms) ∧ NkAll Hx ms ((wps.take i).flatten.map sayK)) ∧ ∀ j, j < i → commonB wps j = false) ⟨⟨_, _, _, rfl⟩, .of_same s0 hB, ⟨[], h0, .nil⟩, fun j hj => by omega⟩ (fun i σ Hx _ h => .inl (.inl (h.2.1.tup ha))) ?_ ?_
    · rintro i x σ H3 H4 hi ⟨⟨y2, y3, y4, rfl⟩, gx, ⟨ms, hM, nkm⟩, no⟩ ⟨Tn, xk, xr, rfl, hn, rfl, h1, h2⟩
      have h1 : some (V.int (i : Nat)) = some xk := h1
      cases h1
      have h2 : us[i]? = some xr := h2
      have s5 := same_upd (o := .tup [V.int (i : Nat), xr]) hn
      refine ⟨Tn, _, rfl, .inl (.inl upd_same), rfl, _, _, rfl, _, _, rfl, rfl, ?_⟩
      have g5 := gx.trans (.of_same s5 gx.2)
      have hM5 := s5 _ _ hM
      have nkm5 := nkm.at (.same s5)
      generalize upd H3 Tn (.tup [V.int (i : Nat), xr]) = H5 at s5 g5 hM5 nkm5 ⊢
      obtain ⟨wp, hwp⟩ : ∃ wp, wps[i]? = some wp := ⟨_, List.getElem?_eq_getElem (by omega)⟩
      obtain ⟨dr, hdr, dqr⟩ := (DqAll.gk dq g5).get h2
      have edr : dr = .tuple (wp.map sayD) := by
        unfold ringsD at hdr
        rw [List.getElem?_map, hwp] at hdr
        exact (Option.some.inj hdr).symm
      subst edr
      obtain ⟨q, xs, rfl, qn, hq, da⟩ := dq_tuple_at dqr
      have hq : H5 q = some (.tup xs) := hq.elim id fun ⟨f, _⟩ => by cases f
      have nkr := dqs_say da
      have lx : xs.length = wp.length := by have := da.length; rw [List.length_map] at this; exact this
      have mwp := List.mem_of_getElem? hwp
      refine ⟨_, rfl, q, rfl, ⟨_, .inl (.inl hq)⟩, g5.2.gen _ (by simp [tbs]), fun H6 tab => ?_⟩
      have g6a := (Tk.of g5.2 (by simp [tbs]) tab).gk g5.2
      have g6 := g5.trans g6a
      have hq6 := g6a.tup hq
      have hM6 := g6a.1 _ _ hM5 (fun ps z => by cases z)
      have nkm6 := nkm5.at g6a.tups
      have nkr6 := nkr.at g6a.tups
      refine GE.ag_it (walk_tup (xs := xs)) (fun j Hx => Hx = H6 ∧ ∀ p ∈ wp.take j, p ∉ (wps.take i).flatten) ⟨rfl, fun p hp => by rw [List.take_zero] at hp; cases hp⟩ (fun j Hx _ e => by rw [e.1]; exact .inl (.inl hq6)) ?_ ?_
      · rintro j x H7 H8 hj ⟨rfl, al⟩ ⟨rfl, hx⟩
        obtain ⟨p, hp⟩ : ∃ p, wp[j]? = some p := ⟨_, List.getElem?_eq_getElem (by omega)⟩
        obtain ⟨y, hy, hyy⟩ := say_at nkr6 hp
        rw [hx] at hy
        cases hy
        refine ⟨rfl, tYesT ?_⟩
        refine ⟨_, rfl, _, rfl, M, ms, sayK p, _, rfl, .inl (.inl (.inl hM6)), nk_say hyy, nkm6, Nat.le_trans (say_depth p) (by decide), _, rfl, fun e => ?_, fun e => ⟨rfl, fun p2 hp2 => ?_⟩⟩
        · have e : decide (sayK p ∈ (wps.take i).flatten.map sayK) = true := e
          obtain ⟨p3, hp3, ep⟩ := List.mem_map.mp (of_decide_eq_true e)
          have := sayK_inj ep
          subst this
          refine ⟨_, rfl, iteT ?_⟩
          refine ⟨_, rfl, q1 i _ g6 (firstIx_some (by omega) ?_ no)⟩
          rw [commonB_at hwp]
          exact List.any_eq_true.mpr ⟨p3, List.mem_of_getElem? hp, decide_eq_true hp3⟩
        · have e : ¬ decide (sayK p ∈ (wps.take i).flatten.map sayK) = true := e
          rw [List.take_add_one, hp] at hp2
          rcases List.mem_append.mp hp2 with h | h
          · exact al p2 h
          · have : p2 = p := by simpa using h
            rw [this]
            exact fun m => e (decide_eq_true (List.mem_map_of_mem m))
      · rintro H7 ⟨rfl, al⟩
        rw [lx, List.take_of_length_le (Nat.le_refl _)] at al
        refine ⟨_, rfl, iteF ?_⟩
        have lm : ms.length ≤ 50 * i := by
          have e := nkm.length
          rw [List.length_map] at e
          rw [e]
          have : ∀ l : List (List (Str × Str)), (∀ wp ∈ l, wp.length ≤ 50) → l.flatten.length ≤ 50 * l.length := fun l => by
            induction l with
            | nil => intro _; exact Nat.le_refl _
            | cons a l ih =>
              intro h
              have := ih fun w hw => h w (.tail _ hw)
              have := h a (.head _)
              rw [List.flatten_cons, List.length_append, List.length_cons]
              omega
          have := this (wps.take i) fun w hw => l50 w (List.mem_of_mem_take hw)
          rw [List.length_take] at this
          omega
        have lw := l50 wp mwp
        refine ⟨_, rfl, .inl ⟨rfl, ms, .inl (.inl hM6)⟩, _, rfl, M, q, ms, xs, rfl, rfl, hM6, .inl (.inl hq6), Nat.le_trans (show ms.length + xs.length ≤ 4000 by omega) (by decide), ?_⟩
        refine ⟨⟨_, _, _, rfl⟩, gk_list nM g6 hM6, ⟨_, upd_same, ?_⟩, fun j hj => ?_⟩
        · rw [List.take_add_one, hwp, List.flatten_append, List.map_append]
          have := (nkm6.at (tups_lst (o := .lst (ms ++ xs)) hM6)).app (nkr6.at (tups_lst (o := .lst (ms ++ xs)) hM6))
          simpa using this
        · rcases Nat.lt_succ_iff_lt_or_eq.mp hj with h | rfl
          · exact no j h
          · rw [commonB_at hwp]
            refine Bool.eq_false_iff.mpr fun z => ?_
            obtain ⟨p, hp, e⟩ := List.any_eq_true.mp z
            exact al p hp (of_decide_eq_true e)
    · rintro σ Hx ⟨⟨y2, y3, y4, rfl⟩, gx, _, no⟩
      rw [lu] at no
      exact q0 Hx gx (firstIx_none no)
/-- the error's own __init__ -/
def spInit (C : Addr) : Sp := fun vs H Q _ => ∃ (a : Addr) (v u : V), vs = [.ref a, v, u] ∧ H a = some (exo a C none) ∧ ∀ dx, H dx = none → dx ≠ a → Q .non (upd (upd (upd H dx (exd dx [(("word" : Str), v)])) a (exo a C (some dx))) dx (exd dx [(("path" : Str), u), (("word" : Str), v)]))
theorem ok_init (T : Tx K mg) : FnOk P w K mg base CX0 1 T.f_NoPaper T.d_NoPaper ["self", "word", "path"] (spInit T.C_NoPaper) := by
  refine T.F_NoPaper.ok S_NoPaper (fun vs H Q E h => ?_) (fun cdv A outer s H vs Q E hr h => ?_)
  · obtain ⟨a, v, u, rfl, _⟩ := h
    rfl
  · obtain ⟨a, v, u, rfl, ha, q⟩ := h
    refine ⟨_, pss_cons (ps_ost (pv 0) (pv 1)) (pss_one (ps_ost (pv 0) (pv 2))), _, rfl, _, rfl, a, T.C_NoPaper, rfl, T.oex_NoPaper, T.no_NoPaper_word, .inl ⟨ha, fun dx n ne => ?_⟩⟩
    refine ⟨_, rfl, _, rfl, a, T.C_NoPaper, rfl, T.oex_NoPaper, T.no_NoPaper_path, .inr ⟨dx, [(("word" : Str), v)], upd_same, ?_, by show 1 ≤ 900; decide, ?_⟩⟩
    · rw [upd_ne ne]; exact upd_same
    · exact q dx n ne
theorem exc_same {H : Hp} {a d : Addr} {x y y2 z o : HO} (ha : H a = none) (hd : upd H a x d = none) (ne : d ≠ a) : Same H (upd (del (upd (upd (upd (upd H a x) d y) a z) d y2) a) d o) := fun b u e => by
  have h1 : b ≠ a := ne_of_none e ha
  have h2 : b ≠ d := fun w => by rw [← w, upd_ne h1, e] at hd; cases hd
  rw [upd_ne h2, del_ne h1, upd_ne h2, upd_ne h1, upd_ne h2, upd_ne h1]
  exact e
end
end L45

set_option Elab.async false
set_option linter.all false
set_option maxRecDepth 100000
set_option maxHeartbeats 2000000
/-! a thing of any kind == a text, != a text. -/
namespace My
open PySem PySem.Spec PyProof.Rows L2 PySem.SeqAt
theorem str_ne_declines_dict (b : Str) (u : Tok) (l : Addr) (o : Obj) (es : Array DictEntry) (n : Nat) (hd : o.data = .dict es n) :
    Meets (Builtin.«str.__ne__» ⟨[.str b u, .ref l], []⟩) (fun _ R s => s.heap.get? l = some o ∧ R (.ok (.ret .notImplemented)) s) := by
  obtain ⟨cls, dd, data, sl⟩ := o
  simp only at hd
  subst hd
  refine .of_wp fun prog w A R s h => ?_
  obtain ⟨hp, g, d, tk, os⟩ := s
  obtain ⟨hl, h⟩ := h
  wp_walk using wpAny_loadPart' hl, wpAny_load hl
  exact ⟨_, rfl, h⟩
theorem dict_ne_declines_str (b : Str) (u : Tok) (l : Addr) (o : Obj) (es : Array DictEntry) (n : Nat) (hc : o.cls = .type "dict") (hd : o.data = .dict es n) :
    Meets (Builtin.«dict.__ne__» ⟨[.ref l, .str b u], []⟩) (fun _ R s => s.heap.get? l = some o ∧ R (.ok (.ret .notImplemented)) s) := by
  obtain ⟨cls, dd, data, sl⟩ := o
  simp only at hd hc
  subst hd hc
  refine .of_wp fun prog w A R s h => ?_
  obtain ⟨hp, g, d, tk, os⟩ := s
  obtain ⟨hl, h⟩ := h
  wp_walk using wpAny_loadPart' hl, wpAny_load hl
  refine wpAny_of_eq (show isSubtype (.type "str") (.type "dict") = pure false by rw [isSubtype_type]; kernel_rfl) ?_
  rw [if_pos (by decide)]
  exact wpAny_bind (wpAny_rule (wpAny_pure ⟨_, rfl, h⟩))
section
variable {A : Around} {s : Shared}
theorem rc_dict_str {l : Addr} {o : Obj} {es : Array DictEntry} {n : Nat} (b : Str) (u : Tok) (ho : s.heap.get? l = some o) (hc : o.cls = .type "dict") (hd : o.data = .dict es n) (hu : A.units < cLine) : RcAt A s (.ref l) (.str b u) false := fun prog w E Q h =>
  rc_eq_decline_or (k := false) ⟨_, ho, hc⟩ (typeIs_str s b u) (by decide) (show isSubtype (.type "str") (.type "dict") = pure false by rw [isSubtype_type]; kernel_rfl) F.slot_dict_eq F.slot_str_eq_refl
    (fun _ hq => call_meets F.slot_dict_eq ⟨_, ho, hc⟩ F.entry_dict_eq (F.args_dict_eq_2 _ _) (dict_declines_str b u l o es n hc hd) ⟨ho, hq⟩)
    (fun _ hq => call_meets F.slot_str_eq_refl (typeIs_str s b u) F.entry_str_eq (F.args_str_eq_2 _ _) (str_declines_dict b u l o es n hd) ⟨ho, hq⟩)
    (fun _ hq => wpAny_of_eq (rfl : isSame (.ref l) (.str b u) = pure false) hq) (.inr hu) h
theorem ne_dict_str {l : Addr} {o : Obj} {es : Array DictEntry} {n : Nat} (b : Str) (u : Tok) (ho : s.heap.get? l = some o) (hc : o.cls = .type "dict") (hd : o.data = .dict es n) (hu : A.units < cLine) : RcNeAt A s (.ref l) (.str b u) true := fun prog w E Q h =>
  rc_ne_decline_or (k := false) ⟨_, ho, hc⟩ (typeIs_str s b u) (by decide) (show isSubtype (.type "str") (.type "dict") = pure false by rw [isSubtype_type]; kernel_rfl) F.slot_dict_ne F.slot_str_ne_refl
    (fun _ hq => call_meets F.slot_dict_ne ⟨_, ho, hc⟩ F.entry_dict_ne (F.args_dict_ne_2 _ _) (dict_ne_declines_str b u l o es n hc hd) ⟨ho, hq⟩)
    (fun _ hq => call_meets F.slot_str_ne_refl (typeIs_str s b u) F.entry_str_ne (F.args_str_ne_2 _ _) (str_ne_declines_dict b u l o es n hd) ⟨ho, hq⟩)
    (fun _ hq => wpAny_of_eq (rfl : isSame (.ref l) (.str b u) = pure false) hq) (.inr hu) h
theorem ne_list_str {l : Addr} {items : Array Value} (b : Str) (u : Tok) (hl : s.heap.IsList l items) (hu : A.units < cLine) : RcNeAt A s (.ref l) (.str b u) true := fun prog w E Q h => by
  obtain ⟨⟨cls, dd, data, sl⟩, ho, hc, n, hd⟩ := id hl
  simp only at hc hd
  subst hc hd
  exact rc_ne_decline_or (k := false) ⟨_, ho, rfl⟩ (typeIs_str s b u) (by decide) F.sub_str_list F.slot_list_ne F.slot_str_ne_refl
    (fun _ hq => call_meets F.slot_list_ne ⟨_, ho, rfl⟩ F.entry_list_ne (F.args_list_ne_2 _ _) (list_ne_declines_str l items n dd sl b u) ⟨ho, hq⟩)
    (fun _ hq => call_meets F.slot_str_ne_refl (typeIs_str s b u) F.entry_str_ne (F.args_str_ne_2 _ _) (str_ne_declines_seq_str b u l (.type "list") items n dd sl) ⟨ho, hq⟩)
    (fun _ hq => wpAny_of_eq (rfl : isSame (.ref l) (.str b u) = pure false) hq) (.inr hu) h
theorem ne_tuple_str {l : Addr} {items : Array Value} (b : Str) (u : Tok) (hl : s.heap.IsTuple l items) (hu : A.units < cLine) : RcNeAt A s (.ref l) (.str b u) true := fun prog w E Q h => by
  obtain ⟨⟨cls, dd, data, sl⟩, ho, hc, n, hd⟩ := id hl
  simp only at hc hd
  subst hc hd
  exact rc_ne_decline_or (k := false) ⟨_, ho, rfl⟩ (typeIs_str s b u) (by decide) F.sub_str_tuple F.slot_tuple_ne F.slot_str_ne_refl
    (fun _ hq => call_meets F.slot_tuple_ne ⟨_, ho, rfl⟩ F.entry_tuple_ne (F.args_tuple_ne_2 _ _) (tuple_ne_declines_str l items n dd sl b u) ⟨ho, hq⟩)
    (fun _ hq => call_meets F.slot_str_ne_refl (typeIs_str s b u) F.entry_str_ne (F.args_str_ne_2 _ _) (str_ne_declines_seq_str b u l (.type "tuple") items n dd sl) ⟨ho, hq⟩)
    (fun _ hq => wpAny_of_eq (rfl : isSame (.ref l) (.str b u) = pure false) hq) (.inr hu) h
end
section
variable {X : Cx} {pins : List (Addr × Obj)} {σ : L2.St} {H : Hp} {s : Shared} {fz : Bool} {t : Addr} {A : Around}
theorem beq_flip (y z : Str) : (y == z) = isT z (.str y) := by
  show (y == z) = (z == y)
  rw [Bool.eq_iff_iff, beq_iff_eq, beq_iff_eq]
  exact eq_comm
theorem rc_thing_text {x : V} {d : PyData} {v : Value} (I : Inv X pins σ H s) (h : Dq fz t H x d) (r : RelV x v) (hu : A.units < cLine) (z : Str) (k : Tok) : RcAt A s v (.str z k) (isT z d) := by
  cases h with
  | non => cases r; exact RcAt.none_str z k
  | bl b => cases r; exact RcAt.bool_str b z k
  | int i => obtain ⟨u, rfl⟩ := r; exact RcAt.int_str i u z k
  | str y =>
    obtain ⟨u, rfl⟩ := r
    have e := RcAt.str_str (A := A) (s := s) y u z k
    rw [beq_flip] at e
    exact e
  | lst n e h =>
    cases r
    obtain ⟨us, rv, pl, _⟩ := I.list (.inl (.inl e))
    exact RcAt.list_str z k pl.isList hu
  | tup n e h =>
    cases r
    obtain ⟨us, p, _⟩ := dq_isTuple I (.inl (.inl e))
    exact RcAt.tuple_str z k p hu
  | frz fn n e h =>
    cases r
    obtain ⟨us, p, _⟩ := dq_isTuple I (.inl (.inr ⟨_, e⟩))
    exact RcAt.tuple_str z k p hu
  | dct n e =>
    cases r
    obtain ⟨o, m, h1, h2, h3, _⟩ := dq_dict I e
    exact rc_dict_str z k h1 h2 h3 hu
theorem ne_thing_text {x : V} {d : PyData} {v : Value} (I : Inv X pins σ H s) (h : Dq fz t H x d) (r : RelV x v) (hu : A.units < cLine) (z : Str) (k : Tok) : RcNeAt A s v (.str z k) (!isT z d) := by
  cases h with
  | non => cases r; exact RcNeAt.none_str z k
  | bl b => cases r; exact RcNeAt.bool_str b z k
  | int i => obtain ⟨u, rfl⟩ := r; exact RcNeAt.int_str i u z k
  | str y =>
    obtain ⟨u, rfl⟩ := r
    have e := RcNeAt.str_str (A := A) (s := s) y u z k
    rw [beq_flip] at e
    exact e
  | lst n e h =>
    cases r
    obtain ⟨us, rv, pl, _⟩ := I.list (.inl (.inl e))
    exact ne_list_str z k pl.isList hu
  | tup n e h =>
    cases r
    obtain ⟨us, p, _⟩ := dq_isTuple I (.inl (.inl e))
    exact ne_tuple_str z k p hu
  | frz fn n e h =>
    cases r
    obtain ⟨us, p, _⟩ := dq_isTuple I (.inl (.inr ⟨_, e⟩))
    exact ne_tuple_str z k p hu
  | dct n e =>
    cases r
    obtain ⟨o, m, h1, h2, h3, _⟩ := dq_dict I e
    exact ne_dict_str z k h1 h2 h3 hu
end
def rEqQT (f : Bool → Bool) : R2 := fun x y H Q => ∃ (fz : Bool) (t : Addr) (z : Str) (d : PyData), y = .str z ∧ Dq fz t H x d ∧ Q (.bl (f (isT z d))) H
section
variable {X : Cx}
theorem op_eqQT (hu : X.A.units + 64 < cLine) : OpR X (compareOp .Eq) (rEqQT fun b => b) := by
  intro pins s σ H x y v u Q I rx ry h
  obtain ⟨fz, t, z, d, rfl, dq, h⟩ := h
  obtain ⟨k, rfl⟩ : ∃ k, u = Value.str z k := ry
  exact rc_thing_text (A := X.A) I dq rx (by omega) z k X.prog X.w _ _ ⟨.bl (isT z d), H, I, rfl, h⟩
theorem op_neQT (hu : X.A.units + 64 < cLine) : OpR X (compareOp .NotEq) (rEqQT fun b => !b) := by
  intro pins s σ H x y v u Q I rx ry h
  obtain ⟨fz, t, z, d, rfl, dq, h⟩ := h
  obtain ⟨k, rfl⟩ : ∃ k, u = Value.str z k := ry
  exact ne_thing_text (A := X.A) I dq rx (by omega) z k X.prog X.w _ _ ⟨.bl (!isT z d), H, I, rfl, h⟩
end
end My

set_option Elab.async false
set_option linter.all false
set_option maxRecDepth 100000
set_option maxHeartbeats 2000000
/-! a pair of texts != another one. -/
namespace My
open PySem PySem.Spec PyProof.Rows L2 PySem.SeqAt
def rEqP (K : PySem.W.Frag) (f : Bool → Bool) : R2 := fun x y H Q => ∃ (a b : Addr) (p q : Str × Str), x = .ref a ∧ y = .ref b ∧ SqT K H a [.str p.1, .str p.2] ∧ SqT K H b [.str q.1, .str q.2] ∧ Q (.bl (f (decide (p = q)))) H
section
variable {X : Cx}
theorem two_vals {u v : Str} {us : List Value} (h : Vals [.str u, .str v] us) : ∃ k l, us = [.str u k, .str v l] := by
  cases h with
  | cons r1 h =>
    cases h with
    | cons r2 h =>
      cases h
      obtain ⟨k, rfl⟩ := r1
      obtain ⟨l, rfl⟩ := r2
      exact ⟨k, l, rfl⟩
theorem op_neP (hu : X.A.units + 64 < cLine) : OpR X (compareOp .NotEq) (rEqP X.K fun b => !b) := by
  intro pins s σ H x y v u Q I rx ry h
  obtain ⟨a, b, p, q, rfl, rfl, ha, hb, h⟩ := h
  cases (show v = Value.ref a from rx)
  cases (show u = Value.ref b from ry)
  obtain ⟨us, r1, p1, _⟩ := I.tuple ha
  obtain ⟨ws, r2, p2, _⟩ := I.tuple hb
  obtain ⟨k1, l1, rfl⟩ := two_vals r1
  obtain ⟨k2, l2, rfl⟩ := two_vals r2
  have e := RcNeAt.tuples (A := X.A) (e := fun j => if j = 0 then p.1 == q.1 else p.2 == q.2) p1 p2 (by omega) (fun j h1 h2 => by
    have h1 : j < 2 := h1
    match j, h1 with
    | 0, _ => exact EqAt.str_str p.1 k1 q.1 k2
    | 1, _ => exact EqAt.str_str p.2 l1 q.2 l2) X.prog X.w
  have ev : ((List.range (min 2 2)).all (fun j => if j = 0 then p.1 == q.1 else p.2 == q.2) && (2 == 2)) = decide (p = q) := by
    rw [Bool.eq_iff_iff]
    simp only [Nat.min_self, List.range_succ, List.range_zero, List.nil_append, List.all_append, List.all_cons, List.all_nil, Bool.and_true, if_pos, beq_self_eq_true, Bool.and_eq_true, decide_eq_true_eq, beq_iff_eq]
    constructor
    · rintro ⟨e1, e2⟩
      exact Prod.ext e1 (by simpa using e2)
    · rintro rfl
      exact ⟨rfl, by simp⟩
  have ev2 : (!((List.range (min ([Value.str p.1 k1, Value.str p.2 l1].toArray.size) ([Value.str q.1 k2, Value.str q.2 l2].toArray.size))).all (fun j => if j = 0 then p.1 == q.1 else p.2 == q.2) && [Value.str p.1 k1, Value.str p.2 l1].toArray.size == [Value.str q.1 k2, Value.str q.2 l2].toArray.size)) = !decide (p = q) := congrArg (!·) ev
  rw [ev2] at e
  exact e _ _ ⟨.bl (!decide (p = q)), H, I, rfl, h⟩
end
end My

set_option Elab.async false
set_option linter.all false
set_option maxRecDepth 100000
set_option maxHeartbeats 2000000
namespace L45
open PySem PySem.Spec PyProof.Rows L2 LT
open My hiding Tbs Gk Tk
section
variable {P : Program} {w : World} {K : PySem.W.Frag} {mg : Str → Option Value} {base : Heap}
def wpOf : PyData → List (Str × Str)
  | .tuple es => es.map sayOf
  | _ => []
theorem wpOf_say (wp : List (Str × Str)) : wpOf (.tuple (wp.map sayD)) = wp := sayOf_map wp
theorem wps_back : ∀ wps : List (List (Str × Str)), (ringsD wps).map wpOf = wps
  | [] => rfl
  | wp :: wps => by
    show wpOf (.tuple (wp.map sayD)) :: (ringsD wps).map wpOf = _
    rw [wpOf_say, wps_back wps]
theorem rings_of {ps : List (Str × Str)} : ∀ {ds : List PyData}, (∀ d ∈ ds, ringB ps d = true) → ∃ wps : List (List (Str × Str)), ds = ringsD wps ∧ ∀ wp ∈ wps, IsRing ps wp
  | [], _ => ⟨[], rfl, fun p hp => by cases hp⟩
  | d :: ds, h => by
    obtain ⟨wps, e, a⟩ := rings_of (ds := ds) fun x hx => h x (.tail _ hx)
    obtain ⟨wp, rfl, i⟩ := ringB_of (h d (.head _))
    exact ⟨wp :: wps, by rw [e]; rfl, fun x hx => (List.mem_cons.mp hx).elim (fun e => by rw [e]; exact i) (a x)⟩
def lenD : PyData → Nat
  | .tuple xs => xs.length
  | _ => 0
def shapeR : List PyData → Bool
  | [a] => kindQ "tuple" a
  | _ => false
def shapeO (m : Nat) : List PyData → Bool
  | [a, b] => kindQ "tuple" a && kindQ "tuple" b && decide (lenD b = if m = 0 then 0 else lenD a)
  | _ => false
/-- the things of a node: which form they have -/
def shapeT (m : Nat) : List PyData → Bool
  | [] => false
  | h :: r => if isT (Str.ofString "rings") h = true then shapeR r else if isT (Str.ofString "one") h = true then shapeO m r else false
def shapeF (m : Nat) : PyData → Bool
  | .tuple ds => shapeT m ds
  | _ => false
theorem shape_other {m : Nat} {d : PyData} (h : kindQ "tuple" d ≠ true) : shapeF m d = false := by
  cases d with
  | tuple ds => exact absurd rfl h
  | str y => rfl
  | none => rfl
  | bool b => rfl
  | int i => rfl
  | list l => rfl
  | dict l => rfl
def spShape : Sp := fun vs H Q _ => ∃ (m : Nat) (t : Addr) (v : V) (d : PyData), vs = [.int m, v] ∧ Dq false t H v d ∧ Q (.bl (shapeF m d)) H
theorem ok_shape (T : Tx K mg) : FnOk P w K mg base CX0 1 T.f_has_shape T.d_has_shape ["more", "node"] (spShape) := by
  refine T.F_has_shape.ok S_has_shape (fun vs H Q E h => ?_) (fun cdv A outer s0 H vs Q E hr h => ?_)
  · obtain ⟨m, t, v, d, rfl, _⟩ := h
    rfl
  · obtain ⟨m, t, v, d, rfl, dq, q⟩ := h
    refine ⟨_, (pss_cons (ps_if (PW.pt (pw_or (pt_not (pt_val (pe_callB call_isi (by rfl) T.m_isinstance (by decide +kernel) (pa_cons (pv 1) (pa_cons (pe_bltn (v := .ty "tuple") (by rfl) T.m_tuple (by decide +kernel) rfl) pa_nil))))) (pw_or1 (pt_not (pt_truth (pv 1) (by intro _; rfl)))))) (pss_one (ps_ret pe_bl)) pss_nil)
      (pss_cons (ps_if (pt_cmpR (op_eqQT (un64 hr)) (pe_ix ix_tup (pv 1) pe_int (fun _ _ => rfl)) pe_str (nomark _)) (pss_one (ps_ret (pe_and (pe_cmpR op_eq (pe_callB call_len_seq (by rfl) T.m_len PySem.boot_len (pa_cons (pv 1) pa_nil)) pe_int (nomark _)) (pe_one (pe_callB call_isi (by rfl) T.m_isinstance (by decide +kernel) (pa_cons (pe_ix ix_tup (pv 1) pe_int (fun _ _ => rfl)) (pa_cons (pe_bltn (v := .ty "tuple") (by rfl) T.m_tuple (by decide +kernel) rfl) pa_nil))))))) pss_nil)
      (pss_cons (ps_if (PW.pt (pw_or (pt_cmpR (op_neQT (un64 hr)) (pe_ix ix_tup (pv 1) pe_int (fun _ _ => rfl)) pe_str (nomark _)) (pw_or1 (pt_cmpR op_ne (pe_callB call_len_seq (by rfl) T.m_len PySem.boot_len (pa_cons (pv 1) pa_nil)) pe_int (nomark _))))) (pss_one (ps_ret pe_bl)) pss_nil)
      (pss_cons (ps_if (PW.pt (pw_or (pt_not (pt_val (pe_callB call_isi (by rfl) T.m_isinstance (by decide +kernel) (pa_cons (pe_ix ix_tup (pv 1) pe_int (fun _ _ => rfl)) (pa_cons (pe_bltn (v := .ty "tuple") (by rfl) T.m_tuple (by decide +kernel) rfl) pa_nil))))) (pw_or1 (pt_not (pt_val (pe_callB call_isi (by rfl) T.m_isinstance (by decide +kernel) (pa_cons (pe_ix ix_tup (pv 1) pe_int (fun _ _ => rfl)) (pa_cons (pe_bltn (v := .ty "tuple") (by rfl) T.m_tuple (by decide +kernel) rfl) pa_nil)))))))) (pss_one (ps_ret pe_bl)) pss_nil)
      (pss_one (ps_ret (pe_cmpR op_eq (pe_callB call_len_seq (by rfl) T.m_len PySem.boot_len (pa_cons (pe_ix ix_tup (pv 1) pe_int (fun _ _ => rfl)) pa_nil)) (pe_ifExp (pt_cmpR op_eq (pv 0) pe_int (nomark _)) pe_int (pe_callB call_len_seq (by rfl) T.m_len PySem.boot_len (pa_cons (pe_ix ix_tup (pv 1) pe_int (fun _ _ => rfl)) pa_nil))) (nomark _)))))))), ?_⟩
    obtain ⟨u, ty, ki⟩ := dq_kind (K := K) (n := "tuple") (.inr (.inr (.inr rfl))) dq
    refine ⟨_, rfl, _, _, u, _, _, rfl, .ty _, ty, ki, _, rfl, ?_⟩
    by_cases kq : kindQ "tuple" d = true
    rotate_left
    · rw [Bool.eq_false_iff.mpr kq]
      rw [shape_other kq] at q
      exact iteT q
    obtain ⟨ds, rfl⟩ := kind_tuple kq
    obtain ⟨th, ws, rfl, an, hw, da⟩ := dq_tuple_at dq
    have hw : H th = some (.tup ws) := hw.elim id fun ⟨f, _⟩ => by cases f
    have ld := da.length
    rw [kq]
    refine iteF ?_
    refine ⟨_, rfl, _, .inr (.inl ⟨_, .inl (.inl hw), rfl⟩), ite2 (fun e => ?_) (fun e => ?_)⟩
    · have we : ds = [] := List.length_eq_zero_iff.mp (by rw [← ld]; cases ws with | nil => rfl | cons => cases e)
      subst we
      exact q
    · cases da with
      | nil => exact absurd rfl e
      | @cons v0 ws h0 ds d0 da =>
        have ki2 : ∀ (v : V) (d : PyData), Dq false t H v d → ∃ u, TyX K H v u ∧ PySem.W.kitOne K u (.type "tuple") = some (kindQ "tuple" d) := fun v d h => dq_kind (K := K) (n := "tuple") (.inr (.inr (.inr rfl))) h
        refine ⟨_, rfl, th, _, 0, v0, rfl, rfl, .inl (.inl hw), at_of (j := 0) rfl rfl, false, t, _, h0, rfl, d0, _, rfl, ite2 (fun e1 => ?_) (fun e1 => ?_)⟩
        · have e1 : isT (Str.ofString "rings") h0 = true := e1
          have eq : shapeF m (.tuple (h0 :: ds)) = shapeR ds := by
            show shapeT m (h0 :: ds) = _
            rw [shapeT, if_pos e1]
          rw [eq] at q
          refine ⟨_, rfl, th, _, rfl, .inr (.inl (.inl hw)), rfl, _, rfl, ?_⟩
          cases da with
          | nil => exact iteF q
          | @cons v1 ws h1 ds d1 da =>
            cases da with
            | nil =>
              obtain ⟨u1, ty1, ki1⟩ := ki2 _ _ d1
              exact iteT ⟨_, rfl, th, _, 1, v1, rfl, rfl, .inl (.inl hw), at_of (j := 1) rfl rfl, _, _, u1, _, _, rfl, .ty _, ty1, ki1, q⟩
            | @cons v2 ws h2 ds d2 da =>
              show ite _ _ _
              rw [if_neg (fun z => by
                have z := of_decide_eq_true z
                injection z with z
                simp only [List.length_cons] at z
                omega)]
              exact q
        · have e1 : ¬ isT (Str.ofString "rings") h0 = true := e1
          refine ⟨_, rfl, th, _, 0, v0, rfl, rfl, .inl (.inl hw), at_of (j := 0) rfl rfl, false, t, _, h0, rfl, d0, _, rfl, ite2 (fun e2 => ?_) (fun e2 => ?_)⟩
          · have e2 : (!isT (Str.ofString "one") h0) = true := e2
            have eq : shapeF m (.tuple (h0 :: ds)) = false := by
              show shapeT m (h0 :: ds) = _
              rw [shapeT, if_neg e1, if_neg (by simpa using e2)]
            rw [eq] at q
            exact q
          · have e2 : isT (Str.ofString "one") h0 = true := by
              have e2 : ¬ (!isT (Str.ofString "one") h0) = true := e2
              simpa using e2
            have eq : shapeF m (.tuple (h0 :: ds)) = shapeO m ds := by
              show shapeT m (h0 :: ds) = _
              rw [shapeT, if_neg e1, if_pos e2]
            rw [eq] at q
            refine ⟨_, rfl, th, _, rfl, .inr (.inl (.inl hw)), rfl, _, rfl, ?_⟩
            cases da with
            | nil => exact iteT q
            | @cons v1 ws h1 ds d1 da =>
              cases da with
              | nil => exact iteT q
              | @cons v2 ws h2 ds d2 da =>
                cases da with
                | @cons v3 ws h3 ds d3 da =>
                  refine ite2 (fun _ => q) (fun z => z.elim ?_)
                  rw [decide_eq_false (fun z => by
                    injection z with z
                    simp only [List.length_cons] at z
                    omega)]
                  rfl
                | nil =>
                  refine iteF ?_
                  obtain ⟨u1, ty1, ki1⟩ := ki2 _ _ d1
                  obtain ⟨u2, ty2, ki3⟩ := ki2 _ _ d2
                  have q : Q (.bl (kindQ "tuple" h1 && kindQ "tuple" h2 && decide (lenD h2 = if m = 0 then 0 else lenD h1))) H := q
                  refine ⟨_, rfl, th, _, 1, v1, rfl, rfl, .inl (.inl hw), at_of (j := 1) rfl rfl, _, _, u1, _, _, rfl, .ty _, ty1, ki1, _, rfl, ?_⟩
                  by_cases k1 : kindQ "tuple" h1 = true
                  rotate_left
                  · rw [Bool.eq_false_iff.mpr k1] at q ⊢
                    exact iteT q
                  rw [k1] at q ⊢
                  refine iteF ?_
                  refine ⟨_, rfl, th, _, 2, v2, rfl, rfl, .inl (.inl hw), at_of (j := 2) rfl rfl, _, _, u2, _, _, rfl, .ty _, ty2, ki3, _, rfl, ?_⟩
                  by_cases k2 : kindQ "tuple" h2 = true
                  rotate_left
                  · rw [Bool.eq_false_iff.mpr k2] at q ⊢
                    exact iteT q
                  rw [k2] at q ⊢
                  refine iteF ?_
                  obtain ⟨as, rfl⟩ := kind_tuple k1
                  obtain ⟨bs, rfl⟩ := kind_tuple k2
                  obtain ⟨a1, w1, rfl, an1, hw1, da1⟩ := dq_tuple_at d1
                  obtain ⟨a2, w2, rfl, an2, hw2, da2⟩ := dq_tuple_at d2
                  have hw1 : H a1 = some (.tup w1) := hw1.elim id fun ⟨f, _⟩ => by cases f
                  have hw2 : H a2 = some (.tup w2) := hw2.elim id fun ⟨f, _⟩ => by cases f
                  have l1 : w1.length = as.length := da1.length
                  have l2 : w2.length = bs.length := da2.length
                  have q : Q (.bl (decide (bs.length = if m = 0 then 0 else as.length))) H := q
                  refine ⟨_, rfl, th, _, 2, .ref a2, rfl, rfl, .inl (.inl hw), at_of (j := 2) rfl rfl, a2, w2, rfl, .inr (.inl (.inl hw2)), _, rfl, rfl, _, rfl, ite2 (fun e => ?_) (fun e => ?_)⟩
                  · have e : ((m : Nat) : Int) = 0 := V.int.inj (of_decide_eq_true e)
                    refine ⟨rfl, ?_⟩
                    rw [if_pos (show m = 0 by omega)] at q
                    rw [show decide (V.int (w2.length : Nat) = V.int 0) = decide (bs.length = 0) by
                      rw [Bool.eq_iff_iff, decide_eq_true_eq, decide_eq_true_eq, l2]
                      exact ⟨fun z => by injection z with z; omega, fun z => by rw [z]; rfl⟩]
                    exact q
                  · have e : ¬ ((m : Nat) : Int) = 0 := fun z => e (by rw [z]; exact decide_eq_true rfl)
                    refine ⟨_, rfl, th, _, 1, .ref a1, rfl, rfl, .inl (.inl hw), at_of (j := 1) rfl rfl, a1, w1, rfl, .inr (.inl (.inl hw1)), rfl, ?_⟩
                    rw [if_neg (show ¬ m = 0 by omega)] at q
                    rw [show decide (V.int (w2.length : Nat) = V.int (w1.length : Nat)) = decide (bs.length = as.length) by
                      rw [Bool.eq_iff_iff, decide_eq_true_eq, decide_eq_true_eq, l2, l1]
                      exact ⟨fun z => by injection z with z; omega, fun z => by rw [z]⟩]
                    exact q
/-- what is amiss of so many rings -/
noncomputable def ringsF (ps : List (Str × Str)) (m : Nat) (rs : List PyData) : Option Str :=
  if rs.all (ringB ps) = false then some (Str.ofString "ring") else if (firstIx rs.length (commonB (rs.map wpOf))).isSome = true then some (Str.ofString "apart") else if rs.length ≤ m then some (Str.ofString "few") else none
def spRingsF (T : Tx K mg) : Sp := fun vs H Q _ => ∃ (m : Nat) (s a t : Addr) (ys us : List V) (ps : List (Str × Str)) (rs : List PyData), vs = [.ref s, .int m, .ref a] ∧ H s = some (.tup ys) ∧ NkAll H ys (ps.map sayK) ∧ H a = some (.tup us) ∧ DqAll false t H us rs ∧ (∀ d ∈ rs, Wid 50 d) ∧ rs.length ≤ 50 ∧ Tbs (tbs T) H ∧
  (∀ H', Gk (tbs T) H H' → ringsF ps m rs = none → Q .non H') ∧ ∀ wd H', Gk (tbs T) H H' → ringsF ps m rs = some wd → Q (.str wd) H'
theorem ok_ringsf (T : Tx K mg) (B : Tb T base) : FnOk P w K mg base CX0 6 T.f_rings_fault T.d_rings_fault ["left", "more", "rings"] (spRingsF T) := by
  have G_is_ring : FnOk P w K mg base CX0 4 T.f_is_ring T.d_is_ring ["some", "thing"] (spIsR T) := ok_isr T B
  have G_first_common : FnOk P w K mg base CX0 2 T.f_first_common T.d_first_common ["rings"] (spCommon T) := ok_common T B
  refine T.F_rings_fault.ok S_rings_fault (fun vs H Q E h => ?_) (fun A outer s0 H vs Q E hr h => ?_)
  · obtain ⟨m, s, a, t, ys, us, ps, rs, rfl, _⟩ := h
    rfl
  · obtain ⟨m, s, a, t, ys, us, ps, rs, rfl, hs, nk, ha, da, wd, l50, hB, q0, q1⟩ := h
    refine ⟨_, (pss_cons (ps_if (pt_not (pt_val (GE.pe_allG (own := [("ring", 3)]) (g := gName 3) (tt := tYes) (by rfl) S_rings_fault.nd hr (by rfl) T.m_all B.b_rings_fault rfl ⟨blkOk_by (own := [("ring", 3)]) (N := N_rings_fault) (sc := defScope s_rings_fault) (by decide +kernel), rfl, (by decide +kernel), (by decide +kernel)⟩ (pi_tup (pv 2)) (fun _ _ _ _ _ _ hr => (pg_name (i := 3) S_rings_fault.nd rfl (.inl rfl))) (fun _ _ _ _ _ _ hr => pts_nil) (fun _ _ _ _ _ _ hr => (pe_call G_is_ring hr (by rfl) T.g_is_ring T.F_is_ring.kp T.b_is_ring .nil pass0 (pa_cons (pv 0) (pa_cons (pv 3) pa_nil))))))) (pss_one (ps_ret pe_str)) pss_nil)
      (pss_cons (ps_if (pt_cmpR op_notN (pe_call G_first_common (hr.mono (by decide)) (by rfl) T.g_first_common T.F_first_common.kp T.b_first_common .nil pass0 (pa_cons (pv 2) pa_nil)) pe_non (nomark _)) (pss_one (ps_ret pe_str)) pss_nil)
      (pss_cons (ps_if (pt_cmpR op_le (pe_callB call_len_seq (by rfl) T.m_len PySem.boot_len (pa_cons (pv 2) pa_nil)) (pv 1) (nomark _)) (pss_one (ps_ret pe_str)) pss_nil)
      (pss_one (ps_ret pe_non))))), ?_⟩
    have lu := da.length
    refine ⟨_, rfl, a, rfl, ⟨_, .inl (.inl ha)⟩, hB.gen _ (by simp [tbs]), fun H2 tab => ?_⟩
    have g2 := (Tk.of hB (by simp [tbs]) tab).gk hB
    refine GE.ag_it (walk_tup (xs := us)) (fun j Hx => Gk (tbs T) H Hx ∧ ∀ d ∈ rs.take j, ringB ps d = true) ⟨g2, fun d hd => by rw [List.take_zero] at hd; cases hd⟩ (fun j Hx _ h => .inl (.inl (h.1.tup ha))) ?_ ?_
    · rintro j x H3 H4 hj ⟨g3, al⟩ ⟨rfl, hx⟩
      obtain ⟨d, hd, dqd⟩ := (DqAll.gk da g3).get hx
      have md := List.mem_of_getElem? hd
      refine ⟨rfl, tYesT ⟨_, rfl, _, rfl, s, t, x, ys, ps, d, rfl, g3.tup hs, nk.at g3.tups, dqd, fun es ee => ?_, g3.2, fun H6 g6 => ?_⟩⟩
      · have := wd d md
        rw [ee] at this
        have := this.items.1
        omega
      · refine ⟨_, rfl, fun e => ?_, fun e => ⟨g3.trans g6, fun d2 hd2 => ?_⟩⟩
        · have e : ringB ps d = false := e
          refine ⟨_, rfl, iteT ?_⟩
          refine q1 _ _ (g3.trans g6) ?_
          unfold ringsF
          rw [if_pos]
          exact List.all_eq_false.mpr ⟨d, md, by rw [e]; exact Bool.noConfusion⟩
        · have e : ¬ ringB ps d = false := e
          rw [List.take_add_one, hd] at hd2
          rcases List.mem_append.mp hd2 with h | h
          · exact al d2 h
          · have : d2 = d := by simpa using h
            rw [this]
            simpa using e
    · rintro H3 ⟨g3, al⟩
      rw [lu, List.take_of_length_le (Nat.le_refl _)] at al
      obtain ⟨wps, rfl, ir⟩ := rings_of al
      have all : ¬ ((ringsD wps).all (ringB ps)) = false := fun z => by
        rw [List.all_eq_true.mpr al] at z
        cases z
      have lwp : (ringsD wps).length = wps.length := List.length_map _
      have rf : ringsF ps m (ringsD wps) = if (firstIx wps.length (commonB wps)).isSome = true then some (Str.ofString "apart") else if wps.length ≤ m then some (Str.ofString "few") else none := by
        unfold ringsF
        rw [if_neg all, wps_back, lwp]
      refine ⟨_, rfl, iteF ?_⟩
      refine ⟨_, rfl, a, t, us, wps, rfl, g3.tup ha, DqAll.gk da g3, fun wp hwp => ?_, by omega, g3.2, fun H1 g1 ef => ?_, fun k H1 g1 ef => ?_⟩
      · have := (wd (.tuple (wp.map sayD)) (List.mem_map_of_mem (f := fun wp => PyData.tuple (wp.map sayD)) hwp)).items.1
        rw [List.length_map] at this
        exact this
      · have gg := g3.trans g1
        rw [ef] at rf
        refine ⟨rfl, _, rfl, iteF ?_⟩
        refine ⟨_, rfl, a, us, rfl, .inr (.inl (.inl (gg.tup ha))), _, rfl, _, _, rfl, rfl, _, rfl, ite2 (fun e => ?_) (fun e => ?_)⟩
        · have e : ((us.length : Nat) : Int) ≤ (m : Nat) := of_decide_eq_true e
          refine q1 _ _ gg ?_
          rw [rf, if_neg (by decide), if_pos (by omega)]
        · have e : ¬ ((us.length : Nat) : Int) ≤ (m : Nat) := fun z => e (decide_eq_true z)
          refine q0 _ gg ?_
          rw [rf, if_neg (by decide), if_neg (by omega)]
      · have gg := g3.trans g1
        rw [ef] at rf
        refine ⟨rfl, _, rfl, iteT ?_⟩
        exact q1 _ _ gg (by rw [rf]; exact if_pos rfl)
/-- what is amiss of a node, its parts not looked at -/
noncomputable def nodeF (ps : List (Str × Str)) (m : Nat) (d : PyData) : Option Str :=
  if shapeF m d = false then some (Str.ofString "shape") else match d with
    | .tuple [_, .tuple rs] => ringsF ps m rs
    | .tuple [_, r, _] => if ringB ps r = true then none else some (Str.ofString "ring")
    | _ => none
theorem shape_cases {m : Nat} {d : PyData} (h : shapeF m d = true) : (∃ h0 rs, d = .tuple [h0, .tuple rs] ∧ isT (Str.ofString "rings") h0 = true) ∨ ∃ h0 as bs, d = .tuple [h0, .tuple as, .tuple bs] ∧ isT (Str.ofString "rings") h0 = false ∧ isT (Str.ofString "one") h0 = true ∧ bs.length = if m = 0 then 0 else as.length := by
  cases d with
  | tuple ds =>
    have h : shapeT m ds = true := h
    cases ds with
    | nil => cases h
    | cons h0 ds =>
      rw [shapeT] at h
      by_cases e1 : isT (Str.ofString "rings") h0 = true
      · rw [if_pos e1] at h
        match ds, h with
        | [a], h =>
          obtain ⟨rs, rfl⟩ := kind_tuple (show kindQ "tuple" a = true from h)
          exact .inl ⟨h0, rs, rfl, e1⟩
        | [], h => cases h
        | _ :: _ :: _, h => cases h
      · rw [if_neg e1] at h
        by_cases e2 : isT (Str.ofString "one") h0 = true
        · rw [if_pos e2] at h
          match ds, h with
          | [a, b], h =>
            have h : (kindQ "tuple" a && kindQ "tuple" b && decide (lenD b = if m = 0 then 0 else lenD a)) = true := h
            rw [Bool.and_eq_true, Bool.and_eq_true, decide_eq_true_eq] at h
            obtain ⟨as, rfl⟩ := kind_tuple h.1.1
            obtain ⟨bs, rfl⟩ := kind_tuple h.1.2
            exact .inr ⟨h0, as, bs, rfl, Bool.eq_false_iff.mpr e1, e2, h.2⟩
          | [], h => cases h
          | [_], h => cases h
          | _ :: _ :: _ :: _, h => cases h
        · rw [if_neg e2] at h
          cases h
  | str y => cases h
  | none => cases h
  | bool b => cases h
  | int i => cases h
  | list l => cases h
  | dict l => cases h
theorem node_rings {ps : List (Str × Str)} {m : Nat} {h0 : PyData} {rs : List PyData} (h : shapeF m (.tuple [h0, .tuple rs]) = true) : nodeF ps m (.tuple [h0, .tuple rs]) = ringsF ps m rs := by
  unfold nodeF
  rw [if_neg (by rw [h]; exact Bool.noConfusion)]
theorem node_one {ps : List (Str × Str)} {m : Nat} {h0 b : PyData} {as : List PyData} (h : shapeF m (.tuple [h0, .tuple as, b]) = true) : nodeF ps m (.tuple [h0, .tuple as, b]) = if ringB ps (.tuple as) = true then none else some (Str.ofString "ring") := by
  unfold nodeF
  rw [if_neg (by rw [h]; exact Bool.noConfusion)]
theorem node_shape {ps : List (Str × Str)} {m : Nat} {d : PyData} (h : shapeF m d = false) : nodeF ps m d = some (Str.ofString "shape") := by
  unfold nodeF
  rw [if_pos h]
def spNodeF (T : Tx K mg) : Sp := fun vs H Q _ => ∃ (m : Nat) (s t : Addr) (v : V) (ys : List V) (ps : List (Str × Str)) (d : PyData), vs = [.ref s, .int m, v] ∧ H s = some (.tup ys) ∧ NkAll H ys (ps.map sayK) ∧ Dq false t H v d ∧ Wid 50 d ∧ Tbs (tbs T) H ∧
  (∀ H', Gk (tbs T) H H' → nodeF ps m d = none → Q .non H') ∧ ∀ wd H', Gk (tbs T) H H' → nodeF ps m d = some wd → Q (.str wd) H'
theorem ok_nodef (T : Tx K mg) (B : Tb T base) : FnOk P w K mg base CX0 7 T.f_node_fault T.d_node_fault ["left", "more", "node"] (spNodeF T) := by
  have G_has_shape : FnOk P w K mg base CX0 1 T.f_has_shape T.d_has_shape ["more", "node"] (spShape) := ok_shape T
  have G_rings_fault : FnOk P w K mg base CX0 6 T.f_rings_fault T.d_rings_fault ["left", "more", "rings"] (spRingsF T) := ok_ringsf T B
  have G_is_ring : FnOk P w K mg base CX0 4 T.f_is_ring T.d_is_ring ["some", "thing"] (spIsR T) := ok_isr T B
  refine T.F_node_fault.ok S_node_fault (fun vs H Q E h => ?_) (fun cdv A outer s0 H vs Q E hr h => ?_)
  · obtain ⟨m, s, t, v, ys, ps, d, rfl, _⟩ := h
    rfl
  · obtain ⟨m, s, t, v, ys, ps, d, rfl, hs, nk, dq, wd, hB, q0, q1⟩ := h
    refine ⟨_, (pss_cons (ps_if (pt_not (pt_val (pe_call G_has_shape (hr.mono (by decide)) (by rfl) T.g_has_shape T.F_has_shape.kp T.b_has_shape .nil pass0 (pa_cons (pv 1) (pa_cons (pv 2) pa_nil))))) (pss_one (ps_ret pe_str)) pss_nil)
      (pss_cons (ps_if (pt_cmpR (op_eqQT (un64 hr)) (pe_ix ix_tup (pv 2) pe_int (fun _ _ => rfl)) pe_str (nomark _)) (pss_one (ps_ret (pe_call G_rings_fault hr (by rfl) T.g_rings_fault T.F_rings_fault.kp T.b_rings_fault .nil pass0 (pa_cons (pv 0) (pa_cons (pv 1) (pa_cons (pe_ix ix_tup (pv 2) pe_int (fun _ _ => rfl)) pa_nil)))))) pss_nil)
      (pss_cons (ps_if (pt_not (pt_val (pe_call G_is_ring (hr.mono (by decide)) (by rfl) T.g_is_ring T.F_is_ring.kp T.b_is_ring .nil pass0 (pa_cons (pv 0) (pa_cons (pe_ix ix_tup (pv 2) pe_int (fun _ _ => rfl)) pa_nil))))) (pss_one (ps_ret pe_str)) pss_nil)
      (pss_one (ps_ret pe_non))))), ?_⟩
    refine ⟨_, rfl, _, rfl, m, t, v, d, rfl, dq, ?_⟩
    cases sh : shapeF m d with
    | false => exact ⟨_, rfl, iteT (q1 _ _ (.refl hB) (node_shape sh))⟩
    | true =>
      refine ⟨_, rfl, iteF ?_⟩
      rcases shape_cases sh with ⟨h0, rs, rfl, e1⟩ | ⟨h0, as, bs, rfl, e1, e2, lb⟩
      · obtain ⟨th, ws, rfl, an, hw, da⟩ := dq_tuple_at dq
        have hw : H th = some (.tup ws) := hw.elim id fun ⟨f, _⟩ => by cases f
        cases da with
        | @cons v0 ws _ _ d0 da =>
          cases da with
          | @cons v1 ws _ _ d1 da =>
            cases da
            obtain ⟨a1, w1, rfl, an1, hw1, da1⟩ := dq_tuple_at d1
            have hw1 : H a1 = some (.tup w1) := hw1.elim id fun ⟨f, _⟩ => by cases f
            have wi := wd.items
            have w1' := wi.2 (.tuple rs) (by simp)
            have nr := node_rings (ps := ps) sh
            refine ⟨_, rfl, th, _, 0, v0, rfl, rfl, .inl (.inl hw), at_of (j := 0) rfl rfl, false, t, _, h0, rfl, d0, _, rfl, ite2 (fun _ => ?_) (fun z => absurd e1 z)⟩
            refine ⟨_, rfl, _, rfl, _, rfl, th, _, 1, .ref a1, rfl, rfl, .inl (.inl hw), at_of (j := 1) rfl rfl, m, s, a1, t, ys, w1, ps, rs, rfl, hs, nk, hw1, da1, w1'.items.2, w1'.items.1, hB, fun H' g e => q0 H' g (by rw [nr]; exact e), fun wd H' g e => q1 wd H' g (by rw [nr]; exact e)⟩
      · obtain ⟨th, ws, rfl, an, hw, da⟩ := dq_tuple_at dq
        have hw : H th = some (.tup ws) := hw.elim id fun ⟨f, _⟩ => by cases f
        cases da with
        | @cons v0 ws _ _ d0 da =>
          cases da with
          | @cons v1 ws _ _ d1 da =>
            have wi := wd.items
            have w1' := wi.2 (.tuple as) (by simp)
            have no := node_one (ps := ps) sh
            refine ⟨_, rfl, th, _, 0, v0, rfl, rfl, .inl (.inl hw), at_of (j := 0) rfl rfl, false, t, _, h0, rfl, d0, _, rfl, ite2 (fun z => absurd z (by rw [e1]; exact Bool.noConfusion)) (fun _ => ?_)⟩
            refine ⟨_, rfl, _, rfl, th, _, 1, v1, rfl, rfl, .inl (.inl hw), at_of (j := 1) rfl rfl, s, t, v1, ys, ps, .tuple as, rfl, hs, nk, d1, fun es ee => ?_, hB, fun H' g => ⟨_, rfl, ite2 (fun e => ?_) (fun e => ?_)⟩⟩
            · cases ee
              have := w1'.items.1
              omega
            · have e : ¬ ringB ps (.tuple as) = true := by simpa using e
              exact q1 _ H' g (by rw [no, if_neg e])
            · have e : ringB ps (.tuple as) = true := by simpa using e
              exact q0 H' g (by rw [no, if_pos e])
def partsOf : PyData → List PyData × List PyData
  | .tuple [_, .tuple as, .tuple bs] => (as, bs)
  | _ => ([], [])
/-- what is amiss of a paper, and where -/
noncomputable def caseF : Nat → List (Str × Str) → PyData → List Nat → Option (Str × List Nat)
  | 0, ps, d, us => (nodeF ps 0 d).map fun w => (w, us)
  | m + 1, ps, d, us => match nodeF ps (m + 1) d with
    | some w => some (w, us)
    | none => (List.range (partsOf d).2.length).findSome? fun k => match (partsOf d).1[k]?, (partsOf d).2[k]? with
        | some a, some b => caseF m (ps.filter fun q => !decide (q = sayOf a)) b (us ++ [k])
        | _, _ => none
theorem case_node {ps : List (Str × Str)} {m : Nat} {d : PyData} {us : List Nat} {w : Str} (h : nodeF ps m d = some w) : caseF m ps d us = some (w, us) := by
  cases m with
  | zero => rw [caseF, h]; rfl
  | succ m => rw [caseF, h]
theorem case_zero {ps : List (Str × Str)} {d : PyData} {us : List Nat} (h : nodeF ps 0 d = none) : caseF 0 ps d us = none := by rw [caseF, h]; rfl
theorem case_rings {ps : List (Str × Str)} {m : Nat} {h0 : PyData} {rs : List PyData} {us : List Nat} (h : nodeF ps m (.tuple [h0, .tuple rs]) = none) : caseF m ps (.tuple [h0, .tuple rs]) us = none := by
  cases m with
  | zero => exact case_zero h
  | succ m =>
    rw [caseF, h]
    rfl
/-- one part of a paper -/
noncomputable def partF (m : Nat) (ps : List (Str × Str)) (as bs : List PyData) (us : List Nat) (k : Nat) : Option (Str × List Nat) := match as[k]?, bs[k]? with
  | some a, some b => caseF m (ps.filter fun q => !decide (q = sayOf a)) b (us ++ [k])
  | _, _ => none
theorem case_one {ps : List (Str × Str)} {m : Nat} {h0 : PyData} {as bs : List PyData} {us : List Nat} (h : nodeF ps (m + 1) (.tuple [h0, .tuple as, .tuple bs]) = none) : caseF (m + 1) ps (.tuple [h0, .tuple as, .tuple bs]) us = (List.range bs.length).findSome? (partF m ps as bs us) := by
  rw [caseF, h]
  rfl
theorem find_first {α : Type} {f : Nat → Option α} {n k : Nat} {x : α} (hk : k < n) (e : f k = some x) (h : ∀ j, j < k → f j = none) : (List.range n).findSome? f = some x := by
  rw [List.findSome?_eq_some_iff]
  refine ⟨List.range k, k, (List.range' (k + 1) (n - (k + 1))), ?_, e, fun j hj => h j (List.mem_range.mp hj)⟩
  rw [List.range_eq_range', List.range_eq_range']
  have h1 := List.range'_append_1 (s := 0) (m := k) (n := n - k)
  rw [show k + (n - k) = n by omega] at h1
  rw [← h1]
  congr 1
  rw [show n - k = (n - (k + 1)) + 1 by omega, List.range'_succ, Nat.zero_add]
theorem find_none {α : Type} {f : Nat → Option α} {n : Nat} (h : ∀ j, j < n → f j = none) : (List.range n).findSome? f = none := List.findSome?_eq_none_iff.mpr fun j hj => h j (List.mem_range.mp hj)
theorem exc_sameP {H : Hp} {a d : Addr} {x y y2 z o : HO} (ha : H a = none) (hd : upd H a x d = none) (ne : d ≠ a) : Same H (upd (del (upd (upd (upd (upd H a x) d y) a z) d y2) a) d o) := fun b u e => by
  have h1 : b ≠ a := ne_of_none e ha
  have h2 : b ≠ d := fun w => by rw [← w, upd_ne h1, e] at hd; cases hd
  rw [upd_ne h2, del_ne h1, upd_ne h2, upd_ne h1, upd_ne h2, upd_ne h1]
  exact e
theorem cat_path {K : PySem.W.Frag} {H : Hp} {a e : Addr} {us : List Nat} {k : Nat} {Q : V → Hp → Prop} (hp : H a = some (.tup (us.map fun k => V.int (k : Nat)))) (he : H e = some (.tup [.int (k : Nat)])) (l : us.length ≤ 100) (q : ∀ r H', Same H H' → H' r = some (.tup ((us ++ [k]).map fun k => V.int (k : Nat))) → Q (.ref r) H') : rCatA K (.ref a) (.ref e) H Q := by
  refine ⟨a, e, _, _, rfl, rfl, .inl (.inl hp), .inl (.inl he), sz (by rw [List.length_map]; show _ + 1 ≤ 1000; omega), fun z => ?_, fun _ z => (by cases z), fun _ _ r nr => ?_⟩
  · have : us = [] := by cases us with | nil => rfl | cons => cases z
    subst this
    exact q e H (fun _ _ e => e) he
  · refine q r _ (same_upd nr) ?_
    rw [List.map_append]
    exact upd_same
theorem out_one {ps : List (Str × Str)} {i : Nat} {p x : Str × Str} (h : ps[i]? = some x) : (ps.take (i + 1)).filter (fun q => !decide (q = p)) = (ps.take i).filter (fun q => !decide (q = p)) ++ (if x = p then [] else [x]) := by
  rw [List.take_add_one, h, List.filter_append]
  congr 1
  by_cases e : x = p
  · rw [if_pos e]
    show List.filter _ [x] = []
    rw [List.filter_cons, if_neg (by rw [decide_eq_true e]; decide)]
    rfl
  · rw [if_neg e]
    show List.filter _ [x] = [x]
    rw [List.filter_cons, if_pos (by rw [decide_eq_false e]; rfl)]
    rfl
def spLook (T : Tx K mg) (m : Nat) : Sp := fun vs H Q E => ∃ (z : Int) (s t pth : Addr) (v : V) (ys : List V) (ps : List (Str × Str)) (d : PyData) (us : List Nat), vs = [.ref s, .int z, v, .ref pth] ∧ z = (m : Nat) ∧ H s = some (.tup ys) ∧ NkAll H ys (ps.map sayK) ∧ ps.length ≤ 50 ∧ Dq false t H v d ∧ Wid 50 d ∧ H pth = some (.tup (us.map fun k => V.int (k : Nat))) ∧ us.length + m ≤ 50 ∧ Tbs (tbs T) H ∧
  (∀ H', Gk (tbs T) H H' → caseF m ps d us = none → Q .non H') ∧
  ∀ dx p' wd us' H', Gk (tbs T) H H' → caseF m ps d us = some (wd, us') → H' dx = some (.xd [(("path" : Str), .ref p'), (("word" : Str), .str wd)]) → H' p' = some (.tup (us'.map fun k => V.int (k : Nat))) → E (.ref T.C_NoPaper) (some dx) H'
def spPrevL (T : Tx K mg) : Nat → Sp
  | 0 => fun _ _ _ _ => False
  | m + 1 => spLook T m
theorem look_step (T : Tx K mg) (B : Tb T base) {m n : Nat} (hn : 7 ≤ n) (G_look_at : FnOk P w K mg base (L2.CX P w) (n + 1) T.f_look_at T.d_look_at ["left", "more", "node", "path"] (spPrevL T m)) :
    FnOk P w K mg base (L2.CX P w) (n + 1 + 1) T.f_look_at T.d_look_at ["left", "more", "node", "path"] (spLook T m) := by
  have G_node_fault : FnOk P w K mg base CX0 7 T.f_node_fault T.d_node_fault ["left", "more", "node"] (spNodeF T) := ok_nodef T B
  have G_NoPaper : FnOk P w K mg base CX0 1 T.f_NoPaper T.d_NoPaper ["self", "word", "path"] (spInit T.C_NoPaper) := ok_init T
  refine T.F_look_at.okX S_look_at (fun vs H Q E h => ?_) (fun A outer s0 H vs Q E hr h => ?_)
  · obtain ⟨z, s, t, pth, v, ys, ps, d, us, rfl, _⟩ := h
    rfl
  · obtain ⟨z, s, t, pth, v, ys, ps, d, us, rfl, ez, hs, nk, l50, dq, wd, hp, lus, hB, q0, q1⟩ := h
    refine ⟨_, (pss_cons (ps_set (i := 4) S_look_at.nd rfl (.inl rfl) (pe_call G_node_fault (hr.mono (by omega)) (by rfl) T.g_node_fault T.F_node_fault.kp T.b_node_fault .nil pass0 (pa_cons (pv 0) (pa_cons (pv 1) (pa_cons (pv 2) pa_nil)))))
      (pss_cons (ps_if (pt_cmpR op_notN (pv 4) pe_non (nomark _)) (pss_one (ps_raise rfl (takes_of rfl rfl rfl rfl) (pmk_oex T.oex_NoPaper T.ic_NoPaper T.ti_NoPaper G_NoPaper (hr.mono (by omega)) T.bi_NoPaper .nil pass0 (by rfl) T.gC_NoPaper (pa_cons (pv 4) (pa_cons (pv 3) pa_nil))))) pss_nil)
      (pss_cons (ps_if (pt_cmpR (op_eqQT (un64 hr)) (pe_ix ix_tup (pv 2) pe_int (fun _ _ => rfl)) pe_str (nomark _)) (pss_one ps_retN) pss_nil)
      (pss_one (ps_for (passes_of rfl) rfl (pi_enumT (by rfl) T.m_enumerate (pa_cons (pe_ix ix_tup (pv 2) pe_int (fun _ _ => rfl)) pa_nil)) (pg_tup rfl (pgs_cons (pg_name (i := 5) S_look_at.nd rfl (.inl rfl)) (pgs_cons (pg_name (i := 6) S_look_at.nd rfl (.inl rfl)) pgs_nil)))
      (pss_cons (ps_set (i := 7) S_look_at.nd rfl (.inr rfl) (pe_ix ix_tup (pe_ix ix_tup (pv 2) pe_int (fun _ _ => rfl)) (pv 5) (fun _ _ => rfl)))
      (pss_one (ps_expr (pe_callS G_look_at (hr.mono (by omega)) (by rfl) T.g_look_at T.F_look_at.kp T.b_look_at (fun σ => passAt (takes_of rfl rfl rfl rfl) σ) (pa_cons (GE.pe_tupleG (own := [("saying", 8)]) (g := gName 8) (by rfl) S_look_at.nd hr (by rfl) T.m_tuple B.b_look_at rfl ⟨blkOk_by (own := [("saying", 8)]) (N := N_look_at) (sc := defScope s_look_at) (by decide +kernel), rfl, (by decide +kernel), (by decide +kernel)⟩ (pi_tup (pv 0)) (fun _ _ _ _ _ _ hr => (pg_name (i := 8) S_look_at.nd rfl (.inl rfl))) (fun _ _ _ _ _ _ hr => (pts_one (pt_cmpR (r := rEqP K fun b => !b) (op_neP (un64 hr)) (pv 8) (pv 7) (nomark _)))) (fun _ _ _ _ _ _ hr => (pv 8))) (pa_cons (pe_op op_sub (pv 1) pe_int) (pa_cons (pv 6) (pa_cons (pe_op op_catA (pv 3) (pe_tup (pa_cons (pv 5) pa_nil))) pa_nil))))))))))))), ?_⟩
    subst ez
    refine ⟨_, rfl, _, rfl, _, rfl, m, s, t, v, ys, ps, d, rfl, hs, nk, dq, wd, hB, fun H1 g1 e => ?_, fun w1 H1 g1 e => ?_⟩
    rotate_left
    · refine ⟨_, rfl, rfl, _, rfl, iteT ?_⟩
      refine ⟨_, rfl, _, rfl, by show 2 ≤ 1000; decide, fun c nc => ⟨c, _, _, rfl, upd_same, fun dx nd ne => ⟨rfl, dx, [(("path" : Str), .ref pth), (("word" : Str), .str w1)], ?_, upd_same, ?_, ?_⟩⟩⟩
      · rw [upd_ne ne.symm]; exact upd_same
      · rw [upd_ne ne] at nd; exact nd
      · have sm := exc_sameP (y := exd dx [(("word" : Str), .str w1)]) (y2 := exd dx [(("path" : Str), .ref pth), (("word" : Str), .str w1)]) (z := exo c T.C_NoPaper (some dx)) (o := .xd [(("path" : Str), .ref pth), (("word" : Str), .str w1)]) nc nd ne
        exact q1 dx pth w1 us _ (g1.trans (.of_same sm g1.2)) (case_node e) upd_same (sm _ _ (g1.tup hp))
    · refine ⟨_, rfl, rfl, _, rfl, iteF ?_⟩
      have dq1 := Dq.gk dq g1
      have sh : shapeF m d = true := by
        cases h : shapeF m d with
        | true => rfl
        | false => rw [node_shape h] at e; cases e
      rcases shape_cases sh with ⟨h0, rs, rfl, e1⟩ | ⟨h0, as, bs, rfl, e1, e2, lb⟩
      · obtain ⟨th, ws, rfl, an, hw, da⟩ := dq_tuple_at dq1
        have hw : H1 th = some (.tup ws) := hw.elim id fun ⟨f, _⟩ => by cases f
        cases da with
        | @cons v0 ws _ _ d0 da =>
          refine ⟨_, rfl, th, _, 0, v0, rfl, rfl, .inl (.inl hw), at_of (j := 0) rfl rfl, false, t, _, h0, rfl, d0, _, rfl, ite2 (fun _ => ?_) (fun z => absurd e1 z)⟩
          exact q0 _ g1 (case_rings e)
      · obtain ⟨th, ws, rfl, an, hw, da⟩ := dq_tuple_at dq1
        have hw : H1 th = some (.tup ws) := hw.elim id fun ⟨f, _⟩ => by cases f
        have wi := wd.items
        have wa := wi.2 (.tuple as) (by simp)
        have wb := wi.2 (.tuple bs) (by simp)
        cases da with
        | @cons v0 ws _ _ d0 da =>
          cases da with
          | @cons v1 ws _ _ d1 da =>
            cases da with
            | @cons v2 ws _ _ d2 da =>
              cases da
              obtain ⟨a1, w1, rfl, an1, hw1, da1⟩ := dq_tuple_at d1
              have hw1 : H1 a1 = some (.tup w1) := hw1.elim id fun ⟨f, _⟩ => by cases f
              obtain ⟨a2, w2, rfl, an2, hw2, da2⟩ := dq_tuple_at d2
              have hw2 : H1 a2 = some (.tup w2) := hw2.elim id fun ⟨f, _⟩ => by cases f
              have l1 : w1.length = as.length := da1.length
              have l2 : w2.length = bs.length := da2.length
              refine ⟨_, rfl, th, _, 0, v0, rfl, rfl, .inl (.inl hw), at_of (j := 0) rfl rfl, false, t, _, h0, rfl, d0, _, rfl, ite2 (fun z => absurd z (by rw [e1]; exact Bool.noConfusion)) (fun _ => ?_)⟩
              refine ⟨_, rfl, th, _, 2, .ref a2, rfl, rfl, .inl (.inl hw), at_of (j := 2) rfl rfl, a2, w2, rfl, .inl (.inl hw2), ?_⟩
              have no1 := node_one (ps := ps) sh
              rw [e] at no1
              have rb : ringB ps (.tuple as) = true := by
                refine Classical.byContradiction fun z => ?_
                rw [if_neg z] at no1
                cases no1
              obtain ⟨wp, ew, ir⟩ := ringB_of rb
              injection ew with ew
              have nkr : NkAll H1 w1 (wp.map sayK) := by rw [ew] at da1; exact dqs_say da1
              refine for_it (walk_enumT (xs := w2)) (fun i σ Hx => (∃ y5 y6 y7 y8, σ = [some (.ref s), some (.int (m : Nat)), some (.ref th), some (.ref pth), some .non, y5, y6, y7, y8]) ∧ Gk (tbs T) H1 Hx ∧ ∀ j m', j < i → m = m' + 1 → partF m' ps as bs us j = none) ⟨⟨_, _, _, _, rfl⟩, .refl g1.2, fun j m' hj => by omega⟩ (fun i σ Hx _ h => .inl (.inl (h.2.1.tup hw2))) ?_ ?_
              · rintro i x σ H3 H4 hi ⟨⟨y5, y6, y7, y8, rfl⟩, gx, al⟩ ⟨Tn, xk, xr, rfl, hn', rfl, h1, h2⟩
                have h1 : some (V.int (i : Nat)) = some xk := h1
                cases h1
                have h2 : w2[i]? = some xr := h2
                have s5 := same_upd (o := .tup [V.int (i : Nat), xr]) hn'
                refine ⟨Tn, _, rfl, .inl (.inl upd_same), rfl, _, _, rfl, _, _, rfl, rfl, ?_⟩
                have g5 := gx.trans (.of_same s5 gx.2)
                generalize upd H3 Tn (.tup [V.int (i : Nat), xr]) = H5 at g5 ⊢
                obtain ⟨m', rfl⟩ : ∃ m', m = m' + 1 := by
                  cases m with
                  | zero => rw [if_pos rfl] at lb; omega
                  | succ m' => exact ⟨m', rfl⟩
                rw [if_neg (by omega)] at lb
                have G_look_at : FnOk P w K mg base (L2.CX P w) (n + 1) T.f_look_at T.d_look_at ["left", "more", "node", "path"] (spLook T m') := G_look_at
                have lwp : as.length = wp.length := by rw [ew, List.length_map]
                obtain ⟨p, hpi⟩ : ∃ p, wp[i]? = some p := ⟨_, List.getElem?_eq_getElem (by omega)⟩
                obtain ⟨y, hy, hyy⟩ := say_at nkr hpi
                obtain ⟨db, hdb, dqb⟩ := (DqAll.gk da2 g5).get h2
                have hasi : as[i]? = some (sayD p) := by rw [ew, List.getElem?_map, hpi]; rfl
                have epart : partF m' ps as bs us i = caseF m' (ps.filter fun q => !decide (q = p)) db (us ++ [i]) := by
                  unfold partF
                  rw [hasi, hdb]
                  rfl
                have g15 := g1.trans g5
                have hy5 := g5.tup hyy
                refine ⟨_, rfl, th, _, 1, .ref a1, rfl, rfl, .inl (.inl (g5.tup hw)), at_of (j := 1) rfl rfl, _, rfl, a1, w1, (i : Nat), .ref y, rfl, rfl, .inl (.inl (g5.tup hw1)), at_of (j := i) (by omega) hy, ?_⟩
                refine ⟨_, rfl, s, rfl, ⟨_, .inl (.inl (g15.tup hs))⟩, g5.2.gen _ (by simp [tbs]), fun H6 tab => ?_⟩
                have g6 := g5.trans ((Tk.of g5.2 (by simp [tbs]) tab).gk g5.2)
                have g16 := g1.trans g6
                have hs6 := g16.tup hs
                have nk6 := nk.at g16.tups
                have hy6 := g6.tup hyy
                have ly : ys.length = ps.length := by have := nk.length; rw [List.length_map] at this; exact this
                refine GE.tg_it (walk_tup (xs := ys)) (fun i us Hx => Hx = H6 ∧ NkAll H6 us (((ps.take i).filter fun q => !decide (q = p)).map sayK) ∧ us.length ≤ i) ⟨rfl, .nil, Nat.le_refl _⟩ ?_ ?_ ?_
                · rintro i us Hx _ ⟨rfl, _⟩
                  exact .inl (.inl hs6)
                · rintro j x us' H7 H8 hj ⟨rfl, n3, l3⟩ ⟨rfl, hx⟩
                  obtain ⟨k', hk', nx⟩ := nk6.get hx
                  obtain ⟨q, hq, rfl⟩ : ∃ q, ps[j]? = some q ∧ k' = sayK q := by
                    rw [List.getElem?_map] at hk'
                    cases e : ps[j]? with
                    | none => rw [e] at hk'; cases hk'
                    | some y => rw [e] at hk'; exact ⟨y, rfl, (Option.some.inj hk').symm⟩
                  obtain ⟨y2, rfl, hy2⟩ := say_nk nx
                  refine ⟨rfl, _, rfl, _, rfl, y2, y, q, p, rfl, rfl, .inl (.inl hy2), .inl (.inl hy6), _, rfl, ite2 (fun e => ?_) (fun e => ?_)⟩
                  · have e : q ≠ p := fun z => by
                      have e : (!decide (q = p)) = true := e
                      rw [decide_eq_true z] at e
                      cases e
                    refine ⟨_, rfl, small1000 (by omega), rfl, ?_, by rw [List.length_append]; exact Nat.succ_le_succ l3⟩
                    rw [out_one hq, if_neg e, List.map_append]
                    exact n3.app (.cons nx .nil)
                  · have e : q = p := Classical.byContradiction fun z => e (show (!decide (q = p)) = true by rw [decide_eq_false z]; rfl)
                    refine ⟨rfl, ?_, by omega⟩
                    rw [out_one hq, if_pos e, List.append_nil]
                    exact n3
                · rintro us' H7 ⟨rfl, n3, l3⟩
                  rw [ly, List.take_of_length_le (Nat.le_refl _)] at n3
                  refine ⟨sz (by omega), fun r nr => ?_⟩
                  have s8 := same_upd (o := .tup us') nr
                  have hr8 := upd_same (H := H7) (a := r) (o := .tup us')
                  have n8 := n3.at (.same s8)
                  have g8 := g6.trans (.of_same s8 g6.2)
                  generalize upd H7 r (.tup us') = H8 at hr8 n8 g8 ⊢
                  refine ⟨_, rfl, _, _, rfl, rfl, _, rfl, _, rfl, _, rfl, sz (by show 1 ≤ 1000; decide), fun e1 n1 => ?_⟩
                  have s9 := same_upd (o := .tup [V.int (i : Nat)]) n1
                  have g9 := g8.trans (.of_same s9 g8.2)
                  have g19 := g1.trans g9
                  refine cat_path (k := i) (g19.tup hp) upd_same (by omega) fun pr H10 s10 hpr => ?_
                  have g10 := g9.trans (.of_same s10 g9.2)
                  have g110 := g1.trans g10
                  have t810 : Tups H8 H10 := .same (s9.trans s10)
                  obtain ⟨db2, hdb2, dqb10⟩ := (DqAll.gk da2 g10).get h2
                  rw [hdb] at hdb2
                  cases hdb2
                  refine ⟨_, r, t, pr, xr, us', ps.filter (fun q => !decide (q = p)), db, us ++ [i], rfl, by omega, t810 _ _ hr8, n8.at t810, Nat.le_trans (List.length_filter_le _ _) l50, dqb10, wb.items.2 db (List.mem_of_getElem? hdb), hpr, by rw [List.length_append]; show _ + 1 + _ ≤ 50; omega, g110.2, fun H11 g11 ef => ?_, fun dx p' wd2 us2 H11 g11 ef hdx hp' => ?_⟩
                  · refine ⟨⟨_, _, _, _, rfl⟩, g10.trans g11, fun j m2 hj hm2 => ?_⟩
                    have : m2 = m' := by omega
                    subst this
                    rcases Nat.lt_succ_iff_lt_or_eq.mp hj with h | rfl
                    · exact al j _ h rfl
                    · rw [epart]; exact ef
                  · refine q1 dx p' wd2 us2 H11 (g110.trans g11) ?_ hdx hp'
                    rw [case_one e]
                    exact find_first (k := i) (by omega) (by rw [epart]; exact ef) fun j hj => al j _ hj rfl
              · rintro σ Hx ⟨⟨y5, y6, y7, y8, rfl⟩, gx, al⟩
                refine q0 _ (g1.trans gx) ?_
                cases m with
                | zero => exact case_zero e
                | succ m' =>
                  rw [case_one e]
                  exact find_none fun j hj => al j m' (by omega) rfl
theorem look_all (T : Tx K mg) (B : Tb T base) : ∀ m : Nat, m ≤ 4 → FnOk P w K mg base (L2.CX P w) (9 + m) T.f_look_at T.d_look_at ["left", "more", "node", "path"] (spLook T m)
  | 0, _ => look_step T B (m := 0) (n := 7) (by decide) (T.F_look_at.okX (k := 7) S_look_at (fun vs H Q E h => h.elim) (fun A outer s H vs Q E hr h => h.elim))
  | m + 1, h => by
    have := look_step T B (m := m + 1) (n := 8 + m) (by omega) (by
      have := look_all T B m (by omega)
      rw [show 8 + m + 1 = 9 + m by omega]
      exact this)
    rw [show 8 + m + 1 + 1 = 9 + (m + 1) by omega] at this
    exact this
def spLookAll (T : Tx K mg) : Sp := fun vs H Q E => ∃ m, m ≤ 4 ∧ spLook T m vs H Q E
theorem ok_look (T : Tx K mg) (B : Tb T base) : FnOk P w K mg base (L2.CX P w) 13 T.f_look_at T.d_look_at ["left", "more", "node", "path"] (spLookAll T) := by
  refine ⟨fun vs H Q E ⟨m, hm, h⟩ => (look_all (P := P) (w := w) T B m hm).len vs H Q E h, fun A outer s H args us vs Q E hr env bd rv ⟨m, hm, h⟩ => ?_⟩
  exact (look_all T B m hm).run A outer s H args us vs Q E (hr.mono (by show 9 + m ≤ 13; omega)) env bd rv h
def spLetsL (T : Tx K mg) : Sp := fun vs H Q E => ∃ (m : Nat) (nv : V) (s t : Addr) (v : V) (ys : List V) (ps : List (Str × Str)) (d : PyData), vs = [nv, .ref s, .int (m : Nat), v] ∧ m ≤ 4 ∧ H s = some (.tup ys) ∧ NkAll H ys (ps.map sayK) ∧ ps.length ≤ 50 ∧ Dq false t H v d ∧ Wid 50 d ∧ Tbs (tbs T) H ∧
  (∀ H', Gk (tbs T) H H' → caseF m ps d [] = none → Q (.bl true) H') ∧
  ∀ dx p' wd us' H', Gk (tbs T) H H' → caseF m ps d [] = some (wd, us') → H' dx = some (.xd [(("path" : Str), .ref p'), (("word" : Str), .str wd)]) → H' p' = some (.tup (us'.map fun k => V.int (k : Nat))) → E (.ref T.C_NoPaper) (some dx) H'
theorem ok_letsl (T : Tx K mg) (B : Tb T base) : FnOk P w K mg base (L2.CX P w) 14 T.f_lets_letting T.d_lets_letting ["names", "some", "number", "thing"] (spLetsL T) := by
  have G_look_at : FnOk P w K mg base (L2.CX P w) 13 T.f_look_at T.d_look_at ["left", "more", "node", "path"] (spLookAll T) := ok_look T B
  refine T.F_lets_letting.okX S_lets_letting (fun vs H Q E h => ?_) (fun cdv A outer s0 H vs Q E hr h => ?_)
  · obtain ⟨m, nv, s, t, v, ys, ps, d, rfl, _⟩ := h
    rfl
  · obtain ⟨m, nv, s, t, v, ys, ps, d, rfl, m4, hs, nk, l50, dq, wd, hB, q0, q1⟩ := h
    refine ⟨_, (pss_cons (ps_expr (pe_callS G_look_at hr (by rfl) T.g_look_at T.F_look_at.kp T.b_look_at (fun σ => passAt (takes_of rfl rfl rfl rfl) σ) (pa_cons (pv 1) (pa_cons (pv 2) (pa_cons (pv 3) (pa_cons (pe_tup pa_nil) pa_nil))))))
      (pss_one (ps_ret pe_bl))), ?_⟩
    refine ⟨_, rfl, _, rfl, _, rfl, sz (by show 0 ≤ 1000; decide), fun c nc => ?_⟩
    have sc := same_upd (o := .tup []) nc
    have g0 := Gk.of_same sc hB
    refine ⟨m, m4, _, s, t, c, v, ys, ps, d, [], rfl, rfl, sc _ _ hs, nk.at (.same sc), l50, dq.same sc, wd, upd_same, by show 0 + m ≤ 50; omega, g0.2, fun H1 g1 e => ?_, fun dx p' w1 us' H1 g1 e hd hp => ?_⟩
    · exact q0 _ (g0.trans g1) e
    · exact q1 dx p' w1 us' _ (g0.trans g1) e hd hp
end
end L45

set_option Elab.async false
set_option linter.all false
set_option maxRecDepth 100000
set_option maxHeartbeats 4000000
/-! Sets of texts: set(xs), sorted(set). -/
namespace My
open PySem PySem.Spec PyProof.Rows L2 PySem.SeqAt PySem.W
abbrev SKd (P : Program) (w : World) : PySem.KeyKind P w Str := PySem.strKind P w
def GoodX (w : World) (e : Int × Value) (x : Str) : Prop := (∃ tk, e.2 = Value.str x tk) ∧ e.1 = hashStr w x
/-- entries and their texts -/
inductive Texts (w : World) : List (Int × Value) → List Str → Prop
  | nil : Texts w [] []
  | cons {e : Int × Value} {x : Str} {es : List (Int × Value)} {L : List Str} : GoodX w e x → Texts w es L → Texts w (e :: es) (x :: L)
theorem Texts.perm {w : World} {es es' : List (Int × Value)} (p : es'.Perm es) : ∀ {L : List Str}, Texts w es L → ∃ L', Texts w es' L' ∧ L'.Perm L := by
  induction p with
  | nil => intro L h; exact ⟨L, h, .refl _⟩
  | cons x p ih =>
    intro L h
    cases h with
    | cons g t =>
      obtain ⟨L', h', p'⟩ := ih t
      exact ⟨_ :: L', .cons g h', p'.cons _⟩
  | swap x y l =>
    intro L h
    cases h with
    | cons g t =>
      cases t with
      | cons g2 t => exact ⟨_, .cons g2 (.cons g t), .swap _ _ _⟩
  | trans p q ih1 ih2 =>
    intro L h
    obtain ⟨L1, h1, p1⟩ := ih2 h
    obtain ⟨L2, h2, p2⟩ := ih1 h1
    exact ⟨L2, h2, p2.trans p1⟩
theorem Texts.length {w : World} : ∀ {es : List (Int × Value)} {L : List Str}, Texts w es L → es.length = L.length
  | _, _, .nil => rfl
  | _, _, .cons _ t => congrArg (· + 1) t.length
theorem Texts.elems {P : Program} {w : World} : ∀ {es : List (Int × Value)} {L : List Str}, Texts w es L → ElemsOf (SKd P w) es
  | _, _, .nil => fun e he => by cases he
  | _, _, .cons (e := e0) (x := x) ⟨⟨tk, h1⟩, h2⟩ t => fun e he => by
    rcases List.mem_cons.mp he with z | z
    · rw [z]
      exact ⟨⟨x, by rw [h1]; exact strKind_is P w x tk, h2⟩, by rw [h1]; rfl⟩
    · exact t.elems e z
theorem Texts.has {P : Program} {w : World} (k : Str) : ∀ {es : List (Int × Value)} {L : List Str}, Texts w es L → (k ∈ L ↔ ∃ e ∈ es, (SKd P w).is k e.2 = true)
  | _, _, .nil => ⟨(fun h => by cases h), fun ⟨e, h, _⟩ => by cases h⟩
  | _, _, .cons (e := e0) (x := x) ⟨⟨tk, h1⟩, h2⟩ t => by
    have ih := t.has (P := P) k
    constructor
    · intro h
      rcases List.mem_cons.mp h with z | z
      · exact ⟨e0, .head _, by rw [h1, z]; exact strKind_is P w x tk⟩
      · obtain ⟨e, he, q⟩ := ih.mp z
        exact ⟨e, .tail _ he, q⟩
    · rintro ⟨e, he, q⟩
      rcases List.mem_cons.mp he with z | z
      · rw [z, h1] at q
        rw [(SKd P w).inj _ _ _ q (strKind_is P w x tk)]
        exact .head _
      · exact .tail _ (ih.mpr ⟨e, z, q⟩)
/-- the set of texts at a -/
structure SetX (w : World) (h : Heap) (a : Addr) (L : List Str) : Prop where
  ex : ∃ o es ep t, h.get? a = some o ∧ o.ExactSet ∧ o.data = .set es ep t ∧ Texts w es.toList L ∧ t.fits es.size = true ∧ Ris t.place.toList ∧ (w.params.followText "set-order" = true ∨ t.led = true)
  nd : L.Nodup
  few : L.length < scanBound
theorem SetX.at {w : World} {h h' : Heap} {a : Addr} {L : List Str} (Z : SetX w h a L) (k : ∀ o, h.get? a = some o → h'.get? a = some o) : SetX w h' a L := ⟨let ⟨o, es, ep, t, g, r⟩ := Z.ex; ⟨o, es, ep, t, k o g, r⟩, Z.nd, Z.few⟩
section
variable {P : Program} {w : World} {A : Around} {E : Value → Shared → Prop} {s : Shared} {a : Addr} {L : List Str}
/-- the new entry is stored, the table laid anew where it is too full -/
theorem tailX {g : Bool → Sem Unit} (hg : ∀ (b : Bool) (s₁ : Shared) (Q' : Unit → Shared → Prop), Q' () s₁ → wpAny (model P w) A (g b) Q' E s₁) {o : Obj} {es : Array (Int × Value)} {ep : Nat} {t : SetTable} (g1 : s.heap.get? a = some o) (g2 : o.ExactSet) (g3 : o.data = .set es ep t)
    {es1 : Array (Int × Value)} {t2 : SetTable} {L1 : List Str} (tx : Texts w es1.toList L1) (nd : L1.Nodup) (few : L1.length < scanBound) (ft : t2.fits es1.size = true) (ri : Ris t2.place.toList) (ld : w.params.followText "set-order" = true ∨ t2.led = true) {dm : Bool} {R : Option Bool → Shared → Prop}
    (q : ∀ h' L', Heap.SameBut a s.heap h' → SetX w h' a L' → L'.Perm L1 → R (some true) { s with heap := h' }) :
    wpAny (model P w) A (do
        storeSet a es1 t2
        if (!dm && t2.tooFull) = true then do
            g (relayAll t2 es1 (SetTable.grown es1.size)).2.2
            storeSet a (relayAll t2 es1 (SetTable.grown es1.size)).1 (relayAll t2 es1 (SetTable.grown es1.size)).2.1
            pure (some true)
          else pure (some true)) R E s := by
  have l1 : es1.size < scanBound := by rw [← Array.length_toList, tx.length]; exact few
  refine wpAny_bind (wpAny_storeSet_of g1 g3 ?_ (fits_of_scanBound l1))
  have k1 := store_at (es' := es1) (t' := t2) g1 g3
  have sb1 := Heap.SameBut.update s.heap a (Obj.putSet es1 t2)
  by_cases c : (!dm && t2.tooFull) = true
  · refine wp_if_pos c ?_
    have pm := relayAll_perm t2 es1 (SetTable.grown es1.size)
    have ft3 := relayAll_fits t2 es1 (SetTable.grown es1.size)
    have ri3 := relayAll_ris t2 es1 (SetTable.grown es1.size)
    have ld3 := relayAll_led t2 es1 (SetTable.grown es1.size)
    generalize relayAll t2 es1 (SetTable.grown es1.size) = Y at pm ft3 ri3 ld3 ⊢
    obtain ⟨es2, t3, gave⟩ := Y
    obtain ⟨L2, tx2, p2⟩ := tx.perm pm
    have l2 : es2.size < scanBound := by rw [← Array.length_toList, tx2.length, p2.length_eq]; exact few
    refine wpAny_bind (hg _ _ _ (wpAny_bind (wpAny_storeSet_of k1 rfl ?_ (fits_of_scanBound l2))))
    refine wpAny_pure (q _ L2 (sb1.trans (Heap.SameBut.update _ a _)) ⟨⟨_, es2, _, t3, store_at (es' := es2) (t' := t3) k1 rfl, g2, rfl, tx2, ft3, ri3, ld.imp id fun z => by rw [ld3]; exact z⟩, p2.nodup_iff.mpr nd, by rw [p2.length_eq]; exact few⟩ p2)
  · exact wp_if_neg c (wpAny_pure (q _ L1 sb1 ⟨⟨_, es1, _, t2, k1, g2, rfl, tx, ft, ri, ld⟩, nd, few⟩ (.refl _)))
theorem addX (Z : SetX w s.heap a L) {x : Str} {tk : Tok} (room : L.length + 1 < scanBound) {Q : Bool → Shared → Prop} (q : ∀ b h' L', Heap.SameBut a s.heap h' → SetX w h' a L' → (x ∈ L → L' = L) → (x ∉ L → L'.Perm (x :: L)) → Q b { s with heap := h' }) :
    wpAny (model P w) A (setAddHashed a (.str x tk) ((SKd P w).hash x)) Q E s := by
  obtain ⟨o, es, ep, t, g1, g2, g3, tx, ft, ri, ld⟩ := Z.ex
  have el : ElemsOf (SKd P w) es.toList := tx.elems
  have lb : es.size < scanBound := by rw [← Array.length_toList, tx.length]; exact Z.few
  unfold setAddHashed setAddHashedIn
  refine wpAny_holding (wpAny_bind (wpAny_setState_of g1 g3 ft ?_))
  dsimp only
  rw [byScan_of (rfl : (Value.str x tk).scannable = true) lb el]
  simp only [↓reduceIte]
  unfold setAddByScan
  refine wpAny_bind (wpAny_bind (wpAny_rule (wpAny_bind (wpAny_setScan_of (strKind_is P w x tk) g1 g3 ft el ?_))))
  cases fi : List.findIdx? (fun e => (SKd P w).is x e.2) es.toList with
  | some j =>
    obtain ⟨lj, pj, _⟩ := List.findIdx?_eq_some_iff_getElem.mp fi
    have xin : x ∈ L := (tx.has (P := P) x).mpr ⟨_, List.getElem_mem lj, pj⟩
    exact wpAny_pure (wpAny_pure (q _ s.heap L (Heap.SameBut.refl a s.heap) Z (fun _ => rfl) fun z => absurd xin z))
  | none =>
    have xout : x ∉ L := fun z => by
      obtain ⟨e, he, p⟩ := (tx.has (P := P) x).mp z
      rw [List.findIdx?_eq_none_iff.mp fi e he] at p
      cases p
    have pm := layNew_perm t es ((SKd P w).hash x) (.str x tk)
    have ft1 := layNew_fits t es ((SKd P w).hash x) (.str x tk)
    have ri1 := layNew_ris t es ((SKd P w).hash x) (.str x tk) ri
    have ld1 := layNew_led t es ((SKd P w).hash x) (.str x tk)
    dsimp only
    generalize layNew t es ((SKd P w).hash x) (.str x tk) = Y at pm ft1 ri1 ld1 ⊢
    obtain ⟨es1, t1, dm, gave⟩ := Y
    dsimp only at pm ft1 ri1 ld1 ⊢
    rw [Array.toList_push] at pm
    obtain ⟨L1, tx1, p1⟩ := Texts.perm (pm.trans (List.perm_append_singleton _ _)) (Texts.cons (x := x) ⟨⟨tk, rfl⟩, rfl⟩ tx)
    have nd1 : L1.Nodup := p1.nodup_iff.mpr (List.nodup_cons.mpr ⟨xout, Z.nd⟩)
    have few1 : L1.length < scanBound := by rw [p1.length_eq]; exact room
    have led1 : w.params.followText "set-order" = true ∨ t1.led = true := ld.imp id fun z => by rw [ld1]; exact z
    have gw : ∀ (b : Bool) (s₁ : Shared) (Q' : Unit → Shared → Prop), Q' () s₁ → wpAny (model P w) A (match b with | true => rule "set.scan.the-table-gave-way" | false => pure ()) Q' E s₁ := fun b s₁ Q' q => by cases b <;> first | exact wpAny_pure q | exact wpAny_rule q
    have fin : ∀ h' L', Heap.SameBut a s.heap h' → SetX w h' a L' → L'.Perm L1 → Q true { s with heap := h' } := fun h' L' sb Z' p => q true h' L' sb Z' (fun z => absurd z xout) fun _ => p.trans p1
    refine wpAny_bind (gw _ _ _ ?_)
    by_cases pl : t1.plain = true
    · refine wp_if_pos pl (wpAny_bind ?_)
      rw [hashByValue_scannable 8 (rfl : (Value.str x tk).scannable = true)]
      refine wpAny_pure ?_
      refine tailX (fun b s₁ Q' q => gw b s₁ Q' q) g1 g2 g3 tx1 nd1 few1 ?_ ?_ ?_ fun h' L' sb Z' p => wpAny_pure (fin h' L' sb Z' p)
      · first | exact ft1 | (split <;> first | exact ft1 | exact SetTable.fits_plain_off ft1)
      · first | exact ri1 | (split <;> exact ri1)
      · first | exact led1 | (split <;> exact led1)
    · refine wp_if_neg pl (wpAny_bind (wpAny_pure ?_))
      simp only [↓reduceIte]
      exact tailX (fun b s₁ Q' q => gw b s₁ Q' q) g1 g2 g3 tx1 nd1 few1 ft1 ri1 led1 fun h' L' sb Z' p => wpAny_pure (fin h' L' sb Z' p)
theorem addsX {h0 : Heap} {S : Addr} {wr : List Addr} {xs : List Str} {n : Nat} {Pv : Nat → Value → Prop} (hn : n = xs.length) (few : xs.length + 1 < scanBound) (pv : ∀ i v, Pv i v → ∃ x tk, xs[i]? = some x ∧ v = .str x tk) (nS : h0.get? S = none) (nw : ∀ b ∈ wr, h0.get? b = none) (Sw : S ∉ wr) :
    Adds P w A S wr n Pv (fun i h => (∃ L, SetX w h S L ∧ (∀ x, x ∈ L ↔ x ∈ xs.take i) ∧ L.length ≤ i) ∧ ∀ b o, h0.get? b = some o → h.get? b = some o) where
  stay := fun i h h' ⟨⟨L, Z, g⟩, kp⟩ st => ⟨⟨L, Z.at fun o e => st _ _ Sw e, g⟩, fun b o e => st b o (fun z => by rw [nw b z] at e; cases e) (kp b o e)⟩
  add := fun i v s Q E lt pvi ⟨⟨L, Z, g, ll⟩, kp⟩ q => by
    obtain ⟨x, tk, ex, rfl⟩ := pv i v pvi
    unfold setAdd
    refine wpAny_holding (wpAny_bind ((SKd P w).pyHash (strKind_is P w x tk) ?_))
    refine addX (s := { s with toks := s.toks + 1 }) Z (by omega) fun b h' L' sb Z' c1 c2 => q b h' _ ⟨⟨L', Z', fun y => ?_, ?_⟩, fun c o e => ?_⟩ (Nat.le_add_right _ _) sb
    · rw [List.take_add_one, ex]
      show _ ↔ y ∈ xs.take i ++ [x]
      rw [List.mem_append, List.mem_singleton, ← g y]
      by_cases c : x ∈ L
      · rw [c1 c]
        exact ⟨.inl, fun z => z.elim id fun e => by rw [e]; exact c⟩
      · rw [(c2 c).mem_iff, List.mem_cons]
        exact Or.comm
    · by_cases c : x ∈ L
      · rw [c1 c]; omega
      · rw [(c2 c).length_eq]; exact Nat.succ_le_succ ll
    · exact (sb.2 c (fun z => by rw [z, nS] at e; cases e)).trans (kp c o e)
end
theorem fresh_setX {w : World} {h : Heap} {a : Addr} (g : h.get? a = some (freshSet w)) : SetX w h a [] where
  ex := ⟨_, #[], 0, _, g, ⟨rfl, rfl, rfl⟩, rfl, .nil, rfl, List.Pairwise.nil, by
    cases e : w.params.followText "set-order"
    · exact .inr rfl
    · exact .inl rfl⟩
  nd := List.nodup_nil
  few := by show 0 < scanBound; unfold scanBound; decide
def SetXO (w : World) (a : Addr) (L : List Str) : HO := .ext fun h => SetX w h a L
theorem setXO_new {P : Program} {w : World} {H : Hp} {h : Heap} {a : Addr} {L : List Str} (Z : SetX w h a L) : ObjOk P w H h a (SetXO w a L) := by
  obtain ⟨o, es, ep, t, g, _⟩ := Z.ex
  exact ⟨Z, ⟨o, g⟩, fun h1 h2 p k => SetX.at (p : SetX w h1 a L) fun o e => k o e⟩
section
variable {X : Cx}
/-- set(xs), xs a list of texts -/
def rSetX (K : PySem.W.Frag) (w : World) : List V → Hp → VK → Prop := fun xs H Q => ∃ (l : Addr) (zs : List Str), xs = [V.ref l] ∧ SqL K H l (zs.map V.str) ∧ zs.length ≤ 1000 ∧ ∀ a L, H a = none → (∀ x, x ∈ L ↔ x ∈ zs) → L.Nodup → Q (.ref a) (upd H a (SetXO w a L))
theorem cr_setX (hc : X.calm = true) : CallR X (.type "set") (rSetX X.K X.w) := by
  intro pins s σ H xs us Q I r h
  obtain ⟨l, zs, rfl, hl, few, q⟩ := h
  rw [Vals.ref1 r]
  obtain ⟨its, rv, pl, hz⟩ := I.list hl
  have li : its.length = zs.length := by rw [← rv.length, List.length_map]
  have non : ∀ b, s.heap.objs.size ≤ b → s.heap.get? b = none := fun b lb => by
    cases e : s.heap.get? b with
    | none => rfl
    | some o => exact absurd (Nat.lt_of_lt_of_le (Heap.lt_size e) lb) (Nat.lt_irrefl _)
  refine callG (P := X.prog) (w := X.w) (items := its.toArray) (I.ok.hd hc) pl.isList (addsX (h0 := s.heap) (xs := zs) (by rw [List.size_toArray, li]) (by unfold scanBound; omega) (fun i v e => ?_) (non _ (Nat.le_refl _)) (fun b hb => ?_) ?_)
    (fun h g kp => ⟨⟨[], fresh_setX g, (fun x => by rw [List.take_zero]), Nat.le_refl _⟩, kp⟩) fun h' tk t1 kp => ?_
  · rw [List.getElem?_toArray] at e
    have il := (List.getElem?_eq_some_iff.mp e).1
    obtain ⟨v2, hv2, rx⟩ := rv.get (i := i) (x := .str zs[i]) (by rw [List.getElem?_map, List.getElem?_eq_getElem (by omega)]; rfl)
    rw [e] at hv2
    cases hv2
    obtain ⟨tk, rfl⟩ := rx
    exact ⟨_, tk, List.getElem?_eq_getElem (by omega), rfl⟩
  · rw [List.mem_singleton.mp hb]; exact non _ (Nat.le_succ _)
  · exact fun z => Nat.ne_of_lt (Nat.lt_succ_self _) (List.mem_singleton.mp z)
  · obtain ⟨⟨L, Z, g, _⟩, _⟩ := t1
    rw [List.size_toArray, li, List.take_length] at g
    exact ⟨.ref s.heap.objs.size, upd H s.heap.objs.size (SetXO X.w s.heap.objs.size L), I.laid (t' := tk) kp (Nat.le_refl _) (setXO_new Z), rfl, q _ L (I.hok.fresh (Nat.le_refl _)) g Z.nd⟩
end
end My

set_option Elab.async false
set_option linter.all false
set_option maxRecDepth 100000
set_option maxHeartbeats 4000000
namespace My
open PySem PySem.Spec PyProof.Rows L2 PySem.SeqAt PySem.W
/-- texts, sorted -/
def srtX (L : List Str) : List Str := L.mergeSort (fun a b => decide (a.cps.toList ≤ b.cps.toList))
theorem srtX_perm (L : List Str) : (srtX L).Perm L := List.mergeSort_perm _ _
theorem srtX_pw (L : List Str) : (srtX L).Pairwise (fun a b => a.cps.toList ≤ b.cps.toList) := by
  have := List.pairwise_mergeSort (le := fun a b : Str => decide (a.cps.toList ≤ b.cps.toList)) (fun a b c h1 h2 => decide_eq_true (List.le_trans (of_decide_eq_true h1) (of_decide_eq_true h2))) (fun a b => by
    rcases List.le_total a.cps.toList b.cps.toList with h | h
    · rw [decide_eq_true h]; rfl
    · rw [decide_eq_true h, Bool.or_true]) L
  exact this.imp fun h => of_decide_eq_true h
theorem str_vals : ∀ {L : List Str} {vs : List Value}, EachIs (fun v x => ∃ tk, v = Value.str x tk) vs L → Vals (L.map V.str) vs
  | _, _, .nil => .nil
  | _, _, .cons r t => .cons r (str_vals t)
section
variable {X : Cx} {pins : List (Addr × Obj)} {σ : L2.St} {H : Hp} {s : Shared} {E : Value → Shared → Prop}
theorem sort_tailX {L : List Str} {vs : List Value} {Q : Value → Shared → Prop} (I : Inv X pins σ H s) (un : X.A.units + 60 < cLine) (rv : EachIs (fun v x => ∃ tk, v = Value.str x tk) vs L) (hz : vs.length ≤ sizeLine) (p : Addr) (ep : p = s.heap.objs.size)
    (q : ∀ s', Inv X pins σ (upd H p (.lst ((srtX L).map V.str))) s' → Q (.ref p) s') :
    wpAny (model X.prog X.w) X.A.in1 (call (.builtin "list.sort") [.ref p]) (fun _ s' => Q (.ref p) s') E { s with heap := s.heap.push (seqObj "list" vs.toArray 0) } := by
  subst ep
  have ho : (s.heap.push (seqObj "list" vs.toArray 0)).get? s.heap.objs.size = some (seqObj "list" vs.toArray 0) := Heap.get?_push_size _ rfl
  have up : ∀ b o, s.heap.get? b = some o → (s.heap.push (seqObj "list" vs.toArray 0)).get? b = some o := fun b o e => Heap.get?_push_of_some _ e
  have al : AllAlike (L.map PyData.str) := fun d hd d' hd' => by
    obtain ⟨x, _, rfl⟩ := List.mem_map.mp hd
    obtain ⟨y, _, rfl⟩ := List.mem_map.mp hd'
    rfl
  have er : EachIs (fun v (b : Str) => ∃ as, Reads (sortingHeap (s.heap.push (seqObj "list" vs.toArray 0)) s.heap.objs.size vs) v (.str b) as) vs L := rv.mono fun v x ⟨tk, e⟩ => by rw [e]; exact ⟨_, Reads.str x tk⟩
  have S : SortsAt X.prog X.w X.A.in1.in1 { s with heap := sortingHeap (s.heap.push (seqObj "list" vs.toArray 0)) s.heap.objs.size vs } (dataKind (sortingHeap (s.heap.push (seqObj "list" vs.toArray 0)) s.heap.objs.size vs) (L.map PyData.str)) vs :=
    SortsAt.data (s := { s with heap := sortingHeap (s.heap.push (seqObj "list" vs.toArray 0)) s.heap.objs.size vs }) (each_map (R := fun v d => ∃ as, Reads (sortingHeap (s.heap.push (seqObj "list" vs.toArray 0)) s.heap.objs.size vs) v d as) PyData.str er) al (.inr fun d hd => by
      obtain ⟨x, _, rfl⟩ := List.mem_map.mp hd
      exact ⟨(fun z => by cases z), fun xs z => by cases z⟩) fun d hd => by
      obtain ⟨x, _, rfl⟩ := List.mem_map.mp hd
      rw [PyData.depth]
      show X.A.units + 1 + 1 + 0 < cLine
      omega
  refine wpAny_call_entry slot_list_sort ⟨_, ho, rfl⟩ entry_list_sort (list_sort_vals (s := { s with heap := s.heap.push (seqObj "list" vs.toArray 0) }) ho S hz ⟨_, rfl, ?_⟩) (args_list_sort _)
  have out := sortVals_data (h' := sortingHeap (s.heap.push (seqObj "list" vs.toArray 0)) s.heap.objs.size vs) (enc := PyData.str) false rv er al
  rw [show dataLe false (PyData.str : Str → PyData) = fun a b => decide (a.cps.toList ≤ b.cps.toList) from dataLe_str (fun b : Str => b)] at out
  have rel : Vals ((srtX L).map V.str) (sortVals (dataKind (sortingHeap (s.heap.push (seqObj "list" vs.toArray 0)) s.heap.objs.size vs) (L.map PyData.str)) false vs vs) := str_vals out
  generalize sortVals (dataKind (sortingHeap (s.heap.push (seqObj "list" vs.toArray 0)) s.heap.objs.size vs) (L.map PyData.str)) false vs vs = os at rel ⊢
  have lo : ((srtX L).map V.str).length ≤ sizeLine := by
    rw [List.length_map, (srtX_perm L).length_eq, ← rv.length]
    exact hz
  obtain ⟨c, gc⟩ := sortedHeap_at (vs := vs) (out := os.toArray) ho
  refine q _ (I.laid (t' := s.toks) (fun b o e => ?_) (Nat.le_refl _) ⟨lo, os, c, rel, gc⟩)
  have lt := Heap.lt_size e
  rw [sortedHeap_old (Nat.ne_of_lt lt) (by rw [size_push']; exact Nat.lt_succ_of_lt lt)]
  exact up b o e
theorem Texts.each {w : World} : ∀ {es : List (Int × Value)} {L : List Str}, Texts w es L → EachIs (fun v x => ∃ tk, v = Value.str x tk) (es.map (·.2)) L
  | _, _, .nil => .nil
  | _, _, .cons g t => .cons g.1 t.each
theorem each_perm {α : Type} {R : Value → α → Prop} {vs vs' : List Value} (p : vs'.Perm vs) : ∀ {L : List α}, EachIs R vs L → ∃ L', EachIs R vs' L' ∧ L'.Perm L := by
  induction p with
  | nil => intro L h; exact ⟨L, h, .refl _⟩
  | cons x p ih =>
    intro L h
    cases h with
    | cons g t =>
      obtain ⟨L', h', p'⟩ := ih t
      exact ⟨_ :: L', .cons g h', p'.cons _⟩
  | swap x y l =>
    intro L h
    cases h with
    | cons g t =>
      cases t with
      | cons g2 t => exact ⟨_, .cons g2 (.cons g t), .swap _ _ _⟩
  | trans p q ih1 ih2 =>
    intro L h
    obtain ⟨L1, h1, p1⟩ := ih2 h
    obtain ⟨L2, h2, p2⟩ := ih1 h1
    exact ⟨L2, h2, p2.trans p1⟩
/-- sorted(set of texts) -/
def rSortX (w : World) : List V → Hp → VK → Prop := fun vs H Q => ∃ (a : Addr) (L : List Str), vs = [V.ref a] ∧ H a = some (SetXO w a L) ∧ L.length ≤ 1000 ∧ ∀ (ys : List Str) (p : Addr), ys.Perm L → ys.Nodup → ys.Pairwise (fun a b => a.cps.toList ≤ b.cps.toList) → H p = none → Q (.ref p) (upd H p (.lst (ys.map V.str)))
theorem cr_sortX (hc : X.calm = true) (hu : X.A.units + 64 < cLine) : CallR X (.builtin "sorted") (rSortX X.w) := by
  intro pins s σ H vs us Q I r h
  obtain ⟨a, L, rfl, ha, few, q⟩ := h
  rw [Vals.ref1 r]
  have Z : SetX X.w s.heap a L := (I.hok a _ ha).1
  obtain ⟨o, es, ep, t, g1, g2, g3, tx, ft, ri, ld⟩ := Z.ex
  refine Calls.call_function_entry kind_sorted plain_sorted entry_sorted (args_sorted1 _) ?_
  unfold Builtin.«sorted»
  refine wpAny_bind (m := checkCount "sorted" 1 1 _) (wpAny_pure (wpAny_bind (collect_set (A := X.A.in1) (I.ok.hd hc) ⟨o, g1, g2.1, g3⟩ ft (by rw [← Array.length_toList, tx.length]; exact Z.few) ri ld fun s1 vs k1 hz e1 e2 pm => ?_)))
  obtain ⟨L', ev, pL⟩ := each_perm pm tx.each
  have I1 : Inv X pins σ H s1 := I.call' (ch := []) e2 (Un.kept k1) (I.hok.kept k1) (by rw [e1]; exact I.bare) (fun _ z => nomatch z)
  have fresh := I1.hok.fresh (Nat.le_refl _)
  have lv : vs.length ≤ sizeLine := by rw [ev.length, pL.length_eq, sizeLine_eq]; omega
  refine wpAny_bind (wpAny_newList ?_ lv)
  refine wpAny_bind (wpAny_holding (sort_tailX (Q := fun v s' => wpAny (model X.prog X.w) X.A.in1 (ret v) _ _ s') I1 (by omega) ev lv _ rfl fun s' J => wpAny_pure ⟨_, rfl, .ref _, _, J, rfl, q (srtX L') _ ((srtX_perm L').trans pL) (((srtX_perm L').trans pL).nodup_iff.mpr Z.nd) (srtX_pw L') fresh⟩))
end
end My

set_option Elab.async false
set_option linter.all false
set_option maxRecDepth 100000
set_option maxHeartbeats 2000000
/-! xs.remove(x), xs a list of texts, x its first item's like. -/
namespace My
open PySem PySem.Spec PyProof.Rows L2 PySem.SeqAt
def eqT (z : Str) (v : Value) : Bool := match v with
  | .str y _ => y == z
  | _ => false
def rRemX : V → List V → Hp → VK → Prop := fun x xs H Q => ∃ (l : Addr) (zs : List Str) (z : Str) (j : Nat), x = .ref l ∧ xs = [.str z] ∧ H l = some (.lst (zs.map V.str)) ∧ zs[j]? = some z ∧ (∀ m : Nat, m < j → zs[m]? ≠ some z) ∧ zs.length ≤ 1000 ∧ Q .non (upd H l (.lst ((zs.eraseIdx j).map V.str)))
theorem erase_mapS : ∀ (l : List Str) (j : Nat), (l.map V.str).eraseIdx j = (l.eraseIdx j).map V.str
  | [], _ => rfl
  | _ :: _, 0 => rfl
  | a :: r, j + 1 => by
    show V.str a :: (r.map V.str).eraseIdx j = V.str a :: (r.eraseIdx j).map V.str
    rw [erase_mapS r j]
theorem mt_removeX {X : Cx} : MtM X "list.remove" rRemX := by
  intro pins s σ H x xs v us Q I rx rxs h
  obtain ⟨l, zs, z, j, rfl, rfl, hH, hj, hno, lz, q⟩ := h
  cases rx
  obtain ⟨u, rfl, ru⟩ := rxs.one
  obtain ⟨t, rfl⟩ := ru
  obtain ⟨zz, its, n, r, hl, e⟩ := I.lstM hH
  rw [List.length_map] at hl
  have li := r.length
  rw [List.length_map] at li
  have each : ∀ (m : Nat) (hm : m < its.toArray.size), ∃ y t', zs[m]? = some y ∧ its.toArray[m] = Value.str y t' := fun m hm => by
    rw [List.size_toArray] at hm
    have lm : m < zs.length := by omega
    obtain ⟨w, hw, t', e⟩ := r.get (i := m) (x := .str zs[m]) (by rw [List.getElem?_map, List.getElem?_eq_getElem lm]; rfl)
    have e2 := (List.getElem?_eq_some_iff.mp hw).2
    exact ⟨zs[m], t', List.getElem?_eq_getElem lm, by rw [List.getElem_toArray, e2]; exact e⟩
  have hjn : j < zs.length := (List.getElem?_eq_some_iff.mp hj).1
  have hjl : j < its.toArray.size := by rw [List.size_toArray]; omega
  refine call_meets PySem.F.slot_list_remove ⟨_, e, rfl⟩ PySem.F.entry_list_remove (PySem.F.args_list_remove_2 _ _)
    (MeetsSeq.list_remove l its.toArray n (.str z t) (eqT z) (fun y hy => ?_) j hjl ?_ ?_ (by rw [List.size_toArray, sizeLine_eq]; omega)) ⟨e, ?_⟩
  · obtain ⟨m, hm, rfl⟩ := Array.mem_iff_getElem.mp hy
    obtain ⟨y, t', _, e2⟩ := each m hm
    rw [e2]
    show MeetsSeq.EqGives _ _ (y == z)
    rw [← str_beq]
    exact SeqRoads2.EqGives.str y z t' t
  · obtain ⟨y, t', h1, h2⟩ := each j hjl
    obtain rfl : z = y := Option.some.inj (hj.symm.trans h1)
    rw [h2]
    exact beq_self_eq_true z
  · intro m hm hmj
    obtain ⟨y, t', h1, h2⟩ := each m hm
    rw [h2]
    exact beq_eq_false_iff_ne.mpr fun e2 => hno m hmj (by rw [h1, e2])
  · have rr := r.eraseIdx j
    rw [erase_mapS] at rr
    refine ⟨.non, _, I.lset (its' := its.eraseIdx j) (t' := s.toks) hH e ?_ rr ?_, rfl, q⟩
    · show its.toArray.eraseIdxIfInBounds j = (its.eraseIdx j).toArray
      rw [List.eraseIdxIfInBounds_toArray]
    · have := List.length_eraseIdx_le zs j
      rw [List.length_map]
      exact Nat.le_trans this (sz lz)
end My

set_option Elab.async false
set_option linter.all false
set_option maxRecDepth 100000
set_option maxHeartbeats 2000000
namespace L45
open PySem PySem.Spec PyProof.Rows L2 My
section
variable {P : Program} {w : World} {K : PySem.W.Frag} {mg : Str → Option Value} {base : Heap}
inductive Path (ps : List (Str × Str)) : Str → Str → Prop
  | one {a b : Str} : (a, b) ∈ ps → Path ps a b
  | more {a b c : Str} : Path ps a b → (b, c) ∈ ps → Path ps a c
theorem Path.trans {ps : List (Str × Str)} {a b c : Str} (p : Path ps a b) (q : Path ps b c) : Path ps a c := by
  induction q with
  | one h => exact .more p h
  | more _ h ih => exact .more ih h
/-- a way by sayings, told from its begin; of none it stays -/
inductive Wy (ps : List (Str × Str)) (a : Str) : Str → List (Str × Str) → Prop
  | nil : Wy ps a a []
  | snoc {b c : Str} {wp : List (Str × Str)} : Wy ps a b wp → (b, c) ∈ ps → Wy ps a c (wp ++ [(b, c)])
theorem Wy.stay {ps : List (Str × Str)} {a b : Str} {wp : List (Str × Str)} (h : Wy ps a b wp) (n : wp = []) : b = a := by
  cases h with
  | nil => rfl
  | snoc _ _ => simp at n
theorem Wy.path {ps : List (Str × Str)} {a b : Str} {wp : List (Str × Str)} (h : Wy ps a b wp) (n : wp ≠ []) : Path ps a b := by
  induction h with
  | nil => exact absurd rfl n
  | @snoc b c wp h m ih =>
    by_cases e : wp = []
    · rw [h.stay e] at m
      exact .one m
    · exact .more (ih e) m
theorem Wy.sub {ps : List (Str × Str)} {a b : Str} {wp : List (Str × Str)} (h : Wy ps a b wp) : ∀ x ∈ wp, x ∈ ps := by
  induction h with
  | nil => exact fun x hx => by cases hx
  | snoc h m ih => exact fun x hx => (List.mem_append.mp hx).elim (ih x) fun q => by rw [List.mem_singleton.mp q]; exact m
/-- the tuple of a way -/
def WT (H : Hp) (q : Addr) (wp : List (Str × Str)) : Prop := ∃ ws, H q = some (.tup ws) ∧ NkAll H ws (wp.map sayK)
theorem WT.at {H H' : Hp} {q : Addr} {wp : List (Str × Str)} (h : WT H q wp) (t : Tups H H') : WT H' q wp := by
  obtain ⟨ws, a, b⟩ := h
  exact ⟨ws, t _ _ a, b.at t⟩
abbrev WE := Str × Addr × List (Str × Str)
def keysW (es : List WE) : List Str := es.map (·.1)
def kvW (es : List WE) : List (Key × V) := es.map fun e => (Sum.inr e.1, V.ref e.2.1)
theorem valW_none {es : List WE} {x : Str} (h : x ∉ keysW es) : valV (kvW es) (.inr x) = none := by
  induction es with
  | nil => rfl
  | cons e es ih =>
    have h1 : e.1 ≠ x := fun z => h (by rw [← z]; exact .head _)
    have h2 : x ∉ keysW es := fun z => h (.tail _ z)
    show valV ((Sum.inr e.1, V.ref e.2.1) :: kvW es) (.inr x) = none
    rw [valV_neg (fun z => h1 (Sum.inr.inj z))]
    exact ih h2
theorem valW_some {es : List WE} {x : Str} (h : x ∈ keysW es) : ∃ e ∈ es, e.1 = x ∧ valV (kvW es) (.inr x) = some (.ref e.2.1) := by
  induction es with
  | nil => cases h
  | cons e es ih =>
    by_cases z : e.1 = x
    · exact ⟨e, .head _, z, by show valV ((Sum.inr e.1, V.ref e.2.1) :: kvW es) (.inr x) = _; exact valV_pos (congrArg Sum.inr z)⟩
    · obtain ⟨e2, m, a, b⟩ := ih ((List.mem_cons.mp h).resolve_left fun q => z q.symm)
      refine ⟨e2, .tail _ m, a, ?_⟩
      show valV ((Sum.inr e.1, V.ref e.2.1) :: kvW es) (.inr x) = _
      rw [valV_neg (fun q => z (Sum.inr.inj q))]
      exact b
def clW (ps : List (Str × Str)) (es : List WE) (x : Str) : Prop := ∀ p ∈ ps, p.1 = x → p.2 ∈ keysW es
structure WaysAt (H : Hp) (r : Addr) (ps : List (Str × Str)) (a : Str) (es : List WE) : Prop where
  at_ : H r = some (.dK (kvW es))
  val : ∀ e ∈ es, WT H e.2.1 e.2.2 ∧ Wy ps a e.1 e.2.2 ∧ (e.2.2.map (·.1)).Nodup ∧ e.2.2 ≠ [] ∧ (e.1 ≠ a → (e.2.2.map (·.1) ++ [e.1]).Nodup)
  nd : (keysW es).Nodup
theorem WaysAt.key {H : Hp} {r : Addr} {ps : List (Str × Str)} {a : Str} {es : List WE} (h : WaysAt H r ps a es) {x : Str} (m : x ∈ keysW es) : Path ps a x := by
  obtain ⟨e, he, rfl⟩ := List.mem_map.mp m
  exact (h.val e he).2.1.path (h.val e he).2.2.2.1
theorem WaysAt.len {H : Hp} {r : Addr} {ps : List (Str × Str)} {a : Str} {es : List WE} (h : WaysAt H r ps a es) : es.length ≤ ps.length := by
  have := nodup_len (m := ps.map (·.2)) h.nd fun x hx => by
    cases h.key hx with
    | one m => exact List.mem_map_of_mem (f := (·.2)) m
    | more _ m => exact List.mem_map_of_mem (f := (·.2)) m
  unfold keysW at this
  rw [List.length_map, List.length_map] at this
  exact this
abbrev FE := Addr × Str × Addr × List (Str × Str)
structure FrAt (H : Hp) (ps : List (Str × Str)) (a : Str) (es : List WE) (f : FE) : Prop where
  pr : H f.1 = some (.tup [.str f.2.1, .ref f.2.2.1])
  wt : WT H f.2.2.1 f.2.2.2
  wy : Wy ps a f.2.1 f.2.2.2
  own : f.2.1 = a → f.2.2.2 = [] ∨ clW ps es a
  nd : f.2.1 ≠ a → (f.2.2.2.map (·.1) ++ [f.2.1]).Nodup
  sub : ∀ x ∈ f.2.2.2.map (·.1) ++ [f.2.1], x = a ∨ x ∈ keysW es
theorem clW.mono {ps : List (Str × Str)} {es es' : List WE} {x : Str} (h : clW ps es x) (m : ∀ x ∈ keysW es, x ∈ keysW es') : clW ps es' x := fun p hp e => m _ (h p hp e)
theorem FrAt.at {H H' : Hp} {ps : List (Str × Str)} {a : Str} {es es' : List WE} {f : FE} (h : FrAt H ps a es f) (t : Tups H H') (m : ∀ x ∈ keysW es, x ∈ keysW es') : FrAt H' ps a es' f :=
  ⟨t _ _ h.pr, h.wt.at t, h.wy, fun e => (h.own e).imp id (·.mono m), h.nd, fun x hx => (h.sub x hx).imp id (m x)⟩
theorem WaysAt.tups {H H' : Hp} {r : Addr} {ps : List (Str × Str)} {a : Str} {es : List WE} (h : WaysAt H r ps a es) (t : Tups H H') (e : H' r = H r) : WaysAt H' r ps a es :=
  ⟨e.trans h.at_, fun x hx => ⟨(h.val x hx).1.at t, (h.val x hx).2⟩, h.nd⟩
theorem closed_all {ps : List (Str × Str)} {es : List WE} {a b : Str} (h : ∀ x, x = a ∨ x ∈ keysW es → clW ps es x) (p : Path ps a b) : b ∈ keysW es := by
  induction p with
  | one m => exact h a (.inl rfl) _ m rfl
  | more _ m ih => exact h _ (.inr ih) _ m rfl
def spWays : Sp := fun vs H Q _ => ∃ (s : Addr) (ys : List V) (ps : List (Str × Str)) (a : Str), vs = [.ref s, .str a] ∧ H s = some (.tup ys) ∧ NkAll H ys (ps.map sayK) ∧ ps.length ≤ 40 ∧ (∀ p ∈ ps, p.1 ≠ p.2) ∧
  ∀ r es H', Same H H' → H r = none → WaysAt H' r ps a es → (∀ b, Path ps a b → b ∈ keysW es) → Q (.ref r) H'
/-- way + (saying,) -/
theorem cat_say {K : PySem.W.Frag} {H : Hp} {q : Addr} {wp : List (Str × Str)} {y : Addr} {p : Str × Str} {Q : V → Hp → Prop} (h : WT H q wp) (hy : H y = some (.tup [.str p.1, .str p.2])) (l : wp.length ≤ 100) (k : ∀ r H', Same H H' → H r = none → WT H' r (wp ++ [p]) → Q (.ref r) H') :
    1 ≤ sizeLine ∧ ∀ c, H c = none → rCatA K (.ref q) (.ref c) (upd H c (.tup [.ref y])) Q := by
  obtain ⟨ws, hq, nk⟩ := h
  have lw : ws.length = wp.length := by have := nk.length; rw [List.length_map] at this; exact this
  refine ⟨by decide, fun c nc => ?_⟩
  have sc := same_upd (o := .tup [.ref y]) nc
  have ny : Nk (upd H c (.tup [.ref y])) (.ref y) (sayK p) := nk_say (sc _ _ hy)
  refine ⟨q, c, ws, [.ref y], rfl, rfl, .inl (.inl (sc _ _ hq)), .inl (.inl upd_same), Nat.le_trans (show _ ≤ 1000 by rw [List.length_singleton]; omega) (by decide), fun e => ?_, fun _ e => (by cases e), fun _ _ r nr => ?_⟩
  · subst e
    have e0 : wp = [] := List.length_eq_zero_iff.mp (by rw [← lw]; rfl)
    subst e0
    exact k c _ sc nc ⟨_, upd_same, .cons ny .nil⟩
  · have sr := same_upd (o := .tup (ws ++ [.ref y])) nr
    refine k r _ (sc.trans sr) (upd_free nr).2 ⟨_, upd_same, ?_⟩
    rw [List.map_append]
    exact (((nk.at (.same sc)).app (.cons ny .nil))).at (.same sr)
theorem tups_dK {H : Hp} {R : Addr} {kvs : List (Key × V)} {o : HO} (h : H R = some (.dK kvs)) : Tups H (upd H R o) := fun b xs e => by
  rw [upd_ne (fun z => by rw [z, h] at e; cases e)]
  exact e
theorem keysW_app {es : List WE} {e : WE} {x : Str} : x ∈ keysW (es ++ [e]) ↔ x ∈ keysW es ∨ x = e.1 := by
  unfold keysW
  rw [List.map_append, List.mem_append]
  exact or_congr Iff.rfl (by rw [List.map_singleton, List.mem_singleton])
/-- what stands while the walk goes on -/
structure StW (H Hx : Hp) (R F G : Addr) (ps : List (Str × Str)) (a : Str) (fe fu : List FE) (es : List WE) : Prop where
  sm : Same H Hx
  wa : WaysAt Hx R ps a es
  hF : Hx F = some (.lst (fu.map fun f => V.ref f.1))
  hG : Hx G = some (.lst (fe.map fun f => V.ref f.1))
  fr : ∀ f ∈ fe, FrAt Hx ps a es f
  fn : ∀ f ∈ fu, FrAt Hx ps a es f ∧ (f.2.1 = a → clW ps es a)
theorem ok_ways (T : Tx K mg) : FnOk P w K mg base CX0 1 T.f_ways_from T.d_ways_from ["some", "a"] (spWays) := by
  refine T.F_ways_from.ok S_ways_from (fun vs H Q E h => ?_) (fun cdv A outer s H vs Q E hr h => ?_)
  · obtain ⟨s, ys, ps, a, rfl, _⟩ := h
    rfl
  · obtain ⟨s, ys, ps, a, rfl, hs, nk, l40, un, q⟩ := h
    have lys : ys.length = ps.length := by have := nk.length; rw [List.length_map] at this; exact this
    refine ⟨_, (pss_cons (ps_set (i := 2) S_ways_from.nd rfl (.inl rfl) pe_dnewK)
      (pss_cons (ps_set (i := 3) S_ways_from.nd rfl (.inl rfl) (pe_lst (pa_cons (pe_tup (pa_cons (pv 1) (pa_cons (pe_tup pa_nil) pa_nil))) pa_nil)))
      (pss_cons (ps_while PassesOwn.never (pt_truth (pv 3) (by intro _; rfl)) (pss_cons (ps_set (i := 4) S_ways_from.nd rfl (.inl rfl) (pe_lst pa_nil))
      (pss_cons (ps_for PassesOwn.never rfl (pi_list (pv 3)) (pg_tup rfl (pgs_cons (pg_name (i := 5) S_ways_from.nd rfl (.inl rfl)) (pgs_cons (pg_name (i := 6) S_ways_from.nd rfl (.inl rfl)) pgs_nil)))
      (pss_one (ps_for PassesOwn.never rfl (pi_tup (pv 0)) (pg_name (i := 7) S_ways_from.nd rfl (.inl rfl))
      (pss_one (ps_if (PW.pt (pw_and (pt_cmpR op_eq (pe_ix ix_tup (pv 7) pe_int (fun _ _ => rfl)) (pv 5) (nomark _)) (pw_and1 (pt_cmp (pc_dnotin (hu_of hr) (pe_ix ix_tup (pv 7) pe_int (fun _ _ => rfl)) (pv 2)))))) (pss_cons (ps_dput (hu_of hr) (pv 2) (pe_ix ix_tup (pv 7) pe_int (fun _ _ => rfl)) (pe_op op_catA (pv 6) (pe_tup (pa_cons (pv 7) pa_nil))) rfl)
      (pss_one (ps_expr (pe_bm PySem.F.plainAttrs_list PySem.F.slot_list_append PySem.F.type_list_append mt_append (pv 4) (pa_cons (pe_tup (pa_cons (pe_ix ix_tup (pv 7) pe_int (fun _ _ => rfl)) (pa_cons (pe_op op_catA (pv 6) (pe_tup (pa_cons (pv 7) pa_nil))) pa_nil))) pa_nil))))) pss_nil)))))
      (pss_one (ps_set (i := 3) S_ways_from.nd rfl (.inl rfl) (pv 4))))))
      (pss_one (ps_ret (pv 2)))))), ?_⟩
    refine fun R nR => ?_
    have s0 := same_upd (o := .dK []) nR
    refine ⟨_, rfl, sz (by show 0 ≤ 1000; decide), fun c0 n0 => ⟨sz (by show 2 ≤ 1000; decide), fun c1 n1 => ⟨sz (by show 1 ≤ 1000; decide), fun G nG => ?_⟩⟩⟩
    have s1 := same_upd (o := .tup []) n0
    have s2 := same_upd (o := .tup [.str a, .ref c0]) n1
    have s3 := same_upd (o := .lst [.ref c1]) nG
    have hR := s3 _ _ (s2 _ _ (s1 _ _ (upd_same (H := H) (a := R) (o := .dK []))))
    have hc0 := s3 _ _ (s2 _ _ (upd_same (H := upd H R (.dK [])) (a := c0) (o := .tup [])))
    have hc1 := s3 _ _ (upd_same (H := upd (upd H R (.dK [])) c0 (.tup [])) (a := c1) (o := .tup [.str a, .ref c0]))
    have hG := upd_same (H := upd (upd (upd H R (.dK [])) c0 (.tup [])) c1 (.tup [.str a, .ref c0])) (a := G) (o := .lst [.ref c1])
    have sA := ((s0.trans s1).trans s2).trans s3
    generalize upd (upd (upd (upd H R (.dK [])) c0 (.tup [])) c1 (.tup [.str a, .ref c0])) G (.lst [.ref c1]) = H1 at hR hc0 hc1 hG sA ⊢
    refine ⟨fun m σ Hx => ∃ (y4 y5 y6 y7 : Option V) (G : Addr) (fe : List FE) (es : List WE), σ = [some (.ref s), some (.str a), some (.ref R), some (.ref G), y4, y5, y6, y7] ∧ Same H Hx ∧ WaysAt Hx R ps a es ∧ Hx G = some (.lst (fe.map fun f => V.ref f.1)) ∧ (∀ f ∈ fe, FrAt Hx ps a es f) ∧ (∀ x, x = a ∨ x ∈ keysW es → x ∈ fe.map (·.2.1) ∨ clW ps es x) ∧ ((∀ f ∈ fe, f.2.1 = a) ∨ clW ps es a) ∧ m = (ps.length - es.length) + (if fe = [] then 0 else 1), ⟨_, _, _, _, _, G, [(c1, a, c0, [])], [], rfl, sA, ⟨hR, (fun e he => by cases he), List.nodup_nil⟩, hG, ?_, ?_, .inl (fun f hf => by rw [List.mem_singleton.mp hf]), rfl⟩, ?_⟩
    · intro f hf
      rw [List.mem_singleton.mp hf]
      exact ⟨hc1, ⟨[], hc0, .nil⟩, .nil, fun _ => .inl rfl, fun _ => by simp, fun x hx => .inl (by simpa using hx)⟩
    · rintro x (rfl | h)
      · exact .inl (.head _)
      · cases h
    clear hR hc0 hc1 hG sA nG n1 n0
    rintro m σ Hx ⟨y4, y5, y6, y7, G, fe, es, rfl, sx, wa, hG, fr, cov, ph, em⟩
    refine ⟨_, rfl, _, .inl ⟨_, .inl (.inl hG), rfl⟩, ite2 (fun e => ?_) (fun e => ?_)⟩
    · have ne : fe ≠ [] := fun z => by rw [z] at e; cases e
      rw [if_neg ne] at em
      refine ⟨_, fun σ' H' h => h, ?_⟩
      refine ⟨sz (by show 0 ≤ 1000; decide), fun F nF => ?_⟩
      have sF := same_upd (o := .lst []) nF
      have GF : G ≠ F := ne_of_none hG nF
      have fF : H F = none := by
        cases e : H F with
        | none => rfl
        | some o => rw [sx _ _ e] at nF; cases nF
      have st0 : StW H (upd Hx F (.lst [])) R F G ps a fe [] es := ⟨sx.trans sF, wa.tups (.same sF) (by rw [sF _ _ wa.at_, wa.at_]), upd_same, sF _ _ hG, fun f hf => (fr f hf).at (.same sF) (fun _ h => h), fun f hf => by cases hf⟩
      generalize upd Hx F (.lst []) = H2 at st0 ⊢
      have l0 := wa.len
      clear fr hG wa sx nF sF
      refine ⟨_, rfl, G, rfl, ⟨_, .inl (.inl st0.hG)⟩, ?_⟩
      refine for_list (xs := fe.map fun f => V.ref f.1) (fun i σ Hy => ∃ (y5 y6 y7 : Option V) (fu : List FE) (ez : List WE), σ = [some (.ref s), some (.str a), some (.ref R), some (.ref G), some (.ref F), y5, y6, y7] ∧ StW H Hy R F G ps a fe fu ez ∧ (∀ x, x = a ∨ x ∈ keysW ez → x ∈ fu.map (·.2.1) ∨ x ∈ (fe.drop i).map (·.2.1) ∨ clW ps ez x) ∧ ez.length = es.length + fu.length ∧ ((∀ f ∈ fe, f.2.1 = a) ∨ clW ps ez a)) ⟨_, _, _, [], es, rfl, st0, fun x hx => .inr (cov x hx), rfl, ph⟩ ?_ ?_ ?_
      · rintro i σ Hy hi ⟨_, _, _, _, _, _, st, _⟩
        exact .inl (.inl st.hG)
      · rintro i v σ Hy hv ⟨y5, y6, y7, fu, ez, rfl, st, cv, lz, ph2⟩
        obtain ⟨f, hf, rfl⟩ : ∃ f, fe[i]? = some f ∧ v = V.ref f.1 := by
          rw [List.getElem?_map] at hv
          cases e : fe[i]? with
          | none => rw [e] at hv; cases hv
          | some y => rw [e] at hv; exact ⟨y, rfl, (Option.some.inj hv).symm⟩
        have mf := List.mem_of_getElem? hf
        have dr : fe.drop i = f :: fe.drop (i + 1) := List.drop_eq_getElem?_toList_append.trans (by rw [hf]; rfl)
        refine ⟨f.1, _, rfl, .inl (.inl (st.fr f mf).pr), rfl, _, _, rfl, _, _, rfl, rfl, ?_⟩
        refine ⟨_, rfl, s, rfl, ⟨_, .inl (.inl (st.sm _ _ hs))⟩, ?_⟩
        refine for_tup (xs := ys) (fun k σ Hz => ∃ (y7 : Option V) (fu : List FE) (ez : List WE), σ = [some (.ref s), some (.str a), some (.ref R), some (.ref G), some (.ref F), some (.str f.2.1), some (.ref f.2.2.1), y7] ∧ StW H Hz R F G ps a fe fu ez ∧ (∀ x, x = a ∨ x ∈ keysW ez → x ∈ fu.map (·.2.1) ∨ x ∈ (fe.drop (i + 1)).map (·.2.1) ∨ x = f.2.1 ∨ clW ps ez x) ∧ ez.length = es.length + fu.length ∧ ((∀ f ∈ fe, f.2.1 = a) ∨ clW ps ez a) ∧ ∀ p ∈ ps.take k, p.1 = f.2.1 → p.2 ∈ keysW ez) ⟨_, fu, ez, rfl, st, fun x hx => ?_, lz, ph2, fun p hp => by rw [List.take_zero] at hp; cases hp⟩ ?_ ?_ ?_
        · rcases cv x hx with h | h | h
          · exact .inl h
          · rw [dr, List.map_cons] at h
            rcases List.mem_cons.mp h with h | h
            · exact .inr (.inr (.inl h))
            · exact .inr (.inl h)
          · exact .inr (.inr (.inr h))
        · rintro k σ Hz hk ⟨_, _, _, _, st, _⟩
          exact .inl (.inl (st.sm _ _ hs))
        · clear st cv lz ph2
          rintro k v σ Hz hv2 ⟨y7, fu, ez, rfl, st, cv, lz, ph2, dn⟩
          obtain ⟨kk, hk2, nx⟩ := nk.get hv2
          obtain ⟨p, hp, rfl⟩ : ∃ p, ps[k]? = some p ∧ kk = sayK p := by
            rw [List.getElem?_map] at hk2
            cases e : ps[k]? with
            | none => rw [e] at hk2; cases hk2
            | some y => rw [e] at hk2; exact ⟨y, rfl, (Option.some.inj hk2).symm⟩
          obtain ⟨y, rfl, hy⟩ := say_nk nx
          have hyz := st.sm _ _ hy
          have mp := List.mem_of_getElem? hp
          have tk : ps.take (k + 1) = ps.take k ++ [p] := by rw [List.take_add_one, hp]; rfl
          have skip : (p.1 = f.2.1 → p.2 ∈ keysW ez) → ∀ p' ∈ ps.take (k + 1), p'.1 = f.2.1 → p'.2 ∈ keysW ez := fun h p' hp' e => by
            rw [tk] at hp'
            rcases List.mem_append.mp hp' with q | q
            · exact dn p' q e
            · rw [List.mem_singleton.mp q] at e ⊢
              exact h e
          refine ⟨_, rfl, y, _, 0, .str p.1, rfl, rfl, .inl (.inl hyz), rfl, _, rfl, rfl, _, rfl, ite2 (fun e => ?_) (fun e => ?_)⟩
          · have e : p.1 = f.2.1 := V.str.inj (of_decide_eq_true e)
            by_cases mk : p.2 ∈ keysW ez
            · obtain ⟨en, _, _, ev⟩ := valW_some mk
              refine ⟨_, rfl, y, _, 1, .str p.2, rfl, rfl, .inl (.inl hyz), rfl, _, rfl, R, _, rfl, DGet.k (k := .inr p.2) st.wa.at_, ?_⟩
              rw [ev]
              exact ⟨_, rfl, ⟨_, fu, ez, rfl, st, cv, lz, ph2, skip fun _ => mk⟩⟩
            · refine ⟨_, rfl, y, _, 1, .str p.2, rfl, rfl, .inl (.inl hyz), rfl, _, rfl, R, _, rfl, DGet.k (k := .inr p.2) st.wa.at_, ?_⟩
              rw [valW_none mk]
              have fm := st.fr f mf
              have nda : f.2.1 = a → f.2.2.2 = [] := fun z => (fm.own z).elim id fun c => absurd (c p mp (e.trans z)) mk
              have nd1 : (f.2.2.2.map (·.1) ++ [f.2.1]).Nodup := by
                by_cases z : f.2.1 = a
                · rw [nda z]; simp
                · exact fm.nd z
              have pe : p = (f.2.1, p.2) := by rw [← e]
              have wy1 : Wy ps a p.2 (f.2.2.2 ++ [p]) := by
                have := Wy.snoc fm.wy (by rw [← pe]; exact mp : (f.2.1, p.2) ∈ ps)
                rw [← pe] at this
                exact this
              have nd2 : ((f.2.2.2 ++ [p]).map (·.1)).Nodup := by
                rw [List.map_append, List.map_singleton, e]
                exact nd1
              have lw : (f.2.2.2 ++ [p]).length ≤ 40 := by
                have := nodup_len (m := ps.map (·.1)) nd2 fun x hx => by
                  obtain ⟨g, hg, rfl⟩ := List.mem_map.mp hx
                  exact List.mem_map_of_mem (f := (·.1)) (wy1.sub g hg)
                rw [List.length_map, List.length_map] at this
                omega
              rw [List.length_append, List.length_singleton] at lw
              have lz2 := st.wa.len
              refine ⟨_, rfl, ?_⟩
              refine ⟨_, rfl, _, rfl, cat_say fm.wt hyz (by omega) fun r1 H3 s3 f3 w3 => ?_⟩
              refine ⟨_, rfl, _, rfl, y, _, 1, .str p.2, rfl, rfl, .inl (.inl (s3 _ _ hyz)), rfl, R, _, rfl, DPut.k (k := .inr p.2) (s3 _ _ st.wa.at_) (small1000 (by unfold kvW; rw [List.length_map]; omega)), ?_⟩
              rw [putK_new _ (valW_none mk)]
              have hR3 := s3 _ _ st.wa.at_
              have tR : Tups H3 (upd H3 R (.dK (kvW ez ++ [(.inr p.2, .ref r1)]))) := tups_dK hR3
              have RF : R ≠ F := fun z => by have := st.hF; rw [← z, st.wa.at_] at this; cases this
              have RG : R ≠ G := fun z => by have := st.hG; rw [← z, st.wa.at_] at this; cases this
              have hF4 : upd H3 R (.dK (kvW ez ++ [(.inr p.2, .ref r1)])) F = _ := (upd_ne RF.symm).trans (s3 _ _ st.hF)
              have hG4 : upd H3 R (.dK (kvW ez ++ [(.inr p.2, .ref r1)])) G = _ := (upd_ne RG.symm).trans (s3 _ _ st.hG)
              have hR4 := upd_same (H := H3) (a := R) (o := .dK (kvW ez ++ [(.inr p.2, .ref r1)]))
              have sm4 := same_fresh (o := .dK (kvW ez ++ [(.inr p.2, .ref r1)])) nR (st.sm.trans s3)
              have t4 := (Tups.same s3).trans tR
              have w4 := w3.at tR
              generalize upd H3 R (.dK (kvW ez ++ [(.inr p.2, .ref r1)])) = H4 at hF4 hG4 hR4 sm4 t4 w4 ⊢
              refine ⟨_, rfl, .inl ⟨rfl, _, .inl (.inl hF4)⟩, ?_⟩
              refine ⟨_, rfl, y, _, 1, .str p.2, rfl, rfl, .inl (.inl (t4 _ _ hyz)), rfl, _, rfl, _, rfl, cat_say (fm.wt.at t4) (t4 _ _ hyz) (by omega) fun r2 H5 s5 f5 w5 => ⟨sz (by show 2 ≤ 1000; decide), fun c nc => ?_⟩⟩
              have s6 := same_upd (o := .tup [.str p.2, .ref r2]) nc
              have s56 := s5.trans s6
              have hF6 := s56 _ _ hF4
              refine ⟨F, _, .ref c, rfl, rfl, hF6, small1000 (by rw [List.length_map]; omega), ?_⟩
              have hc := upd_same (H := H5) (a := c) (o := .tup [.str p.2, .ref r2])
              have w6 := w5.at (.same s6)
              have hR6 := s56 _ _ hR4
              have hG6 := s56 _ _ hG4
              have sm6 := sm4.trans s56
              have t6 := t4.trans (.same s56)
              have w46 := w4.at (.same s56)
              generalize upd H5 c (.tup [.str p.2, .ref r2]) = H6 at hF6 hc w6 hR6 hG6 sm6 t6 w46 ⊢
              have tF := tups_lst (o := .lst (fu.map (fun f => V.ref f.1) ++ [.ref c])) hF6
              have t7 := t6.trans tF
              have up : ∀ x ∈ keysW ez, x ∈ keysW (ez ++ [(p.2, r1, f.2.2.2 ++ [p])]) := fun x hx => keysW_app.mpr (.inl hx)
              have own : p.2 = a → clW ps (ez ++ [(p.2, r1, f.2.2.2 ++ [p])]) a := fun z => ph2.elim (fun h => absurd (e.trans ((h f mf).trans z.symm)) (un p mp)) fun h => h.mono up
              have nd3 : p.2 ≠ a → ((f.2.2.2 ++ [p]).map (·.1) ++ [p.2]).Nodup := fun z => by
                rw [List.nodup_append]
                refine ⟨nd2, by simp, fun x hx u hu => ?_⟩
                rw [List.mem_singleton.mp hu]
                rw [List.map_append, List.map_singleton, e] at hx
                intro q
                rcases fm.sub x hx with h | h
                · exact z (q.symm.trans h)
                · exact mk (by rw [← q]; exact h)
              refine ⟨_, fu ++ [(c, p.2, r2, f.2.2.2 ++ [p])], ez ++ [(p.2, r1, f.2.2.2 ++ [p])], rfl, ⟨same_fresh fF sm6, ⟨?_, ?_, ?_⟩, ?_, (upd_ne GF).trans hG6, fun g hg => (st.fr g hg).at t7 up, ?_⟩, ?_, ?_, ph2.imp id (·.mono up), ?_⟩
              · rw [upd_ne RF, hR6]
                unfold kvW
                rw [List.map_append]
                rfl
              · intro g hg
                rcases List.mem_append.mp hg with h | h
                · exact ⟨(st.wa.val g h).1.at t7, (st.wa.val g h).2⟩
                · rw [List.mem_singleton.mp h]
                  exact ⟨w46.at tF, wy1, nd2, by simp, nd3⟩
              · unfold keysW
                rw [List.map_append, List.nodup_append]
                refine ⟨st.wa.nd, by simp, fun x hx z hz => ?_⟩
                rw [List.map_singleton, List.mem_singleton] at hz
                have hz : z = p.2 := hz
                exact fun q => mk (by rw [← hz, ← q]; exact hx)
              · rw [upd_same, List.map_append]
                rfl
              · intro g hg
                rcases List.mem_append.mp hg with h | h
                · exact ⟨(st.fn g h).1.at t7 up, fun z => ((st.fn g h).2 z).mono up⟩
                · rw [List.mem_singleton.mp h]
                  refine ⟨⟨tF _ _ hc, w6.at tF, wy1, fun z => .inr (own z), fun z => ?_, fun x hx => ?_⟩, own⟩
                  · show ((f.2.2.2 ++ [p]).map (·.1) ++ [p.2]).Nodup
                    rw [List.nodup_append]
                    refine ⟨nd2, by simp, fun x hx u hu => ?_⟩
                    rw [List.mem_singleton.mp hu]
                    rw [List.map_append, List.map_singleton, e] at hx
                    intro q
                    rcases fm.sub x hx with h | h
                    · exact z (q.symm.trans h)
                    · exact mk (by rw [← q]; exact h)
                  · have hx : x ∈ (f.2.2.2 ++ [p]).map (·.1) ++ [p.2] := hx
                    rcases List.mem_append.mp hx with h | h
                    · rw [List.map_append, List.map_singleton, e] at h
                      exact (fm.sub x h).imp id (up x)
                    · rw [List.mem_singleton.mp h]
                      exact .inr (keysW_app.mpr (.inr rfl))
              · intro x hx
                have : (x = a ∨ x ∈ keysW ez) ∨ x = p.2 := by
                  rcases hx with h | h
                  · exact .inl (.inl h)
                  · exact (keysW_app.mp h).imp .inr id
                rcases this with h | h
                · rcases cv x h with h | h | h | h
                  · exact .inl (by rw [List.map_append]; exact List.mem_append_left _ h)
                  · exact .inr (.inl h)
                  · exact .inr (.inr (.inl h))
                  · exact .inr (.inr (.inr (h.mono up)))
                · exact .inl (by rw [List.map_append, h]; exact List.mem_append_right _ (.head _))
              · rw [List.length_append, List.length_append, lz]
                show _ + 1 = _ + (_ + 1)
                omega
              · intro p' hp' e'
                rw [tk] at hp'
                rcases List.mem_append.mp hp' with h | h
                · exact up _ (dn p' h e')
                · rw [List.mem_singleton.mp h]
                  exact keysW_app.mpr (.inr rfl)
          · have e : ¬ p.1 = f.2.1 := fun z => e (by rw [z]; exact decide_eq_true rfl)
            exact ⟨_, fu, ez, rfl, st, cv, lz, ph2, skip fun z => absurd z e⟩
        · rintro σ Hz ⟨y7, fu, ez, rfl, st, cv, lz, ph2, dn⟩
          rw [lys, List.take_of_length_le (Nat.le_refl _)] at dn
          refine ⟨_, _, _, fu, ez, rfl, st, fun x hx => ?_, lz, ph2⟩
          rcases cv x hx with h | h | h | h
          · exact .inl h
          · exact .inr (.inl h)
          · subst h
            exact .inr (.inr dn)
          · exact .inr (.inr h)
      · rintro σ Hy ⟨y5, y6, y7, fu, ez, rfl, st, cv, lz, ph2⟩
        rw [List.length_map, List.drop_length] at cv
        have cv2 : ∀ x, x = a ∨ x ∈ keysW ez → x ∈ fu.map (·.2.1) ∨ clW ps ez x := fun x hx => (cv x hx).imp id fun h => h.elim (fun h => by cases h) id
        refine ⟨_, rfl, ?_⟩
        have l2 := st.wa.len
        refine ⟨_, ?_, _, _, _, _, F, fu, ez, rfl, st.sm, st.wa, st.hF, fun g hg => (st.fn g hg).1, cv2, ?_, rfl⟩
        · rw [em]
          cases fu with
          | nil => rw [List.length_nil] at lz; rw [if_pos rfl]; omega
          | cons g r => rw [List.length_cons] at lz; rw [if_neg (fun z => by cases z)]; omega
        · rcases cv2 a (.inl rfl) with h | h
          · obtain ⟨g, hg, eg⟩ := List.mem_map.mp h
            exact .inr ((st.fn g hg).2 eg)
          · exact .inr h
    · have ne : fe = [] := by
        cases fe with
        | nil => rfl
        | cons => exact absurd rfl e
      subst ne
      exact ⟨_, rfl, q R es Hx sx nR wa fun b hb => closed_all (fun x hx => (cov x hx).elim (fun h => by cases h) id) hb⟩
/-- what goes_ahead tells -/
def GoesTo (H : Hp) (ps : List (Str × Str)) (a b : Str) (v : V) : Prop := (v = .non ∧ ¬ Path ps a b) ∨ ∃ (q : Addr) (wp : List (Str × Str)), v = .ref q ∧ WT H q wp ∧ Wy ps a b wp ∧ (wp.map (·.1)).Nodup ∧ wp ≠ []
def spGoes : Sp := fun vs H Q _ => ∃ (n : V) (s : Addr) (ys : List V) (ps : List (Str × Str)) (a b : Str), vs = [n, .ref s, .str a, .str b] ∧ H s = some (.tup ys) ∧ NkAll H ys (ps.map sayK) ∧ ps.length ≤ 40 ∧ (∀ p ∈ ps, p.1 ≠ p.2) ∧
  ∀ v H', Same H H' → GoesTo H' ps a b v → Q v H'
theorem ok_goes (T : Tx K mg) : FnOk P w K mg base CX0 2 T.f_goes_ahead T.d_goes_ahead ["names", "some", "a", "b"] (spGoes) := by
  have G_ways_from : FnOk P w K mg base CX0 1 T.f_ways_from T.d_ways_from ["some", "a"] (spWays) := ok_ways T
  refine T.F_goes_ahead.ok S_goes_ahead (fun vs H Q E h => ?_) (fun cdv A outer s H vs Q E hr h => ?_)
  · obtain ⟨n, s, ys, ps, a, b, rfl, _⟩ := h
    rfl
  · obtain ⟨n, s, ys, ps, a, b, rfl, hs, nk, l40, un, q⟩ := h
    refine ⟨_, (pss_one (ps_ret (pe_dget1 (hu_of hr) (pe_call G_ways_from hr (by rfl) T.g_ways_from T.F_ways_from.kp T.b_ways_from .nil pass0 (pa_cons (pv 1) (pa_cons (pv 2) pa_nil))) (pv 3) ⟨by rfl, by rfl, by rfl, by rfl⟩))), ?_⟩
    refine ⟨_, rfl, _, rfl, s, ys, ps, a, rfl, hs, nk, l40, un, fun r es H1 s1 _ wa all => ?_⟩
    refine ⟨r, rfl, .inl ⟨_, .inl wa.at_⟩, _, rfl, _, DGet.k (k := .inr b) wa.at_, ?_⟩
    by_cases mk : b ∈ keysW es
    · obtain ⟨e, he, eb, ev⟩ := valW_some mk
      rw [ev]
      obtain ⟨w1, w2, w3, w4, _⟩ := wa.val e he
      rw [eb] at w2
      exact q _ H1 s1 (.inr ⟨e.2.1, e.2.2, rfl, w1, w2, w3, w4⟩)
    · rw [valW_none mk]
      exact q _ H1 s1 (.inl ⟨rfl, fun p => mk (all b p)⟩)
end
end L45

set_option Elab.async false
set_option linter.all false
set_option maxRecDepth 100000
set_option maxHeartbeats 4000000
/-! sorted(t) of a tuple of nested tuples. -/
namespace My
open PySem PySem.Spec PyProof.Rows L2 PySem.SeqAt PySem.W
section
variable {prog : Program} {w : World} {A : Around} {E : Value → Shared → Prop} {s : Shared}
/-- the list of a tuple's items, made anew -/
abbrev listed (h : Heap) (us : List Value) : Heap := (h.push (seqObj "list" #[] 0)).update h.objs.size (Obj.mapSeq (· ++ us.toArray))
theorem collect_tup {t : Addr} {us : List Value} {R : List Value → Shared → Prop} (x : IsTup s.heap t us.toArray) (n : us.length ≤ sizeLine) (q : R us { s with heap := listed s.heap us }) : wpAny (model prog w) A (collect (.ref t)) R E s := by
  obtain ⟨ob, at_, cl, e0, dt⟩ := x
  have up := Heap.get?_push_of_some (seqObj "list" #[] 0) at_
  have new : (s.heap.push (seqObj "list" #[] 0)).get? s.heap.objs.size = _ := Heap.get?_push_size _ rfl
  have tt : (Value.type "tuple" == Value.type "tuple") = true := by rfl
  unfold collect
  refine wpAny_bind (wpAny_runValue (codeAny_builtin entry_proto_collect' (show wpAny _ _ (do again (.builtin "list.__iadd__" ⟨[← newList [], .ref t], []⟩)) _ _ s from ?_)))
  refine wpAny_bind (wpAny_newList (wpAny_pure ⟨Code.quiet_builtin _ (by decide +kernel), codeAny_builtin entry_list_iadd' (show wpAny _ _ (Builtin.List.listExtendWith (.ref s.heap.objs.size) (.ref t) (.ref s.heap.objs.size)) _ _ { s with heap := s.heap.push (seqObj "list" #[] 0) } from ?_)⟩))
  unfold Builtin.List.listExtendWith
  refine wpAny_bind (wpAny_typeOf (T := "tuple") ⟨ob, up, cl⟩ ?_)
  rw [if_pos (by rw [tt]; simp)]
  refine wpAny_bind (listItems_at up dt (wpAny_bind (listItems_at (n := 0) (xs := #[]) new rfl ?_)))
  rw [if_neg (by simp)]
  have fits : (#[] ++ us.toArray).size ≤ sizeLine + 1 := by
    rw [Array.size_append, List.size_toArray]
    exact Nat.le_succ_of_le (by simpa using n)
  refine wpAny_bind (listUpdate_at (n := 0) (xs := #[]) new rfl (wpAny_pure ?_) (Nat.zero_le _) fits)
  have got : (listed s.heap us).get? s.heap.objs.size = _ := get?_update_seq new (· ++ us.toArray)
  refine wpAny_bind (m := load s.heap.objs.size) (wpAny_load got ?_)
  have e : ((#[] : Array Value) ++ us.toArray).toList = us := by simp
  show wpAny _ _ (pure ((#[] : Array Value) ++ us.toArray).toList) R E _
  rw [e]
  exact wpAny_pure q
end
section
variable {X : Cx}
/-- sorted(t), t a tuple -/
def rSortTL (K : PySem.W.Frag) : List V → Hp → VK → Prop := fun vs H Q => ∃ (l : Addr) (xs : List V) (ks : List NestedKey), vs = [.ref l] ∧ SqT K H l xs ∧ NkAll H xs ks ∧ Sbl ks ∧ xs.length ≤ 1000 ∧ ∀ p, H p = none → Q (.ref p) (upd H p (.lst ((srt xs ks).map Prod.fst)))
theorem cr_sortTL (un : X.A.units + 64 < cLine) : CallR X (.builtin "sorted") (rSortTL X.K) := by
  intro pins s σ H vs us Q I r h
  obtain ⟨l, xs, ks, rfl, hl, nk, sb, lx, q⟩ := h
  rw [Vals.ref1 r]
  obtain ⟨its, rv, pl, _⟩ := I.tuple hl
  have lv : its.length ≤ sizeLine := by rw [← rv.length, sizeLine_eq]; omega
  refine Calls.call_function_entry kind_sorted plain_sorted entry_sorted (args_sorted1 _) ?_
  unfold Builtin.«sorted»
  have k1 : ∀ b o, s.heap.get? b = some o → (listed s.heap its).get? b = some o := fun b o e => by
    unfold listed
    rw [Heap.get?_update_ne _ _ _ _ (Nat.ne_of_lt (Heap.lt_size e))]
    exact Heap.get?_push_of_some _ e
  have I1 : Inv X pins σ H { s with heap := listed s.heap its, toks := s.toks } := I.kept k1
  have fresh := I1.hok.fresh (Nat.le_refl _)
  refine wpAny_bind (m := checkCount "sorted" 1 1 _) (wpAny_pure (wpAny_bind (collect_tup pl lv (wpAny_bind (wpAny_newList ?_ lv)))))
  exact wpAny_bind (wpAny_holding (sort_tail (Q := fun v s' => wpAny (model X.prog X.w) X.A.in1 (ret v) _ _ s') I1 (by omega) rv nk sb lv _ rfl fun s' J => wpAny_pure ⟨_, rfl, .ref _, _, J, rfl, q _ fresh⟩))
end
end My

set_option Elab.async false
set_option linter.all false
set_option maxRecDepth 100000
set_option maxHeartbeats 2000000
namespace L45
open PySem PySem.Spec PyProof.Rows L2 LT
open My hiding Tbs Gk Tk
section
variable {P : Program} {w : World} {K : PySem.W.Frag} {mg : Str → Option Value} {base : Heap}
/-- a ring of sayings -/
def RingAt (H : Hp) (ps : List (Str × Str)) (o : Addr) : Prop := ∃ (x : Str) (wp : List (Str × Str)), WT H o wp ∧ Wy ps x x wp ∧ (wp.map (·.1)).Nodup ∧ wp ≠ []
theorem gk_fresh {Ts : TL} {H H1 : Hp} {p : Addr} {o : HO} {xs : List V} (hp : H p = none) (g : Gk Ts H H1) (e : H1 p = some (.lst xs)) (_ : ∀ ps, HO.lst xs ≠ .tbl ps) : Gk Ts H (upd H1 p o) := gk_list hp g e
/-- no ring is there -/
def Acy (ps : List (Str × Str)) : Prop := ∀ x, ¬ Path ps x x
/-- what is left when some go -/
def Out (ps G : List (Str × Str)) : List (Str × Str) := ps.filter fun p => !decide (p ∈ G)
theorem mem_out {ps G : List (Str × Str)} {p : Str × Str} : p ∈ Out ps G ↔ p ∈ ps ∧ p ∉ G := by
  unfold Out
  rw [List.mem_filter]
  simp
/-- so many sayings are enough -/
def Lets (ps : List (Str × Str)) (d : Nat) : Prop := ∃ G : List (Str × Str), G.length ≤ d ∧ Acy (Out ps G)
theorem Path.sub {ps qs : List (Str × Str)} (h : ∀ p ∈ ps, p ∈ qs) {a b : Str} (p : Path ps a b) : Path qs a b := by
  induction p with
  | one m => exact .one (h _ m)
  | more _ m ih => exact .more ih (h _ m)
theorem Acy.sub {ps qs : List (Str × Str)} (h : ∀ p ∈ ps, p ∈ qs) (a : Acy qs) : Acy ps := fun x p => a x (p.sub h)
theorem Lets.sub {ps qs : List (Str × Str)} (h : ∀ p ∈ ps, p ∈ qs) {d : Nat} : Lets qs d → Lets ps d := fun ⟨G, l, a⟩ => ⟨G, l, a.sub fun p hp => mem_out.mpr ⟨h p (mem_out.mp hp).1, (mem_out.mp hp).2⟩⟩
theorem Lets.more {ps : List (Str × Str)} {d e : Nat} (h : Lets ps d) (le : d ≤ e) : Lets ps e := let ⟨G, l, a⟩ := h; ⟨G, Nat.le_trans l le, a⟩
theorem lets_zero {ps : List (Str × Str)} : Lets ps 0 ↔ Acy ps := by
  constructor
  · rintro ⟨G, l, a⟩
    have e : G = [] := List.length_eq_zero_iff.mp (Nat.le_zero.mp l)
    subst e
    exact a.sub fun p hp => mem_out.mpr ⟨hp, fun z => by cases z⟩
  · exact fun a => ⟨[], Nat.le_refl _, a.sub fun p hp => (mem_out.mp hp).1⟩
theorem Wy.to {ps qs : List (Str × Str)} {a b : Str} {wp : List (Str × Str)} (h : Wy ps a b wp) (m : ∀ p ∈ wp, p ∈ qs) : Wy qs a b wp := by
  induction h with
  | nil => exact .nil
  | snoc h _ ih => exact .snoc (ih fun p hp => m p (List.mem_append_left _ hp)) (m _ (List.mem_append_right _ (.head _)))
/-- rings apart -/
def Rng (ps r : List (Str × Str)) : Prop := (∃ x, Wy ps x x r) ∧ r ≠ [] ∧ (r.map (·.1)).Nodup
def Apart (rs : List (List (Str × Str))) : Prop := rs.Pairwise fun a b => ∀ p ∈ a, p ∉ b
/-- of each ring one must go -/
theorem ring_met {ps r G : List (Str × Str)} (h : Rng ps r) (a : Acy (Out ps G)) : ∃ p ∈ r, p ∈ G := by
  refine Classical.byContradiction fun no => ?_
  obtain ⟨⟨x, wy⟩, ne, _⟩ := h
  exact a x ((wy.to fun p hp => mem_out.mpr ⟨wy.sub p hp, fun z => no ⟨p, hp, z⟩⟩).path ne)
theorem apart_le : ∀ {rs : List (List (Str × Str))} {G : List (Str × Str)}, Apart rs → (∀ r ∈ rs, ∃ p ∈ r, p ∈ G) → rs.length ≤ G.length
  | [], _, _, _ => Nat.zero_le _
  | r :: rs, G, ap, h => by
    obtain ⟨p, pr, pG⟩ := h r (.head _)
    obtain ⟨a1, a2⟩ := List.pairwise_cons.mp ap
    have ih := apart_le (rs := rs) (G := G.erase p) a2 fun s hs => by
      obtain ⟨q, qs, qG⟩ := h s (.tail _ hs)
      refine ⟨q, qs, (List.mem_erase_of_ne fun e => ?_).mpr qG⟩
      rw [e] at qs
      exact a1 s hs p pr qs
    have := List.length_erase_of_mem pG
    have := List.length_pos_of_mem pG
    show rs.length + 1 ≤ _
    omega
theorem rings_lets {ps : List (Str × Str)} {rs : List (List (Str × Str))} {d : Nat} (h : ∀ r ∈ rs, Rng ps r) (ap : Apart rs) (l : Lets ps d) : rs.length ≤ d := by
  obtain ⟨G, lG, a⟩ := l
  exact Nat.le_trans (apart_le ap fun r hr => ring_met (h r hr) a) lG
theorem out_erase {ps G : List (Str × Str)} {p q : Str × Str} (h : q ∈ Out (Out ps [p]) (G.erase p)) : q ∈ Out ps G := by
  obtain ⟨h1, h2⟩ := mem_out.mp h
  obtain ⟨h3, h4⟩ := mem_out.mp h1
  have ne : q ≠ p := fun e => h4 (by rw [e]; exact .head _)
  exact mem_out.mpr ⟨h3, fun z => h2 ((List.mem_erase_of_ne ne).mpr z)⟩
/-- where so many and one more are enough, one of a ring's can go, and the others after it -/
theorem lets_step {ps r : List (Str × Str)} {d : Nat} (h : Rng ps r) (l : Lets ps (d + 1)) : ∃ p ∈ r, Lets (Out ps [p]) d := by
  obtain ⟨G, lG, a⟩ := l
  obtain ⟨p, pr, pG⟩ := ring_met h a
  have := List.length_erase_of_mem pG
  have := List.length_pos_of_mem pG
  exact ⟨p, pr, G.erase p, by omega, a.sub fun q hq => out_erase hq⟩
theorem out_cons {ps G : List (Str × Str)} {p q : Str × Str} : q ∈ Out (Out ps [p]) G ↔ q ∈ Out ps (p :: G) := by
  rw [mem_out, mem_out, mem_out, List.mem_cons (a := q) (b := p) (l := G), List.mem_singleton]
  constructor
  · exact fun ⟨⟨a, b⟩, c⟩ => ⟨a, fun z => z.elim b c⟩
  · exact fun ⟨a, b⟩ => ⟨⟨a, fun z => b (.inl z)⟩, fun z => b (.inr z)⟩
theorem lets_back {ps : List (Str × Str)} {p : Str × Str} {d : Nat} : Lets (Out ps [p]) d → Lets ps (d + 1) := fun ⟨G, l, a⟩ => ⟨p :: G, Nat.succ_le_succ l, a.sub fun q hq => out_cons.mpr hq⟩
/-- the other way about -/
def swp (p : Str × Str) : Str × Str := (p.2, p.1)
theorem path_swap {ps qs : List (Str × Str)} (h : ∀ p ∈ ps, swp p ∈ qs) {a b : Str} (p : Path ps a b) : Path qs b a := by
  induction p with
  | one m => exact .one (h _ m)
  | more _ m ih => exact Path.trans (.one (h _ m)) ih
theorem lets_swap {ps qs : List (Str × Str)} (h : ∀ p ∈ qs, swp p ∈ ps) {d : Nat} : Lets ps d → Lets qs d := fun ⟨G, l, a⟩ => ⟨G.map swp, by rw [List.length_map]; exact l, fun x p => a x (path_swap (fun q hq => mem_out.mpr ⟨h q (mem_out.mp hq).1, fun z => (mem_out.mp hq).2 (List.mem_map.mpr ⟨_, z, rfl⟩)⟩) p)⟩
/-- a saying more -/
theorem path_cons {ps : List (Str × Str)} {a b x y : Str} (p : Path ((a, b) :: ps) x y) : Path ps x y ∨ ((x = a ∨ Path ps x a) ∧ (b = y ∨ Path ps b y)) := by
  induction p with
  | one m =>
    rcases List.mem_cons.mp m with e | m
    · cases e; exact .inr ⟨.inl rfl, .inl rfl⟩
    · exact .inl (.one m)
  | @more u v _ m ih =>
    rcases List.mem_cons.mp m with e | m
    · cases e
      rcases ih with ih | ⟨ih, _⟩
      · exact .inr ⟨.inr ih, .inl rfl⟩
      · exact .inr ⟨ih, .inl rfl⟩
    · rcases ih with ih | ⟨i1, rfl | i2⟩
      · exact .inl (.more ih m)
      · exact .inr ⟨i1, .inr (.one m)⟩
      · exact .inr ⟨i1, .inr (.more i2 m)⟩
theorem ring_back {ps : List (Str × Str)} {a b x : Str} (ac : Acy ps) (ab : a ≠ b) (p : Path ((a, b) :: ps) x x) : Path ps b a := by
  rcases path_cons p with h | ⟨h1, h2⟩
  · exact absurd h (ac x)
  · rcases h1 with rfl | h1 <;> rcases h2 with rfl | h2
    · exact absurd rfl ab
    · exact h2
    · exact h1
    · exact Path.trans h2 h1
/-- how many must go: 4 where three are not enough -/
def Many (ps : List (Str × Str)) (d : Nat) : Prop := (d ≤ 3 ∧ Lets ps d ∧ ∀ e, e < d → ¬ Lets ps e) ∨ (d = 4 ∧ ¬ Lets ps 3)
theorem Many.le {ps qs : List (Str × Str)} {d e : Nat} (h : Many ps d) (k : Many qs e) (s : ∀ m, Lets qs m → Lets ps m) : d ≤ e := by
  rcases h with ⟨h1, h2, h3⟩ | ⟨rfl, h2⟩ <;> rcases k with ⟨k1, k2, k3⟩ | ⟨rfl, k2⟩
  · exact Nat.le_of_not_lt fun z => h3 e z (s e k2)
  · omega
  · exact absurd ((s e k2).more k1) h2
  · exact Nat.le_refl _
theorem Many.one {ps qs : List (Str × Str)} {d e : Nat} (h : Many ps d) (k : Many qs e) (s : ∀ m, Lets ps m → Lets qs (m + 1)) : e ≤ d + 1 := by
  rcases h with ⟨h1, h2, h3⟩ | ⟨rfl, h2⟩ <;> rcases k with ⟨k1, k2, k3⟩ | ⟨rfl, k2⟩
  · exact Nat.le_of_not_lt fun z => k3 _ z (s d h2)
  · refine Nat.le_of_not_lt fun z => k2 ((s d h2).more (by omega))
  · omega
  · omega
theorem Many.zero {ps : List (Str × Str)} {d : Nat} (h : Many ps d) : d = 0 ↔ Acy ps := by
  rw [← lets_zero]
  rcases h with ⟨h1, h2, h3⟩ | ⟨rfl, h2⟩
  · exact ⟨fun e => by rw [← e]; exact h2, fun l => Nat.eq_zero_of_not_pos fun z => h3 0 z l⟩
  · exact ⟨fun e => absurd e (by decide), fun l => absurd (Lets.more l (by decide)) h2⟩
theorem out_take {ps G : List (Str × Str)} {i : Nat} {p : Str × Str} (h : ps[i]? = some p) : Out (ps.take (i + 1)) G = Out (ps.take i) G ++ (if p ∈ G then [] else [p]) := by
  unfold Out
  rw [List.take_add_one, h, List.filter_append]
  congr 1
  by_cases e : p ∈ G <;> simp [e]
def spWithout (T : Tx K mg) : Sp := fun vs H Q _ => ∃ (s g : Addr) (ys zs : List V) (ps gs : List (Str × Str)), vs = [.ref s, .ref g] ∧ H s = some (.tup ys) ∧ NkAll H ys (ps.map sayK) ∧ H g = some (.tup zs) ∧ NkAll H zs (gs.map sayK) ∧ ps.length ≤ 40 ∧ Tbs (tbs T) H ∧
  ∀ r us H', Gk (tbs T) H H' → H' r = some (.tup us) → NkAll H' us ((Out ps gs).map sayK) → Q (.ref r) H'
theorem ok_without (T : Tx K mg) (B : Tb T base) : FnOk P w K mg base CX0 2 T.f_without T.d_without ["some", "gone"] (spWithout T) := by
  refine T.F_without.ok S_without (fun vs H Q E h => ?_) (fun A outer s H vs Q E hr h => ?_)
  · obtain ⟨s, g, ys, zs, ps, gs, rfl, _⟩ := h
    rfl
  · obtain ⟨s, g, ys, zs, ps, gs, rfl, hs, nk, hg, ng, l40, hB, q⟩ := h
    refine ⟨_, (pss_one (ps_ret (GE.pe_tupleG (own := [("saying", 2)]) (g := gName 2) (by rfl) S_without.nd hr (by rfl) T.m_tuple B.b_without rfl ⟨blkOk_by (own := [("saying", 2)]) (N := N_without) (sc := defScope s_without) (by decide +kernel), rfl, (by decide +kernel), (by decide +kernel)⟩ (pi_tup (pv 0)) (fun _ _ _ _ _ _ hr => (pg_name (i := 2) S_without.nd rfl (.inl rfl))) (fun _ _ _ _ _ _ hr => (pts_one (pt_cmpR (r := rInN K true) (op_notInN hr.units) (pv 2) (pv 1) (by rfl)))) (fun _ _ _ _ _ _ hr => (pv 2))))), ?_⟩
    have ly : ys.length = ps.length := by have := nk.length; rw [List.length_map] at this; exact this
    refine ⟨_, rfl, s, rfl, ⟨_, .inl (.inl hs)⟩, hB _ (by simp [tbs]), fun H2 tab => ?_⟩
    have g2 : Gk (tbs T) H H2 := (Tk.of hB (by simp [tbs]) tab).gk hB
    have nk2 := nk.at g2.tups
    have ng2 := ng.at g2.tups
    have hg2 := g2.tup hg
    refine GE.tg_it (walk_tup (xs := ys)) (fun i us Hx => Hx = H2 ∧ NkAll H2 us ((Out (ps.take i) gs).map sayK) ∧ us.length ≤ i) ⟨rfl, .nil, Nat.le_refl _⟩ ?_ ?_ ?_
    · rintro i us Hx _ ⟨rfl, _⟩
      exact .inl (.inl (g2.tup hs))
    · rintro i x us H3 H4 hi ⟨rfl, n3, l3⟩ ⟨rfl, hx⟩
      obtain ⟨k', hk', nx⟩ := nk2.get hx
      have lt : i < ys.length := (List.getElem?_eq_some_iff.mp hx).1
      obtain ⟨p, hp, rfl⟩ : ∃ p, ps[i]? = some p ∧ k' = sayK p := by
        rw [List.getElem?_map] at hk'
        cases e : ps[i]? with
        | none => rw [e] at hk'; cases hk'
        | some y => rw [e] at hk'; exact ⟨y, rfl, (Option.some.inj hk').symm⟩
      refine ⟨rfl, _, rfl, _, rfl, g, zs, sayK p, gs.map sayK, rfl, .inr (.inl (.inl hg2)), nx, ng2, Nat.le_trans (say_depth p) (by decide), _, rfl, ?_⟩
      have ei : sayK p ∈ gs.map sayK ↔ p ∈ gs := ⟨fun h => by
        obtain ⟨u, hu, eu⟩ := List.mem_map.mp h
        rw [← sayK_inj eu]
        exact hu, fun h => List.mem_map_of_mem h⟩
      refine ite2 (fun e => ?_) (fun e => ?_)
      · have e : (!decide (sayK p ∈ gs.map sayK)) = true := e
        have np : p ∉ gs := fun h => by rw [decide_eq_true (ei.mpr h)] at e; cases e
        refine ⟨_, rfl, small1000 (by omega), rfl, ?_, by rw [List.length_append]; exact Nat.succ_le_succ l3⟩
        rw [out_take hp, if_neg np, List.map_append]
        exact n3.app (.cons nx .nil)
      · have e : ¬ (!decide (sayK p ∈ gs.map sayK)) = true := e
        have np : p ∈ gs := Classical.byContradiction fun h => e (by rw [decide_eq_false (fun z => h (ei.mp z))]; rfl)
        refine ⟨rfl, ?_, by omega⟩
        rw [out_take hp, if_pos np, List.append_nil]
        exact n3
    · rintro us H3 ⟨rfl, n3, l3⟩
      rw [ly, List.take_of_length_le (Nat.le_refl _)] at n3
      exact ⟨sz (by omega), fun r hr3 => q r us _ (g2.trans (.new g2.2 hr3)) upd_same (n3.at (.same (same_upd hr3)))⟩
theorem Path.head {ps : List (Str × Str)} {a b : Str} (p : Path ps a b) : ∃ q ∈ ps, q.1 = a := by
  induction p with
  | one m => exact ⟨_, m, rfl⟩
  | more _ _ ih => exact ih
def spAnyT : Sp := fun vs H Q _ => ∃ (l a : Addr) (ys : List V) (ps : List (Str × Str)) (lf : List Str), vs = [.ref l, .ref a] ∧ H l = some (.tup (lf.map V.str)) ∧ H a = some (.tup ys) ∧ NkAll H ys (ps.map sayK) ∧ ps.length ≤ 40 ∧ (∀ p ∈ ps, p.1 ≠ p.2) ∧ (∀ p ∈ ps, p.1 ∈ lf) ∧
  (∀ H', Same H H' → Acy ps → Q .non H') ∧ ∀ o H', Same H H' → RingAt H' ps o → Q (.ref o) H'
theorem ok_anyT (T : Tx K mg) : FnOk P w K mg base CX0 3 T.f_any_ring T.d_any_ring ["names", "some"] (spAnyT) := by
  have G_goes_ahead : FnOk P w K mg base CX0 2 T.f_goes_ahead T.d_goes_ahead ["names", "some", "a", "b"] (spGoes) := ok_goes T
  refine T.F_any_ring.ok S_any_ring (fun vs H Q E h => ?_) (fun cdv A outer s H vs Q E hr h => ?_)
  · obtain ⟨l, a, ys, ps, lf, rfl, _⟩ := h
    rfl
  · obtain ⟨l, a, ys, ps, lf, rfl, hl, ha, nk, l40, un, hz, q0, q⟩ := h
    refine ⟨_, (pss_cons (ps_for PassesOwn.never rfl (pi_tup (pv 0)) (pg_name (i := 2) S_any_ring.nd rfl (.inl rfl))
      (pss_cons (ps_set (i := 3) S_any_ring.nd rfl (.inl rfl) (pe_call G_goes_ahead hr (by rfl) T.g_goes_ahead T.F_goes_ahead.kp T.b_goes_ahead .nil pass0 (pa_cons (pv 0) (pa_cons (pv 1) (pa_cons (pv 2) (pa_cons (pv 2) pa_nil))))))
      (pss_one (ps_if (pt_cmpR op_notN (pv 3) pe_non (nomark _)) (pss_one (ps_ret (pv 3))) pss_nil))))
      (pss_one (ps_ret pe_non))), ?_⟩
    refine ⟨_, rfl, l, rfl, ⟨_, .inl (.inl hl)⟩, ?_⟩
    refine for_tup (xs := lf.map V.str) (fun i σ Hx => (∃ y2 y3, σ = [some (.ref l), some (.ref a), y2, y3]) ∧ Same H Hx ∧ ∀ x ∈ lf.take i, ¬ Path ps x x) ⟨⟨_, _, rfl⟩, fun _ _ e => e, fun x hx => by rw [List.take_zero] at hx; cases hx⟩ (fun i σ Hx hi h => .inl (.inl (h.2.1 _ _ hl))) ?_ ?_
    · rintro i v σ Hx hv ⟨⟨y2, y3, rfl⟩, sx, no⟩
      obtain ⟨z, hz, rfl⟩ : ∃ y, lf[i]? = some y ∧ v = V.str y := by
        rw [List.getElem?_map] at hv
        cases e : lf[i]? with
        | none => rw [e] at hv; cases hv
        | some y => rw [e] at hv; exact ⟨y, rfl, (Option.some.inj hv).symm⟩
      refine ⟨_, rfl, _, rfl, _, rfl, _, rfl, .ref l, a, ys, ps, z, z, rfl, sx _ _ ha, nk.at (.same sx), l40, un, fun v H1 s1 gt => ?_⟩
      have sA := sx.trans s1
      rcases gt with ⟨rfl, np⟩ | ⟨qq, wp, rfl, x1, x2, x3, x4⟩
      · refine ⟨_, rfl, rfl, false, rfl, iteF ⟨⟨_, _, rfl⟩, sA, fun x hx => ?_⟩⟩
        rw [List.take_add_one, hz] at hx
        rcases List.mem_append.mp hx with h | h
        · exact no x h
        · rw [show x = z by simpa using h]; exact np
      · exact ⟨_, rfl, rfl, true, rfl, iteT ⟨_, rfl, q qq H1 sA ⟨z, wp, x1, x2, x3, x4⟩⟩⟩
    · rintro σ Hx ⟨⟨y2, y3, rfl⟩, sx, no⟩
      rw [List.length_map, List.take_of_length_le (Nat.le_refl _)] at no
      refine q0 Hx sx fun x p => ?_
      obtain ⟨s, hs, rfl⟩ := p.head
      exact no _ (hz s hs) p
/-- rings' tuples -/
inductive RsAt (H : Hp) : List V → List (List (Str × Str)) → Prop
  | nil : RsAt H [] []
  | cons {q : Addr} {r : List (Str × Str)} {vs : List V} {rs : List (List (Str × Str))} : WT H q r → RsAt H vs rs → RsAt H (.ref q :: vs) (r :: rs)
theorem RsAt.at {H H' : Hp} {vs : List V} {rs : List (List (Str × Str))} (h : RsAt H vs rs) (t : Tups H H') : RsAt H' vs rs := by
  induction h with
  | nil => exact .nil
  | cons a _ ih => exact .cons (a.at t) ih
theorem RsAt.len {H : Hp} {vs : List V} {rs : List (List (Str × Str))} (h : RsAt H vs rs) : vs.length = rs.length := by
  induction h with
  | nil => rfl
  | cons _ _ ih => exact congrArg Nat.succ ih
theorem RsAt.snoc {H : Hp} {vs : List V} {rs : List (List (Str × Str))} {q : Addr} {r : List (Str × Str)} (h : RsAt H vs rs) (a : WT H q r) : RsAt H (vs ++ [.ref q]) (rs ++ [r]) := by
  induction h with
  | nil => exact .cons a .nil
  | cons b _ ih => exact .cons b ih
theorem out_len {ps G : List (Str × Str)} {p : Str × Str} (h : p ∈ ps) (g : p ∈ G) : (Out ps G).length < ps.length := by
  refine Nat.lt_of_le_of_ne (List.length_filter_le _ _) fun e => ?_
  have := List.length_filter_eq_length_iff.mp e p h
  rw [decide_eq_true g] at this
  cases this
def spRApart (T : Tx K mg) : Sp := fun vs H Q _ => ∃ (n s : Addr) (ys : List V) (ps : List (Str × Str)) (zs : List Str), vs = [.ref n, .ref s] ∧ H n = some (.tup (zs.map V.str)) ∧ H s = some (.tup ys) ∧ NkAll H ys (ps.map sayK) ∧ ps.length ≤ 40 ∧ (∀ p ∈ ps, p.1 ≠ p.2) ∧ (∀ p ∈ ps, p.1 ∈ zs) ∧ Tbs (tbs T) H ∧
  ∀ r us rs H', Gk (tbs T) H H' → H' r = some (.tup us) → RsAt H' us rs → (∀ r ∈ rs, Rng ps r) → Apart rs → (rs = [] → Acy ps) → rs.length ≤ ps.length → Q (.ref r) H'
theorem ok_rapart (T : Tx K mg) (B : Tb T base) : FnOk P w K mg base CX0 4 T.f_rings_apart T.d_rings_apart ["names", "some"] (spRApart T) := by
  have G_any_ring : FnOk P w K mg base CX0 3 T.f_any_ring T.d_any_ring ["names", "some"] (spAnyT) := ok_anyT T
  have G_without : FnOk P w K mg base CX0 2 T.f_without T.d_without ["some", "gone"] (spWithout T) := ok_without T B
  refine T.F_rings_apart.ok S_rings_apart (fun vs H Q E h => ?_) (fun cdv A outer s H vs Q E hr h => ?_)
  · obtain ⟨n, s, ys, ps, zs, rfl, _⟩ := h
    rfl
  · obtain ⟨n, s, ys, ps, zs, rfl, hn, hs, nk, l40, un, hz, hB, q⟩ := h
    refine ⟨_, (pss_cons (ps_set (i := 2) S_rings_apart.nd rfl (.inl rfl) (pe_lst pa_nil))
      (pss_cons (ps_set (i := 3) S_rings_apart.nd rfl (.inl rfl) (pe_call G_any_ring hr (by rfl) T.g_any_ring T.F_any_ring.kp T.b_any_ring .nil pass0 (pa_cons (pv 0) (pa_cons (pv 1) pa_nil))))
      (pss_cons (ps_while PassesOwn.never (pt_cmpR op_notN (pv 3) pe_non (nomark _)) (pss_cons (ps_expr (pe_bm PySem.F.plainAttrs_list PySem.F.slot_list_append PySem.F.type_list_append mt_append (pv 2) (pa_cons (pv 3) pa_nil)))
      (pss_cons (ps_set (i := 1) S_rings_apart.nd rfl (.inl rfl) (pe_call G_without (hr.mono (by decide)) (by rfl) T.g_without T.F_without.kp T.b_without .nil pass0 (pa_cons (pv 1) (pa_cons (pv 3) pa_nil))))
      (pss_one (ps_set (i := 3) S_rings_apart.nd rfl (.inl rfl) (pe_call G_any_ring hr (by rfl) T.g_any_ring T.F_any_ring.kp T.b_any_ring .nil pass0 (pa_cons (pv 0) (pa_cons (pv 1) pa_nil))))))))
      (pss_one (ps_ret (pe_callTy call_tuple_of (by rfl) T.m_tuple (by decide +kernel) (pa_cons (pv 2) pa_nil))))))), ?_⟩
    refine ⟨sz (by show 0 ≤ 1000; decide), fun R nR => ?_⟩
    have sR := same_upd (o := .lst []) nR
    have hR := upd_same (H := H) (a := R) (o := .lst [])
    have g0 : Gk (tbs T) H _ := .of_same sR hB
    generalize upd H R (.lst []) = H1 at sR hR g0 ⊢
    let Inv := fun (m : Nat) (σ : L2.St) (Hx : Hp) => ∃ (sA : Addr) (ys' : List V) (ps' : List (Str × Str)) (us : List V) (rs : List (List (Str × Str))) (v : V), σ = [some (.ref n), some (.ref sA), some (.ref R), some v] ∧ Gk (tbs T) H Hx ∧ Hx sA = some (.tup ys') ∧ NkAll Hx ys' (ps'.map sayK) ∧ (∀ p ∈ ps', p ∈ ps) ∧ Hx R = some (.lst us) ∧ RsAt Hx us rs ∧ (∀ r ∈ rs, Rng ps r) ∧ Apart rs ∧ (∀ r ∈ rs, ∀ p ∈ r, p ∉ ps') ∧ ((v = .non ∧ Acy ps') ∨ ∃ o, v = .ref o ∧ RingAt Hx ps' o) ∧ m = ps'.length ∧ rs.length + ps'.length ≤ ps.length ∧ (rs = [] → ps' = ps)
    refine ⟨_, rfl, _, rfl, n, s, ys, ps, zs, rfl, sR _ _ hn, sR _ _ hs, nk.at (.same sR), l40, un, hz, fun H2 s2 ac => ?_, fun o H2 s2 ro => ?_⟩
    all_goals
      have g2 := g0.trans (.of_same s2 g0.2)
      refine ⟨Inv, ⟨_, s, ys, ps, [], [], _, rfl, g2, g2.tup hs, nk.at g2.tups, fun p hp => hp, s2 _ _ hR, .nil, (fun r hr => by cases hr), .nil, (fun r hr => by cases hr), ?_, rfl, by simp, fun _ => rfl⟩, ?_⟩
      first | exact .inl ⟨rfl, ac⟩ | exact .inr ⟨o, rfl, ro⟩
      rintro m σ Hx ⟨sA, ys', ps', us, rs, v, rfl, gx, hsA, nkA, sub, hRx, hrs, rng, ap, un2, hv, em, le, e0⟩
      have lrs := hrs.len
      rcases hv with ⟨rfl, ac'⟩ | ⟨o', rfl, x, wp, hw, wy, wnd, wne⟩
      · refine ⟨_, rfl, rfl, false, rfl, iteF ?_⟩
        refine ⟨_, rfl, R, _, rfl, .inl ⟨.inl (.inl hRx), fun r nr => ?_⟩⟩
        have s5 := same_upd (o := .tup us) nr
        exact q r us rs _ (gx.trans (.of_same s5 gx.2)) upd_same (hrs.at (.same s5)) rng ap (fun e => by rw [← e0 e]; exact ac') (by omega)
      · refine ⟨_, rfl, rfl, true, rfl, iteT ?_⟩
        refine ⟨_, fun σ' H' h => h, ?_⟩
        refine ⟨_, rfl, .inl ⟨rfl, _, .inl (.inl hRx)⟩, _, rfl, R, us, .ref o', rfl, rfl, hRx, small1000 (by omega), ?_⟩
        have tR := tups_lst (o := .lst (us ++ [.ref o'])) hRx
        have g3 : Gk (tbs T) H (upd Hx R (.lst (us ++ [.ref o']))) := gk_fresh nR gx hRx (fun ps z => by cases z)
        have hR3 := upd_same (H := Hx) (a := R) (o := .lst (us ++ [.ref o']))
        have hsA3 := tR _ _ hsA
        have nkA3 := nkA.at tR
        have hrs3 := (hrs.at tR).snoc (hw.at tR)
        obtain ⟨ws, how, nw⟩ := hw.at tR
        generalize upd Hx R (.lst (us ++ [.ref o'])) = H3 at g3 hR3 hsA3 nkA3 hrs3 how nw ⊢
        have lps : ps'.length ≤ 40 := by omega
        refine ⟨_, rfl, _, rfl, sA, o', ys', ws, ps', wp, rfl, hsA3, nkA3, how, nw, lps, g3.2, fun sB us' H4 g4 hsB nkB => ?_⟩
        have g34 := g3.trans g4
        have subB : ∀ p ∈ Out ps' wp, p ∈ ps := fun p hp => sub p (mem_out.mp hp).1
        obtain ⟨p0, hp0⟩ : ∃ p, p ∈ wp := by
          cases wp with
          | nil => exact absurd rfl wne
          | cons p _ => exact ⟨p, .head _⟩
        have lout := out_len (wy.sub p0 hp0) hp0
        have hrs4 := hrs3.at g4.tups
        have rng4 : ∀ r ∈ rs ++ [wp], Rng ps r := fun r hr => (List.mem_append.mp hr).elim (rng r) fun h => by rw [List.mem_singleton.mp h]; exact ⟨⟨x, wy.to fun p hp => sub p (wy.sub p hp)⟩, wne, wnd⟩
        have ap4 : Apart (rs ++ [wp]) := List.pairwise_append.mpr ⟨ap, List.pairwise_singleton _ _, fun r hr s hs p hp z => by rw [List.mem_singleton.mp hs] at z; exact un2 r hr p hp (wy.sub p z)⟩
        have un4 : ∀ r ∈ rs ++ [wp], ∀ p ∈ r, p ∉ Out ps' wp := fun r hr p hp z => (List.mem_append.mp hr).elim (fun h => un2 r h p hp (mem_out.mp z).1) fun h => by rw [List.mem_singleton.mp h] at hp; exact (mem_out.mp z).2 hp
        have e4 : rs ++ [wp] = [] → Out ps' wp = ps := fun e => by simp at e
        have le4 : (rs ++ [wp]).length + (Out ps' wp).length ≤ ps.length := by rw [List.length_append]; show _ + 1 + _ ≤ _; omega
        have hR4 := g4.1 _ _ hR3 (fun ps z => by cases z)
        have un5 : ∀ p ∈ Out ps' wp, p.1 ≠ p.2 := fun p hp => un p (subB p hp)
        have hz5 : ∀ p ∈ Out ps' wp, p.1 ∈ zs := fun p hp => hz p (subB p hp)
        refine ⟨_, rfl, _, rfl, n, sB, us', Out ps' wp, zs, rfl, g34.tup hn, hsB, nkB, by omega, un5, hz5, fun H5 s5 ac5 => ?_, fun o5 H5 s5 ro5 => ?_⟩
        · exact ⟨(Out ps' wp).length, by omega, sB, us', Out ps' wp, us ++ [.ref o'], rs ++ [wp], .non, rfl, g34.trans (.of_same s5 g34.2), s5 _ _ hsB, nkB.at (.same s5), subB, s5 _ _ hR4, hrs4.at (.same s5), rng4, ap4, un4, .inl ⟨rfl, ac5⟩, rfl, le4, e4⟩
        · exact ⟨(Out ps' wp).length, by omega, sB, us', Out ps' wp, us ++ [.ref o'], rs ++ [wp], .ref o5, rfl, g34.trans (.of_same s5 g34.2), s5 _ _ hsB, nkB.at (.same s5), subB, s5 _ _ hR4, hrs4.at (.same s5), rng4, ap4, un4, .inr ⟨o5, rfl, ro5⟩, rfl, le4, e4⟩
end
end L45

set_option Elab.async false
set_option linter.all false
set_option maxRecDepth 100000
set_option maxHeartbeats 2000000
namespace L45
open PySem PySem.Spec PyProof.Rows L2 LT
open My hiding Tbs Gk Tk
section
variable {P : Program} {w : World} {K : PySem.W.Frag} {mg : Str → Option Value} {base : Heap}
theorem wt_len {H : Hp} {q : Addr} {wp : List (Str × Str)} {ws : List V} (h : NkAll H ws (wp.map sayK)) : ws.length = wp.length := by
  have := h.length
  rw [List.length_map] at this
  exact this
/-- two ways' tuples put together -/
theorem cat_wt {H : Hp} {q1 q2 : Addr} {w1 w2 : List (Str × Str)} {Q : V → Hp → Prop} (h1 : WT H q1 w1) (h2 : WT H q2 w2) (l : w1.length + w2.length ≤ 1000) (k : ∀ r H', Same H H' → WT H' r (w1 ++ w2) → Q (.ref r) H') : rCatA K (.ref q1) (.ref q2) H Q := by
  obtain ⟨xs, a1, n1⟩ := h1
  obtain ⟨ys, a2, n2⟩ := h2
  have l1 := wt_len (q := q1) n1
  have l2 := wt_len (q := q2) n2
  refine ⟨q1, q2, xs, ys, rfl, rfl, .inl (.inl a1), .inl (.inl a2), Nat.le_trans (show _ ≤ 1000 by omega) (by decide), fun e => ?_, fun _ e => ?_, fun _ _ r nr => ?_⟩
  · have e1 : w1 = [] := List.length_eq_zero_iff.mp (by rw [← l1, e]; rfl)
    rw [e1, List.nil_append] at k
    exact k q2 H (fun _ _ e => e) ⟨ys, a2, n2⟩
  · have e1 : w2 = [] := List.length_eq_zero_iff.mp (by rw [← l2, e]; rfl)
    rw [e1, List.append_nil] at k
    exact k q1 H (fun _ _ e => e) ⟨xs, a1, n1⟩
  · refine k r _ (same_upd nr) ⟨_, upd_same, ?_⟩
    rw [List.map_append]
    exact (n1.app n2).at (.same (same_upd nr))
theorem Wy.first {ps : List (Str × Str)} {a b : Str} {wp : List (Str × Str)} (h : Wy ps a b wp) (n : wp ≠ []) : ∃ p, wp[0]? = some p ∧ p.1 = a := by
  induction h with
  | nil => exact absurd rfl n
  | @snoc b c wp h m ih =>
    by_cases e : wp = []
    · exact ⟨(b, c), by rw [e]; rfl, h.stay e⟩
    · obtain ⟨p, hp, e2⟩ := ih e
      refine ⟨p, ?_, e2⟩
      rw [List.getElem?_append_left (List.getElem?_eq_some_iff.mp hp).1]
      exact hp
theorem Wy.last {ps : List (Str × Str)} {a b : Str} {wp : List (Str × Str)} (h : Wy ps a b wp) (n : wp ≠ []) : ∃ p i, wp[i]? = some p ∧ i + 1 = wp.length ∧ p.2 = b := by
  cases h with
  | nil => exact absurd rfl n
  | @snoc b c wp h m => exact ⟨(b, _), wp.length, by rw [List.getElem?_append_right (Nat.le_refl _), Nat.sub_self]; rfl, by simp, rfl⟩
theorem Wy.along {ps : List (Str × Str)} {a b : Str} {wp : List (Str × Str)} (h : Wy ps a b wp) : ∀ {k : Nat} {p q : Str × Str}, wp[k]? = some p → wp[k + 1]? = some q → q.1 = p.2 := by
  induction h with
  | nil => exact fun h _ => by cases h
  | @snoc b c wp h m ih =>
    intro k p q hp hq
    have lq := (List.getElem?_eq_some_iff.mp hq).1
    rw [List.length_append, List.length_singleton] at lq
    rw [List.getElem?_append_left (by omega)] at hp
    by_cases e : k + 1 < wp.length
    · rw [List.getElem?_append_left e] at hq
      exact ih hp hq
    · have ek : k + 1 = wp.length := by omega
      rw [ek, List.getElem?_append_right (Nat.le_refl _), Nat.sub_self] at hq
      obtain ⟨r, i, hr, hi, er⟩ := h.last (fun z => by rw [z] at ek; cases ek)
      have : k = i := by omega
      rw [this, hr] at hp
      cases hp
      cases hq
      exact er.symm
/-- a ring told by ways is a ring told by its things -/
theorem rng_ring {ps r : List (Str × Str)} (h : Rng ps r) : IsRing ps r := by
  obtain ⟨⟨x, wy⟩, ne, nd⟩ := h
  obtain ⟨p0, h0, e0⟩ := wy.first ne
  obtain ⟨pl, i, hl, il, el⟩ := wy.last ne
  refine (ring_flat h0 (b := pl) (by rw [show r.length - 1 = i by omega]; exact hl)).mpr ⟨fun y hy => wy.sub y hy, by rw [el, e0], fun i x y hx hy => wy.along hx hy, nd⟩
theorem rs_dq {H : Hp} {t : Addr} (ht : ∃ ys, H t = some (.lst ys)) : ∀ {us : List V} {rs : List (List (Str × Str))}, RsAt H us rs → DqAll false t H us (ringsD rs)
  | _, _, .nil => .nil
  | _, _, .cons ⟨ws, hq, nk⟩ h => .cons (.tup (fun z => by obtain ⟨ys, e⟩ := ht; rw [z, e] at hq; cases hq) hq (nk_dqs ht nk)) (rs_dq ht h)
theorem common_none {rs : List (List (Str × Str))} (ap : Apart rs) : firstIx rs.length (commonB rs) = none := firstIx_none fun j hj => by
  rw [commonB_at (List.getElem?_eq_getElem hj), List.any_eq_false]
  intro p hp z
  obtain ⟨l, hl, hpl⟩ := List.mem_flatten.mp (of_decide_eq_true z)
  obtain ⟨i, hi⟩ := List.mem_iff_getElem?.mp hl
  have li := (List.getElem?_eq_some_iff.mp hi).1
  rw [List.length_take] at li
  rw [List.getElem?_take_of_lt (by omega)] at hi
  have := List.pairwise_iff_getElem.mp ap i j (by omega) hj (by omega)
  have el : rs[i]'(by omega) = l := (List.getElem?_eq_some_iff.mp hi).2
  rw [el] at this
  exact this p hpl hp
theorem out_single {ps : List (Str × Str)} {p : Str × Str} : Out ps [p] = ps.filter fun q => !decide (q = p) := by
  unfold Out
  refine List.filter_congr fun q _ => ?_
  rw [show decide (q ∈ [p]) = decide (q = p) by rw [Bool.eq_iff_iff, decide_eq_true_eq, decide_eq_true_eq, List.mem_singleton]]
theorem wid_text (z : Str) {l : Nat} : Wid l (.str z) := by rw [Wid]; exact trivial; all_goals exact fun _ z => by cases z
theorem wid_ring {r : List (Str × Str)} (h : r.length ≤ 50) : Wid 50 (.tuple (r.map sayD)) := wid_tup (by rw [List.length_map]; exact h) fun d hd => by
  obtain ⟨p, _, rfl⟩ := List.mem_map.mp hd
  refine wid_tup (by show 2 ≤ 50; decide) fun e he => ?_
  simp only [List.mem_cons, List.not_mem_nil, or_false] at he
  rcases he with rfl | rfl <;> exact wid_text _
theorem isT_self (z : Str) : isT z (.str z) = true := beq_self_eq_true z
/-- rings apart, more than so many -/
theorem case_apart {ps : List (Str × Str)} {rs : List (List (Str × Str))} {m : Nat} (rng : ∀ r ∈ rs, Rng ps r) (ap : Apart rs) (l : m < rs.length) (us : List Nat) : caseF m ps (.tuple [.str (Str.ofString "rings"), .tuple (ringsD rs)]) us = none := by
  have sh : shapeF m (.tuple [.str (Str.ofString "rings"), .tuple (ringsD rs)]) = true := by
    show shapeT m [.str (Str.ofString "rings"), .tuple (ringsD rs)] = true
    rw [shapeT, if_pos (isT_self _)]
    rfl
  refine case_rings ?_
  rw [node_rings sh]
  unfold ringsF
  rw [if_neg, wps_back, show (ringsD rs).length = rs.length from List.length_map _, common_none ap, if_neg (by decide), if_neg (by omega)]
  rw [List.all_eq_true.mpr]
  · exact Bool.noConfusion
  · intro d hd
    obtain ⟨r, hr, rfl⟩ := List.mem_map.mp hd
    exact ringB_yes (rng_ring (rng r hr))
/-- a ring, a paper for each of its sayings -/
theorem case_each {ps r : List (Str × Str)} {ds : List PyData} {m : Nat} (rng : Rng ps r) (l : ds.length = r.length) (h : ∀ (j : Nat) (p : Str × Str) (d : PyData), r[j]? = some p → ds[j]? = some d → ∀ us, caseF m (Out ps [p]) d us = none) (us : List Nat) : caseF (m + 1) ps (.tuple [.str (Str.ofString "one"), .tuple (r.map sayD), .tuple ds]) us = none := by
  have sh : shapeF (m + 1) (.tuple [.str (Str.ofString "one"), .tuple (r.map sayD), .tuple ds]) = true := by
    show shapeT (m + 1) [.str (Str.ofString "one"), .tuple (r.map sayD), .tuple ds] = true
    rw [shapeT, if_neg (by decide +kernel), if_pos (isT_self _)]
    show (true && true && decide (ds.length = if m + 1 = 0 then 0 else (r.map sayD).length)) = true
    rw [if_neg (by omega), List.length_map, decide_eq_true l]
    rfl
  have no : nodeF ps (m + 1) (.tuple [.str (Str.ofString "one"), .tuple (r.map sayD), .tuple ds]) = none := by
    rw [node_one sh, if_pos (ringB_yes (rng_ring rng))]
  rw [case_one no]
  refine find_none fun j hj => ?_
  obtain ⟨p, hp⟩ : ∃ p, r[j]? = some p := ⟨_, List.getElem?_eq_getElem (by omega)⟩
  obtain ⟨d, hd⟩ : ∃ d, ds[j]? = some d := ⟨_, List.getElem?_eq_getElem hj⟩
  have e : partF m ps (r.map sayD) ds us j = caseF m (ps.filter fun q => !decide (q = p)) d (us ++ [j]) := by
    unfold partF
    rw [List.getElem?_map, hp, hd]
    rfl
  rw [e, ← out_single]
  exact h j p d hp hd _
theorem ne_t {H : Hp} {t a : Addr} {us xs : List V} (ht : H t = some (.lst us)) (ha : H a = some (.tup xs)) : a ≠ t := fun z => by
  rw [z, ht] at ha
  cases ha
/-- a thing of tuples and texts alone: it stays while tuples stay -/
def DqT (t : Addr) (H : Hp) (v : V) (d : PyData) : Prop := ∀ H', Tups H H' → (∃ us, H' t = some (.lst us)) → Dq false t H' v d
def DqTs (t : Addr) (H : Hp) (vs : List V) (ds : List PyData) : Prop := ∀ H', Tups H H' → (∃ us, H' t = some (.lst us)) → DqAll false t H' vs ds
theorem DqT.at {t : Addr} {H H' : Hp} {v : V} {d : PyData} (h : DqT t H v d) (g : Tups H H') : DqT t H' v d := fun H2 g2 ht => h H2 (g.trans g2) ht
theorem DqTs.at {t : Addr} {H H' : Hp} {v : List V} {d : List PyData} (h : DqTs t H v d) (g : Tups H H') : DqTs t H' v d := fun H2 g2 ht => h H2 (g.trans g2) ht
theorem DqT.text {t : Addr} {H : Hp} (z : Str) : DqT t H (.str z) (.str z) := fun _ _ _ => .str z
theorem DqTs.tup {t a : Addr} {H : Hp} {vs : List V} {ds : List PyData} (h : DqTs t H vs ds) (ha : H a = some (.tup vs)) : DqT t H (.ref a) (.tuple ds) := fun H2 g2 ⟨us, ht⟩ => .tup (ne_t ht (g2 _ _ ha)) (g2 _ _ ha) (h H2 g2 ⟨us, ht⟩)
theorem DqTs.nil {t : Addr} {H : Hp} : DqTs t H [] [] := fun _ _ _ => .nil
theorem DqTs.cons {t : Addr} {H : Hp} {v : V} {d : PyData} {vs : List V} {ds : List PyData} (h : DqT t H v d) (g : DqTs t H vs ds) : DqTs t H (v :: vs) (d :: ds) := fun H2 g2 ht => .cons (h H2 g2 ht) (g H2 g2 ht)
theorem DqTs.snoc {t : Addr} {H : Hp} {v : V} {d : PyData} {vs : List V} {ds : List PyData} (g : DqTs t H vs ds) (h : DqT t H v d) : DqTs t H (vs ++ [v]) (ds ++ [d]) := fun H2 g2 ht => (g H2 g2 ht).app (.cons (h H2 g2 ht) .nil)
theorem dqt_ring {t q : Addr} {H : Hp} {r : List (Str × Str)} (h : WT H q r) : DqT t H (.ref q) (.tuple (r.map sayD)) := by
  obtain ⟨ws, hq, nk⟩ := h
  exact DqTs.tup (fun H2 g2 ht => nk_dqs ht (nk.at g2)) hq
theorem dqt_rings {t : Addr} {H : Hp} {us : List V} {rs : List (List (Str × Str))} (h : RsAt H us rs) : DqTs t H us (ringsD rs) := fun H2 g2 ht => rs_dq ht (h.at g2)
/-- a paper that shows that so many don't do -/
def CaseOk (t : Addr) (H : Hp) (v : V) (m : Nat) (ps : List (Str × Str)) : Prop := ∃ d, DqT t H v d ∧ Wid 50 d ∧ ∀ us, caseF m ps d us = none
theorem CaseOk.at {t : Addr} {H H' : Hp} {v : V} {m : Nat} {ps : List (Str × Str)} (h : CaseOk t H v m ps) (g : Tups H H') : CaseOk t H' v m ps := let ⟨d, a, b⟩ := h; ⟨d, a.at g, b⟩
def spSeek (T : Tx K mg) (m : Nat) : Sp := fun vs H Q _ => ∃ (n s t : Addr) (k : Int) (ys : List V) (ps : List (Str × Str)) (zs : List Str), vs = [.ref n, .ref s, .int k] ∧ k = (m : Int) ∧ H n = some (.tup (zs.map V.str)) ∧ H s = some (.tup ys) ∧ NkAll H ys (ps.map sayK) ∧ ps.length ≤ 40 ∧ (∀ p ∈ ps, p.1 ≠ p.2) ∧ (∀ p ∈ ps, p.1 ∈ zs) ∧ (∃ us, H t = some (.lst us)) ∧ Tbs (tbs T) H ∧
  (∀ r g gs H', Gk (tbs T) H H' → gs.length ≤ m → Acy (Out ps gs) → (∀ p ∈ gs, p ∈ ps) → gs.Nodup → H' r = some (.tup [.str "gone", .ref g]) → WT H' g gs → Q (.ref r) H') ∧
  ∀ r v H', Gk (tbs T) H H' → ¬ Lets ps m → H' r = some (.tup [.str "cases", v]) → CaseOk t H' v m ps → Q (.ref r) H'
def spPrev (T : Tx K mg) : Nat → Sp
  | 0 => fun _ _ _ _ => False
  | m + 1 => spSeek T m
theorem seek_step (T : Tx K mg) (B : Tb T base) {m n : Nat} (hm : m ≤ 3) (hn : 4 ≤ n) (G_seek_letting : FnOk P w K mg base CX0 n T.f_seek_letting T.d_seek_letting ["names", "left", "more"] (spPrev T m)) :
    FnOk P w K mg base CX0 (n + 1) T.f_seek_letting T.d_seek_letting ["names", "left", "more"] (spSeek T m) := by
  have G_rings_apart : FnOk P w K mg base CX0 4 T.f_rings_apart T.d_rings_apart ["names", "some"] (spRApart T) := ok_rapart T B
  have G_without : FnOk P w K mg base CX0 2 T.f_without T.d_without ["some", "gone"] (spWithout T) := ok_without T B
  refine T.F_seek_letting.ok S_seek_letting (fun vs H Q E h => ?_) (fun cdv A outer s H vs Q E hr h => ?_)
  · obtain ⟨n, s, t, k, ys, ps, zs, rfl, _⟩ := h
    rfl
  · obtain ⟨nA, s, t, k, ys, ps, zs, rfl, ek, hN, hs, nk, l40, un, hz, ⟨tz, htz⟩, hB, qg, qc⟩ := h
    have tne : ∀ {H1 : Hp} {a : Addr}, Gk (tbs T) H H1 → H1 a = none → a ≠ t := fun g1 n z => by
      have := g1.1 _ _ htz (fun ps z => by cases z)
      rw [← z, n] at this
      cases this
    refine ⟨_, (pss_cons (ps_set (i := 3) S_seek_letting.nd rfl (.inl rfl) (pe_call G_rings_apart (hr.mono (by omega)) (by rfl) T.g_rings_apart T.F_rings_apart.kp T.b_rings_apart .nil pass0 (pa_cons (pv 0) (pa_cons (pv 1) pa_nil))))
      (pss_cons (ps_if (pt_not (pt_truth (pv 3) (by intro _; rfl))) (pss_one (ps_ret (pe_tup (pa_cons pe_str (pa_cons (pe_tup pa_nil) pa_nil))))) pss_nil)
      (pss_cons (ps_if (pt_cmpR op_gt (pe_callB call_len_seq (by rfl) T.m_len PySem.boot_len (pa_cons (pv 3) pa_nil)) (pv 2) (nomark _)) (pss_one (ps_ret (pe_tup (pa_cons pe_str (pa_cons (pe_tup (pa_cons pe_str (pa_cons (pv 3) pa_nil))) pa_nil))))) pss_nil)
      (pss_cons (ps_set (i := 4) S_seek_letting.nd rfl (.inl rfl) (pe_lst pa_nil))
      (pss_cons (ps_for PassesOwn.never rfl (pi_tup (pe_ix ix_tup (pv 3) pe_int (fun _ _ => rfl))) (pg_name (i := 5) S_seek_letting.nd rfl (.inl rfl))
      (pss_cons (ps_asg (pe_call G_seek_letting (hr.mono (by omega)) (by rfl) T.g_seek_letting T.F_seek_letting.kp T.b_seek_letting .nil pass0 (pa_cons (pv 0) (pa_cons (pe_call G_without (hr.mono (by omega)) (by rfl) T.g_without T.F_without.kp T.b_without .nil pass0 (pa_cons (pv 1) (pa_cons (pe_tup (pa_cons (pv 5) pa_nil)) pa_nil))) (pa_cons (pe_op op_sub (pv 2) pe_int) pa_nil)))) (pg_tup rfl (pgs_cons (pg_name (i := 6) S_seek_letting.nd rfl (.inl rfl)) (pgs_cons (pg_name (i := 7) S_seek_letting.nd rfl (.inl rfl)) pgs_nil))))
      (pss_cons (ps_if (pt_cmpR op_eq (pv 6) pe_str (nomark _)) (pss_one (ps_ret (pe_tup (pa_cons (pv 6) (pa_cons (pe_op op_catA (pe_tup (pa_cons (pv 5) pa_nil)) (pv 7)) pa_nil))))) pss_nil)
      (pss_one (ps_expr (pe_bm PySem.F.plainAttrs_list PySem.F.slot_list_append PySem.F.type_list_append mt_append (pv 4) (pa_cons (pv 7) pa_nil)))))))
      (pss_one (ps_ret (pe_tup (pa_cons pe_str (pa_cons (pe_tup (pa_cons pe_str (pa_cons (pe_ix ix_tup (pv 3) pe_int (fun _ _ => rfl)) (pa_cons (pe_callTy call_tuple_of (by rfl) T.m_tuple (by decide +kernel) (pa_cons (pv 4) pa_nil)) pa_nil)))) pa_nil)))))))))), ?_⟩
    refine ⟨_, rfl, _, rfl, nA, s, ys, ps, zs, rfl, hN, hs, nk, l40, un, hz, hB, fun r us rs H1 g1 hr1 hrs rng ap e0 lrs => ?_⟩
    have lus := hrs.len
    refine ⟨_, rfl, _, .inr (.inl ⟨_, .inl (.inl hr1), rfl⟩), ite2 (fun e => ?_) (fun e => ?_)⟩
    · have er : rs = [] := by
        cases us with
        | nil => exact List.length_eq_zero_iff.mp lus.symm
        | cons => cases e
      refine ⟨sz (by show 0 ≤ 1000; decide), fun c0 n0 => ⟨sz (by show 2 ≤ 1000; decide), fun r2 n2 => ?_⟩⟩
      have s1 := same_upd (o := .tup []) n0
      have s2 := same_upd (o := .tup [.str "gone", .ref c0]) n2
      exact qg r2 c0 [] _ (g1.trans (.of_same (s1.trans s2) g1.2)) (Nat.zero_le _) ((e0 er).sub fun p hp => (mem_out.mp hp).1) (fun p hp => by cases hp) List.nodup_nil upd_same ⟨[], s2 _ _ upd_same, .nil⟩
    · refine ⟨_, rfl, r, _, rfl, .inr (.inl (.inl hr1)), _, rfl, _, _, rfl, rfl, _, rfl, ite2 (fun e2 => ?_) (fun e2 => ?_)⟩
      · have e2 : ((us.length : Nat) : Int) > k := of_decide_eq_true e2
        refine ⟨_, rfl, sz (by show 2 ≤ 1000; decide), fun c1 n1 => ⟨sz (by show 2 ≤ 1000; decide), fun r2 n2 => ?_⟩⟩
        have s1 := same_upd (o := .tup [.str "rings", .ref r]) n1
        have s2 := same_upd (o := .tup [.str "cases", .ref c1]) n2
        have g12 := g1.trans (.of_same (s1.trans s2) g1.2)
        refine qc r2 _ _ g12 (fun l => ?_) upd_same ⟨_, DqTs.tup (.cons (.text _) (.cons (DqTs.tup ((dqt_rings hrs).at (.same (s1.trans s2))) ((s1.trans s2) _ _ hr1)) .nil)) (s2 _ _ upd_same), wid_tup (by show 2 ≤ 50; decide) fun e he => ?_, case_apart rng ap (by omega)⟩
        · have := rings_lets rng ap l
          omega
        · simp only [List.mem_cons, List.not_mem_nil, or_false] at he
          rcases he with rfl | rfl
          · exact wid_text _
          · refine wid_tup (by unfold ringsD; rw [List.length_map]; omega) fun e he => ?_
            obtain ⟨r, hr, rfl⟩ := List.mem_map.mp he
            refine wid_ring ?_
            obtain ⟨⟨x, wy⟩, _, nd⟩ := rng r hr
            have := nodup_len (m := ps.map (·.1)) nd fun x hx => by
              obtain ⟨g, hg, rfl⟩ := List.mem_map.mp hx
              exact List.mem_map_of_mem (f := (·.1)) (wy.sub g hg)
            rw [List.length_map, List.length_map] at this
            omega
      · have e2 : ¬ ((us.length : Nat) : Int) > k := fun z => e2 (decide_eq_true z)
        cases hrs with
        | nil => exact absurd rfl e
        | @cons q0 r0 us rs hw hrs =>
          have m0 : 0 < m := by
            rw [List.length_cons] at e2
            omega
          obtain ⟨m, rfl⟩ : ∃ m', m = m' + 1 := ⟨m - 1, by omega⟩
          have G_seek_letting : FnOk P w K mg base CX0 n T.f_seek_letting T.d_seek_letting ["names", "left", "more"] (spSeek T m) := G_seek_letting
          have rg0 := rng r0 (.head _)
          obtain ⟨ws, hw0, nw0⟩ := hw
          have lw : ws.length = r0.length := by have := nw0.length; rw [List.length_map] at this; exact this
          have h40 : r0.length ≤ 40 := by
            obtain ⟨⟨x, wy⟩, _, nd⟩ := rg0
            have := nodup_len (m := ps.map (·.1)) nd fun x hx => by
              obtain ⟨g, hg, rfl⟩ := List.mem_map.mp hx
              exact List.mem_map_of_mem (f := (·.1)) (wy.sub g hg)
            rw [List.length_map, List.length_map] at this
            omega
          refine ⟨sz (by show 0 ≤ 1000; decide), fun D nD => ?_⟩
          have sD := same_upd (o := .lst []) nD
          refine ⟨_, rfl, r, _, 0, .ref q0, rfl, rfl, .inl (.inl (sD _ _ hr1)), at_of (j := 0) rfl rfl, q0, rfl, ⟨_, .inl (.inl (sD _ _ hw0))⟩, ?_⟩
          refine for_tup (xs := ws) (fun i σ Hx => ∃ (y5 y6 y7 : Option V) (pa : List V), σ = [some (.ref nA), some (.ref s), some (.int k), some (.ref r), some (.ref D), y5, y6, y7] ∧ Gk (tbs T) H1 Hx ∧ Hx D = some (.lst pa) ∧ pa.length ≤ i ∧ (∀ p ∈ r0.take i, ¬ Lets (Out ps [p]) m) ∧ ∃ ds, DqTs t Hx pa ds ∧ ds.length = i ∧ ∀ (j : Nat) (p : Str × Str) (d : PyData), r0[j]? = some p → ds[j]? = some d → Wid 50 d ∧ ∀ us, caseF m (Out ps [p]) d us = none) ⟨_, _, _, [], rfl, .of_same sD g1.2, upd_same, Nat.le_refl _, (fun p hp => by rw [List.take_zero] at hp; cases hp), [], DqTs.nil, rfl, fun j p d _ h => by simp at h⟩ (fun i σ Hx hi ⟨_, _, _, _, _, g, _⟩ => .inl (.inl (g.tup hw0))) ?_ ?_
          · rintro i v σ Hx hv ⟨y5, y6, y7, pa, rfl, gx, hD, lp, no, ds, dqs, lds, okd⟩
            have hi := (List.getElem?_eq_some_iff.mp hv).1
            obtain ⟨kk, hk2, nx⟩ := nw0.get hv
            obtain ⟨p, hp, rfl⟩ : ∃ p, r0[i]? = some p ∧ kk = sayK p := by
              rw [List.getElem?_map] at hk2
              cases e : r0[i]? with
              | none => rw [e] at hk2; cases hk2
              | some y => rw [e] at hk2; exact ⟨y, rfl, (Option.some.inj hk2).symm⟩
            have mp : p ∈ ps := by
              obtain ⟨⟨x, wy⟩, _⟩ := rg0
              exact wy.sub p (List.mem_of_getElem? hp)
            obtain ⟨y, rfl, hy⟩ := say_nk nx
            have gHx := g1.trans gx
            refine ⟨_, rfl, _, rfl, _, rfl, sz (by show 1 ≤ 1000; decide), fun c nc => ?_⟩
            have sc := same_upd (o := .tup [.ref y]) nc
            have g2 := gHx.trans (.of_same sc gHx.2)
            refine ⟨s, c, ys, [.ref y], ps, [p], rfl, g2.tup hs, nk.at g2.tups, upd_same, .cons (nk_say (sc _ _ (gx.tup hy))) .nil, l40, g2.2, fun s2 us2 H3 g3 hs2 nk2 => ?_⟩
            have g23 := g2.trans g3
            have lo : (Out ps [p]).length ≤ 40 := Nat.le_trans (List.length_filter_le _ _) l40
            refine ⟨_, rfl, _, _, rfl, rfl, nA, s2, t, k - 1, us2, Out ps [p], zs, rfl, by omega, g23.tup hN, hs2, nk2, lo, fun q hq => un q (mem_out.mp hq).1, fun q hq => hz q (mem_out.mp hq).1, ⟨tz, g23.1 _ _ htz (fun ps z => by cases z)⟩, g3.2, fun r3 g gs H4 g4 lg ac sub nd hr3 hg => ?_, fun r3 v H4 g4 nl hr3 ck => ?_⟩
            · have gA := g23.trans g4
              refine ⟨r3, _, rfl, .inl (.inl hr3), rfl, _, _, rfl, _, _, rfl, rfl, ?_⟩
              refine ⟨_, rfl, rfl, _, rfl, ite2 (fun _ => ?_) (fun z => absurd (decide_eq_true rfl) z)⟩
              refine ⟨_, rfl, _, rfl, sz (by show 1 ≤ 1000; decide), fun c1 n1 => ?_⟩
              have s1 := same_upd (o := .tup [.ref y]) n1
              have hy4 := (g4.tup (g3.tup (sc _ _ (gx.tup hy))))
              have lgs : gs.length ≤ 40 := by
                have := nodup_len nd fun q hq => sub q hq
                omega
              refine ⟨_, rfl, cat_wt (w1 := [p]) (w2 := gs) ⟨_, upd_same, .cons (nk_say (s1 _ _ hy4)) .nil⟩ (hg.at (.same s1)) (by show 1 + _ ≤ _; omega) fun u H5 s5 hu => ?_⟩
              refine ⟨sz (by show 2 ≤ 1000; decide), fun r6 n6 => ?_⟩
              have s6 := same_upd (o := .tup [.str "gone", .ref u]) n6
              refine qg r6 u (p :: gs) _ (gA.trans (.of_same (s1.trans (s5.trans s6)) gA.2)) (Nat.succ_le_succ lg) (ac.sub fun q hq => out_cons.mpr hq) (fun q hq => (List.mem_cons.mp hq).elim (fun e => by rw [e]; exact mp) fun h => (mem_out.mp (sub q h)).1) (List.nodup_cons.mpr ⟨fun z => (mem_out.mp (sub p z)).2 (.head _), nd⟩) upd_same (hu.at (.same s6))
            · refine ⟨r3, _, rfl, .inl (.inl hr3), rfl, _, _, rfl, _, _, rfl, rfl, ?_⟩
              refine ⟨_, rfl, rfl, _, rfl, ite2 (fun z => absurd z (by decide +kernel)) (fun _ => ?_)⟩
              have hD4 : H4 D = some (.lst pa) := g4.1 _ _ (g3.1 _ _ (sc _ _ hD) (fun ps z => by cases z)) (fun ps z => by cases z)
              refine ⟨_, rfl, .inl ⟨rfl, _, .inl (.inl hD4)⟩, _, rfl, D, pa, _, rfl, rfl, hD4, small1000 (by omega), ?_⟩
              refine ⟨_, _, _, pa ++ [v], rfl, gk_fresh nD (((gx.trans (.of_same sc gx.2)).trans g3).trans g4) hD4 (fun ps z => by cases z), upd_same, by rw [List.length_append]; exact Nat.succ_le_succ lp, fun p2 hp2 => ?_, ?_⟩
              rw [List.take_add_one, hp] at hp2
              rcases List.mem_append.mp hp2 with h | h
              · exact no p2 h
              · rw [show p2 = p by simpa using h]; exact nl
              · obtain ⟨dd, dd1, dd2, dd3⟩ := ck
                have gx4 : Gk (tbs T) Hx H4 := ((Gk.of_same sc gx.2).trans g3).trans g4
                refine ⟨ds ++ [dd], ((dqs.at gx4.tups).snoc dd1).at (tups_lst hD4), by rw [List.length_append, lds]; rfl, fun j q e hq he => ?_⟩
                by_cases c : j < ds.length
                · rw [List.getElem?_append_left c] at he
                  exact okd j q e hq he
                · have lj := (List.getElem?_eq_some_iff.mp he).1
                  rw [List.length_append, List.length_singleton] at lj
                  have ej : j = i := by omega
                  subst ej
                  rw [List.getElem?_append_right (by omega), lds, Nat.sub_self] at he
                  cases he
                  rw [hp] at hq
                  cases hq
                  exact ⟨dd2, dd3⟩
          · rintro σ Hx ⟨y5, y6, y7, pa, rfl, gx, hD, lp, no, ds, dqs, lds, okd⟩
            have gHx := g1.trans gx
            rw [lw, List.take_of_length_le (Nat.le_refl _)] at no
            rw [lw] at lds
            refine ⟨_, rfl, r, _, 0, .ref q0, rfl, rfl,   .inl (.inl (gx.tup hr1)), at_of (j := 0) rfl rfl, _, rfl, D, _, rfl, .inl ⟨.inl (.inl hD), fun t1 m1 => ?_⟩⟩
            have s1 := same_upd (o := .tup pa) m1
            refine ⟨sz (by show 3 ≤ 1000; decide), fun t2 m2 => ⟨sz (by show 2 ≤ 1000; decide), fun r6 n6 => ?_⟩⟩
            have s2 := same_upd (o := .tup [.str "one", .ref q0, .ref t1]) m2
            have s6 := same_upd (o := .tup [.str "cases", .ref t2]) n6
            have sA := s1.trans (s2.trans s6)
            have gA := gHx.trans (.of_same sA gHx.2)
            have hta := gA.1 _ _ htz (fun ps z => by cases z)
            have q0A := sA _ _ (gx.tup hw0)
            have nwA := (nw0.at gx.tups).at (.same sA)
            refine qc r6 _ _ gA (fun l => ?_) upd_same ⟨_, DqTs.tup (.cons (.text _) (.cons (dqt_ring ⟨_, q0A, nwA⟩) (.cons (DqTs.tup (dqs.at (.same sA)) ((s2.trans s6) _ _ upd_same)) .nil))) (s6 _ _ upd_same), wid_tup (by show 3 ≤ 50; decide) fun e he => ?_, case_each rg0 lds fun j p d hp hd => (okd j p d hp hd).2⟩
            · obtain ⟨p, hp, lp⟩ := lets_step rg0 l
              exact no p hp lp
            · simp only [List.mem_cons, List.not_mem_nil, or_false] at he
              rcases he with rfl | rfl | rfl
              · exact wid_text _
              · exact wid_ring (by omega)
              · refine wid_tup (by omega) fun e he => ?_
                obtain ⟨j, hj⟩ := List.mem_iff_getElem?.mp he
                have lj := (List.getElem?_eq_some_iff.mp hj).1
                obtain ⟨p, hp⟩ : ∃ p, r0[j]? = some p := ⟨_, List.getElem?_eq_getElem (by omega)⟩
                exact (okd j p e hp hj).1
theorem seek_all (T : Tx K mg) (B : Tb T base) : ∀ m : Nat, m ≤ 3 → FnOk P w K mg base CX0 (5 + m) T.f_seek_letting T.d_seek_letting ["names", "left", "more"] (spSeek T m)
  | 0, _ => seek_step T B (m := 0) (n := 4) (by decide) (by decide) (T.F_seek_letting.ok (k := 3) S_seek_letting (fun vs H Q E h => h.elim) (fun cdv A outer s H vs Q E hr h => h.elim))
  | m + 1, h => seek_step T B (m := m + 1) (n := 5 + m) h (by omega) (seek_all T B m (by omega))
def spSeekAll (T : Tx K mg) : Sp := fun vs H Q E => ∃ m, m ≤ 3 ∧ spSeek T m vs H Q E
theorem ok_seek (T : Tx K mg) (B : Tb T base) : FnOk P w K mg base CX0 8 T.f_seek_letting T.d_seek_letting ["names", "left", "more"] (spSeekAll T) := by
  refine ⟨fun vs H Q E ⟨m, hm, h⟩ => (seek_all (P := P) (w := w) T B m hm).len vs H Q E h, fun A outer s H args us vs Q E hr env bd rv ⟨m, hm, h⟩ => ?_⟩
  exact (seek_all T B m hm).run A outer s H args us vs Q E (hr.mono (by show 5 + m ≤ 8; omega)) env bd rv h
/-- sorted: the same pairs in another order -/
def unK : NestedKey → Str × Str
  | .tup [.text a, .text b] => (a, b)
  | _ => (Str.ofString "", Str.ofString "")
theorem un_say (p : Str × Str) : unK (sayK p) = p := rfl
theorem perm_says {ks : List NestedKey} {ps : List (Str × Str)} (h : ks.Perm (ps.map sayK)) : ∃ qs : List (Str × Str), ks = qs.map sayK ∧ qs.Perm ps := by
  have e : ∀ k ∈ ks, sayK (unK k) = k := fun k hk => by
    obtain ⟨p, _, rfl⟩ := List.mem_map.mp (h.mem_iff.mp hk)
    rfl
  refine ⟨ks.map unK, ?_, ?_⟩
  · rw [List.map_map]
    clear h
    induction ks with
    | nil => rfl
    | cons k ks ih =>
      rw [List.map_cons, ← ih fun k hk => e k (.tail _ hk)]
      show _ = sayK (unK k) :: _
      rw [e k (.head _)]
  · have := h.map unK
    rw [List.map_map, show unK ∘ sayK = id from funext un_say, List.map_id] at this
    exact this
theorem nk_zip {H : Hp} : ∀ {xs : List V} {ks : List NestedKey}, NkAll H xs ks → ∀ b ∈ xs.zip ks, Nk H b.1 b.2
  | _, _, .nil, b, hb => by cases hb
  | _, _, .cons a h, b, hb => by
    rcases List.mem_cons.mp hb with rfl | hb
    · exact a
    · exact nk_zip h b hb
theorem srt_says {H : Hp} {xs : List V} {ps : List (Str × Str)} (nk : NkAll H xs (ps.map sayK)) : ∃ qs : List (Str × Str), NkAll H ((srt xs (ps.map sayK)).map Prod.fst) (qs.map sayK) ∧ qs.Perm ps := by
  have pm : (srt xs (ps.map sayK)).Perm (xs.zip (ps.map sayK)) := List.mergeSort_perm _ _
  have n1 := nk_pairs (l := srt xs (ps.map sayK)) fun b hb => nk_zip nk b (pm.mem_iff.mp hb)
  have p2 := pm.map Prod.snd
  rw [List.map_snd_zip (Nat.le_of_eq nk.length.symm)] at p2
  obtain ⟨qs, e, pq⟩ := perm_says p2
  rw [e] at n1
  exact ⟨qs, n1, pq⟩
theorem srt_saysR {H : Hp} {xs : List V} {ps : List (Str × Str)} (nk : NkAll H xs (ps.map sayK)) (nd : ps.Nodup) : ∃ qs : List (Str × Str), NkAll H ((srt xs (ps.map sayK)).map Prod.fst) (qs.map sayK) ∧ qs.Perm ps ∧ Rs (qs.map sayK) := by
  have pm : (srt xs (ps.map sayK)).Perm (xs.zip (ps.map sayK)) := List.mergeSort_perm _ _
  have n1 := nk_pairs (l := srt xs (ps.map sayK)) fun b hb => nk_zip nk b (pm.mem_iff.mp hb)
  have p2 := pm.map Prod.snd
  rw [List.map_snd_zip (Nat.le_of_eq nk.length.symm)] at p2
  have pw := PySem.W.sort_pairwise (PySem.W.sortLe_total (listOrd itemOrd) false fun b : V × NestedKey => toks (id b.2)) (xs.zip (ps.map sayK))
  change List.Pairwise (fun a b => leF id a b = true) (srt xs (ps.map sayK)) at pw
  obtain ⟨qs, e, pq⟩ := perm_says p2
  have nd2 : ((srt xs (ps.map sayK)).map Prod.snd).Nodup := by
    rw [e]
    refine List.Pairwise.map (S := fun a b => a ≠ b) sayK (fun a b ne z => ne (sayK_inj z)) (pq.nodup_iff.mpr nd)
  have nl2 : (srt xs (ps.map sayK)).Pairwise fun a b => a.2 ≠ b.2 := List.pairwise_map.mp nd2
  have mem : ∀ b ∈ srt xs (ps.map sayK), ∃ p, b.2 = sayK p := fun b hb => by
    have : b.2 ∈ (srt xs (ps.map sayK)).map Prod.snd := List.mem_map.mpr ⟨b, hb, rfl⟩
    rw [e] at this
    obtain ⟨p, _, ep⟩ := List.mem_map.mp this
    exact ⟨p, ep.symm⟩
  refine ⟨qs, by rw [e] at n1; exact n1, pq, ?_⟩
  rw [← e]
  refine List.pairwise_map.mpr ((pw.and nl2).imp_of_mem fun {a b} ha hb h => ?_)
  obtain ⟨x, ex⟩ := mem a ha
  obtain ⟨y, ey⟩ := mem b hb
  have h1 : (!befK b.2 a.2) = true := h.1
  have h2 : a.2 ≠ b.2 := h.2
  show befK a.2 b.2 = true
  rw [ex, ey] at h1 h2 ⊢
  rw [bef_flip (fun z => h2 (by rw [z]))] at h1
  simpa using h1
/-- the error's own __init__ -/
def spInitM (C : Addr) : Sp := fun vs H Q _ => ∃ (a : Addr) (v : V), vs = [.ref a, v] ∧ H a = some (exo a C none) ∧ ∀ dx, H dx = none → dx ≠ a → Q .non (upd (upd H dx (exd dx [(("word" : Str), v)])) a (exo a C (some dx)))
theorem ok_initM (T : Tx K mg) : FnOk P w K mg base CX0 1 T.f_TooMany T.d_TooMany ["self", "word"] (spInitM T.C_TooMany) := by
  refine T.F_TooMany.ok S_TooMany (fun vs H Q E h => ?_) (fun cdv A outer s H vs Q E hr h => ?_)
  · obtain ⟨a, v, rfl, _⟩ := h
    rfl
  · obtain ⟨a, v, rfl, ha, q⟩ := h
    exact ⟨_, pss_one (ps_ost (pv 0) (pv 1)), _, rfl, _, rfl, a, T.C_TooMany, rfl, T.oex_TooMany, T.no_TooMany_word, .inl ⟨ha, fun dx n ne => q dx n ne⟩⟩
theorem exc_sameM {H : Hp} {a d : Addr} {x y z o : HO} (ha : H a = none) (hd : upd H a x d = none) (ne : d ≠ a) : Same H (upd (del (upd (upd (upd H a x) d y) a z) a) d o) := fun b u e => by
  have h1 : b ≠ a := ne_of_none e ha
  have h2 : b ≠ d := fun w => by rw [← w, upd_ne h1, e] at hd; cases hd
  rw [upd_ne h2, del_ne h1, upd_ne h1, upd_ne h2, upd_ne h1]
  exact e
def spLetGo (T : Tx K mg) : Sp := fun vs H Q E => ∃ (n s t : Addr) (ys : List V) (ps : List (Str × Str)) (zs : List Str), vs = [.ref n, .ref s] ∧ H n = some (.tup (zs.map V.str)) ∧ H s = some (.tup ys) ∧ NkAll H ys (ps.map sayK) ∧ ps.length ≤ 40 ∧ (∀ p ∈ ps, p.1 ≠ p.2) ∧ (∀ p ∈ ps, p.1 ∈ zs) ∧ (∃ us, H t = some (.lst us)) ∧ Tbs (tbs T) H ∧
  (∀ r g gs v H', Gk (tbs T) H H' → gs.length ≤ 3 → Acy (Out ps gs) → (∀ e, e < gs.length → ¬ Lets ps e) → (∀ p ∈ gs, p ∈ ps) → gs.Nodup → H' r = some (.tup [.ref g, v]) → WT H' g gs → (gs = [] ∧ v = .non ∨ gs ≠ [] ∧ CaseOk t H' v (gs.length - 1) ps) → Rs (gs.map sayK) → Q (.ref r) H') ∧
  (¬ Lets ps 3 → ∀ d H', Gk (tbs T) H H' → H' d = some (.xd [(("word" : Str), .str "gone")]) → E (.ref T.C_TooMany) (some d) H')
theorem ok_letgo (T : Tx K mg) (B : Tb T base) : FnOk P w K mg base (L2.CX P w) 9 T.f_let_go T.d_let_go ["names", "some"] (spLetGo T) := by
  have G_seek_letting : FnOk P w K mg base CX0 8 T.f_seek_letting T.d_seek_letting ["names", "left", "more"] (spSeekAll T) := ok_seek T B
  have G_TooMany : FnOk P w K mg base CX0 1 T.f_TooMany T.d_TooMany ["self", "word"] (spInitM T.C_TooMany) := ok_initM T
  refine T.F_let_go.okX S_let_go (fun vs H Q E h => ?_) (fun cdv A outer s H vs Q E hr h => ?_)
  · obtain ⟨n, s, t, ys, ps, zs, rfl, _⟩ := h
    rfl
  · obtain ⟨nA, s, t, ys, ps, zs, rfl, hN, hs, nk, l40, un, hz, ⟨tz, htz⟩, hB, qg, qe⟩ := h
    refine ⟨_, (pss_cons (ps_set (i := 2) S_let_go.nd rfl (.inl rfl) pe_non)
      (pss_cons (ps_for (passes_of rfl) rfl (pi_range1 (by rfl) T.m_range (pa_cons (pe_op op_add (pe_glob (v := .int 3) (by rfl) T.c_MOST_GONE ⟨_, rfl⟩) pe_int) pa_nil)) (pg_name (i := 3) S_let_go.nd rfl (.inl rfl))
      (pss_cons (ps_asg (pe_call G_seek_letting hr (by rfl) T.g_seek_letting T.F_seek_letting.kp T.b_seek_letting .nil pass0 (pa_cons (pv 0) (pa_cons (pv 1) (pa_cons (pv 3) pa_nil)))) (pg_tup rfl (pgs_cons (pg_name (i := 4) S_let_go.nd rfl (.inl rfl)) (pgs_cons (pg_name (i := 5) S_let_go.nd rfl (.inl rfl)) pgs_nil))))
      (pss_cons (ps_if (pt_cmpR op_eq (pv 4) pe_str (nomark _)) (pss_one (ps_ret (pe_tup (pa_cons (pe_callTy call_tuple_of (by rfl) T.m_tuple (by decide +kernel) (pa_cons (pe_callB (cr_sortTL (un64 hr)) (by rfl) T.m_sorted (by decide +kernel) (pa_cons (pv 5) pa_nil)) pa_nil)) (pa_cons (pv 2) pa_nil))))) pss_nil)
      (pss_one (ps_set (i := 2) S_let_go.nd rfl (.inl rfl) (pv 5))))))
      (pss_one (ps_raise rfl (takes_of rfl rfl rfl rfl) (pmk_oex T.oex_TooMany T.ic_TooMany T.ti_TooMany G_TooMany (hr.mono (by decide)) T.bi_TooMany .nil pass0 (by rfl) T.gC_TooMany (pa_cons pe_str pa_nil)))))), ?_⟩
    refine ⟨_, _, rfl, rfl, 4, rfl, by decide, by decide, ?_⟩
    refine for_range (lo := 0) (n := 4) (fun i σ Hx => ∃ (v : V) (y3 y4 y5 : Option V), σ = [some (.ref nA), some (.ref s), some v, y3, y4, y5] ∧ Gk (tbs T) H Hx ∧ (∀ e, e < i → ¬ Lets ps e) ∧ (i = 0 ∧ v = .non ∨ 0 < i ∧ CaseOk t Hx v (i - 1) ps)) ⟨_, _, _, _, rfl, .refl hB, (fun e h => by omega), .inl ⟨rfl, rfl⟩⟩ ?_ ?_
    · rintro i σ Hx hi ⟨v, y3, y4, y5, rfl, gx, no, ck⟩
      refine ⟨_, rfl, _, rfl, _, rfl, i, by omega, nA, s, t, 0 + (i : Int), ys, ps, zs, rfl, by omega, gx.tup hN, gx.tup hs, nk.at gx.tups, l40, un, hz, ⟨tz, gx.1 _ _ htz (fun ps z => by cases z)⟩, gx.2, fun r g gs H1 g1 lg ac sub nd hr1 hg => ?_, fun r u H1 g1 nl hr1 ck1 => ?_⟩
      · have gH := gx.trans g1
        have lgs : gs.length ≤ 40 := by
          have := nodup_len nd fun q hq => sub q hq
          omega
        obtain ⟨ws, hgw, nw⟩ := hg
        have lw := wt_len (q := g) nw
        refine ⟨r, _, rfl, .inl (.inl hr1), rfl, _, _, rfl, _, _, rfl, rfl, ?_⟩
        refine ⟨_, rfl, rfl, _, rfl, ite2 (fun _ => ?_) (fun z => absurd (decide_eq_true rfl) z)⟩
        refine ⟨_, rfl, g, ws, gs.map sayK, rfl, .inl (.inl hgw), nw, say_sbl (fun k hk => by obtain ⟨p, _, rfl⟩ := List.mem_map.mp hk; exact ⟨p, rfl⟩), by omega, fun L nL => ?_⟩
        have s1 := same_upd (o := .lst ((srt ws (gs.map sayK)).map Prod.fst)) nL
        refine ⟨L, _, rfl, .inl ⟨.inl (.inl upd_same), fun t nt => ?_⟩⟩
        have s2 := same_upd (o := .tup ((srt ws (gs.map sayK)).map Prod.fst)) nt
        refine ⟨_, rfl, sz (by show 2 ≤ 1000; decide), fun r2 n2 => ?_⟩
        have s3 := same_upd (o := .tup [.ref t, v]) n2
        obtain ⟨qs, nq, pq, rsq⟩ := srt_saysR nw nd
        have lq := pq.length_eq
        have l3 : gs.length ≤ i := by omega
        have eqo : ∀ p, p ∈ Out ps qs ↔ p ∈ Out ps gs := fun p => by rw [mem_out, mem_out, pq.mem_iff]
        refine qg r2 t qs v _ (gH.trans (.of_same (s1.trans (s2.trans s3)) gH.2)) (by omega) (ac.sub fun p hp => (eqo p).mp hp) (fun e he => ?_) (fun p hp => sub p (pq.mem_iff.mp hp)) (pq.nodup_iff.mpr nd) upd_same ⟨_, s3 _ _ upd_same, nq.at (.same (s1.trans (s2.trans s3)))⟩ ?_ ?_
        · exact no e (by omega)
        · have li : qs.length = i := by
            have : ¬ gs.length < i := fun z => no _ z ⟨gs, Nat.le_refl _, ac⟩
            omega
          rcases ck with ⟨i0, ev⟩ | ⟨i0, ck⟩
          · exact .inl ⟨List.length_eq_zero_iff.mp (by omega), ev⟩
          · refine .inr ⟨fun z => by rw [z] at li; have h0 : 0 = i := li; omega, ?_⟩
            rw [li]
            exact ck.at (g1.tups.trans (.same (s1.trans (s2.trans s3))))
        · exact rsq
      · refine ⟨r, _, rfl, .inl (.inl hr1), rfl, _, _, rfl, _, _, rfl, rfl, ?_⟩
        refine ⟨_, rfl, rfl, _, rfl, ite2 (fun z => absurd z (by decide +kernel)) (fun _ => ?_)⟩
        refine ⟨_, rfl, u, _, _, _, rfl, gx.trans g1, (fun e he => ?_), .inr ⟨Nat.succ_pos _, ck1⟩⟩
        rcases Nat.lt_succ_iff_lt_or_eq.mp he with h | rfl
        · exact no e h
        · exact nl
    · rintro σ Hx ⟨v, y3, y4, y5, rfl, gx, no, _⟩
      refine ⟨by show 1 ≤ 1000; decide, fun c nc => ⟨c, _, rfl, upd_same, fun dx nd ne => ⟨rfl, dx, [(("word" : Str), .str "gone")], upd_same, ?_, ?_, ?_⟩⟩⟩
      · rw [upd_ne ne]; exact upd_same
      · rw [upd_ne ne] at nd; exact nd
      · exact qe (no 3 (by decide)) dx _ (gx.trans (.of_same (exc_sameM nc nd ne) gx.2)) upd_same
end
end L45

set_option Elab.async false
set_option linter.all false
set_option maxRecDepth 100000
set_option maxHeartbeats 2000000
namespace L45
open PySem PySem.Spec PyProof.Rows L2 LT
open My hiding Tbs Gk Tk
section
variable {P : Program} {w : World} {K : PySem.W.Frag} {mg : Str → Option Value} {base : Heap}
theorem cut_from {xs : List V} {j : Nat} (h : j ≤ xs.length) : cutV xs (some (j : Int)) none = xs.drop j := by
  unfold cutV
  rw [HT.sIx_none, HT.sIx_nat, Nat.min_eq_left h]
  exact List.take_of_length_le (by rw [List.length_drop]; exact Nat.le_refl _)
theorem nk_drop2 {H : Hp} : ∀ {xs : List V} {ks : List NestedKey}, NkAll H xs ks → ∀ i : Nat, NkAll H (xs.drop i) (ks.drop i)
  | _, _, h, 0 => h
  | _, _, .nil, _ + 1 => .nil
  | _, _, .cons _ h, i + 1 => nk_drop2 h i
/-- t[b:], whichever object it is -/
theorem sl_from {H : Hp} {a : Addr} {xs : List V} {b : Nat} {Q : VK} (h : Rd H a (.tup xs)) (lb : b ≤ xs.length) (q : ∀ u H', Same H H' → Rd H' u (.tup (xs.drop b)) → Q (.ref u) H') : rSlA K (.ref a) (some (b : Int)) none H Q := by
  refine ⟨a, xs, rfl, .inl h, fun e => ?_, fun _ p np => ?_⟩
  · have e1 := e.1
    rw [HT.sIx_nat] at e1
    have b0 : b = 0 ∨ xs.length = 0 := by omega
    have ed : xs.drop b = xs := by
      rcases b0 with z | z
      · rw [z, List.drop_zero]
      · rw [List.length_eq_zero_iff.mp z, List.drop_nil]
    have := q a H (fun _ _ e => e)
    rw [ed] at this
    exact this h
  · rw [cut_from lb]
    exact q p _ (same_upd np) (.inl upd_same)
/-- a row, as a key -/
def rowK (wp : List (Str × Str)) : NestedKey := .tup (wp.map sayK)
/-- those behind the first place of p -/
def aft : List (Str × Str) → Str × Str → List (Str × Str)
  | [], _ => []
  | q :: l, p => if q = p then l else aft l p
def nextP (ps wp : List (Str × Str)) : List (Str × Str) := match wp.getLast? with
  | none => ps
  | some p => aft ps p
def longP (ps wp : List (Str × Str)) : List (List (Str × Str)) := (nextP ps wp).map fun p => wp ++ [p]
/-- all rows of so many, rising -/
def rowsP (ps : List (Str × Str)) : Nat → List (List (Str × Str))
  | 0 => [[]]
  | m + 1 => (rowsP ps m).flatMap (longP ps)
theorem aft_drop {p : Str × Str} : ∀ {ps : List (Str × Str)} {j : Nat}, (ps.map sayK)[j]? = some (sayK p) → (∀ m : Nat, m < j → (ps.map sayK)[m]? ≠ some (sayK p)) → aft ps p = ps.drop (j + 1)
  | [], j, h, _ => by cases j <;> cases h
  | q :: l, 0, h, _ => by
    have e : q = p := sayK_inj (Option.some.inj h)
    rw [aft, if_pos e]
    rfl
  | q :: l, j + 1, h, k => by
    have ne : q ≠ p := fun e => k 0 (by omega) (by rw [e]; rfl)
    rw [aft, if_neg ne]
    exact aft_drop h fun m hm => k (m + 1) (by omega)
theorem aft_mem {r p : Str × Str} : ∀ {ps : List (Str × Str)}, ps.Nodup → List.Sublist [r, p] ps → p ∈ aft ps r
  | [], _, h => by cases h
  | q :: l, nd, h => by
    obtain ⟨n1, n2⟩ := List.nodup_cons.mp nd
    cases h with
    | cons _ h =>
      have hr : r ∈ l := h.subset (.head _)
      rw [aft, if_neg fun e : q = r => n1 (by rw [e]; exact hr)]
      exact aft_mem n2 h
    | cons_cons _ h =>
      rw [aft, if_pos rfl]
      exact h.subset (.head _)
theorem rows_mem {ps : List (Str × Str)} (nd : ps.Nodup) : ∀ (m : Nat) (wp : List (Str × Str)), wp.Sublist ps → wp.length = m → wp ∈ rowsP ps m
  | 0, wp, _, l => by
    rw [List.length_eq_zero_iff.mp l]
    exact .head _
  | m + 1, wp, h, l => by
    have ne : wp ≠ [] := fun z => by rw [z] at l; cases l
    have e : wp.dropLast ++ [wp.getLast ne] = wp := List.dropLast_concat_getLast ne
    generalize wp.dropLast = u at e
    generalize wp.getLast ne = p at e
    subst e
    have lu : u.length = m := by rw [List.length_append] at l; exact Nat.succ.inj l
    refine List.mem_flatMap.mpr ⟨u, rows_mem nd m u ((List.sublist_append_left _ _).trans h) lu, List.mem_map.mpr ⟨p, ?_, rfl⟩⟩
    unfold nextP
    cases hl : u.getLast? with
    | none => exact h.subset (List.mem_append_right _ (.head _))
    | some r =>
      refine aft_mem nd (List.Sublist.trans ?_ h)
      have nu : u ≠ [] := fun z => by rw [z] at hl; cases hl
      have er : u.getLast nu = r := by rw [List.getLast?_eq_some_getLast nu] at hl; exact Option.some.inj hl
      have e2 := List.dropLast_concat_getLast nu
      rw [er] at e2
      rw [← e2, List.append_assoc]
      exact List.sublist_append_right _ _
theorem rows_sub {ps : List (Str × Str)} : ∀ (m : Nat) (wp : List (Str × Str)), wp ∈ rowsP ps m → (∀ p ∈ wp, p ∈ ps) ∧ wp.length = m
  | 0, wp, h => by
    rw [List.mem_singleton.mp h]
    exact ⟨fun p hp => by (cases hp), rfl⟩
  | m + 1, wp, h => by
    obtain ⟨u, hu, hw⟩ := List.mem_flatMap.mp h
    obtain ⟨p, hp, rfl⟩ := List.mem_map.mp hw
    obtain ⟨h1, h2⟩ := rows_sub m u hu
    refine ⟨fun x hx => (List.mem_append.mp hx).elim (h1 x) fun h => ?_, by rw [List.length_append, h2]; rfl⟩
    rw [List.mem_singleton.mp h]
    unfold nextP at hp
    cases hl : u.getLast? with
    | none => rw [hl] at hp; exact hp
    | some r =>
      rw [hl] at hp
      have : ∀ (l : List (Str × Str)), p ∈ aft l r → p ∈ l := fun l => by
        induction l with
        | nil => exact fun h => h
        | cons a l ih =>
          intro h
          rw [aft] at h
          split at h
          · exact .tail _ h
          · exact .tail _ (ih h)
      exact this _ hp
theorem first_ix {α : Type} {x : α} : ∀ {l : List α}, x ∈ l → ∃ j : Nat, l[j]? = some x ∧ ∀ m : Nat, m < j → l[m]? ≠ some x
  | y :: l, h => by
    by_cases e : y = x
    · subst e
      exact ⟨0, rfl, fun m hm => by omega⟩
    · obtain ⟨j, a, b⟩ := first_ix ((List.mem_cons.mp h).resolve_left fun z => e z.symm)
      refine ⟨j + 1, a, fun m hm => ?_⟩
      cases m with
      | zero => exact fun z => e (Option.some.inj z)
      | succ m => exact b m (by omega)
theorem row_at {H : Hp} {wps : List (List (Str × Str))} {us : List V} {j : Nat} {x : V} (h : NkAll H us (wps.map rowK)) (hx : us[j]? = some x) : ∃ (wp : List (Str × Str)) (q : Addr) (xs : List V), wps[j]? = some wp ∧ x = .ref q ∧ H q = some (.tup xs) ∧ NkAll H xs (wp.map sayK) := by
  obtain ⟨key, hkey, nkv⟩ := h.get hx
  obtain ⟨wp, hwp, rfl⟩ : ∃ wp, wps[j]? = some wp ∧ key = rowK wp := by
    rw [List.getElem?_map] at hkey
    cases e : wps[j]? with
    | none => rw [e] at hkey; cases hkey
    | some y => rw [e] at hkey; exact ⟨y, rfl, (Option.some.inj hkey).symm⟩
  unfold rowK at nkv
  cases nkv with
  | tup hq nq => exact ⟨wp, _, _, hwp, rfl, hq, nq⟩
def spSets : Sp := fun vs H Q _ => ∃ (s : Addr) (so : Obj) (ys : List V) (ps : List (Str × Str)) (m : Nat), vs = [.ref s, .int (m : Int)] ∧ H s = some (.frz so (.tup ys)) ∧ TD so ∧ NkAll H ys (ps.map sayK) ∧ ps.length ≤ 12 ∧ m ≤ 3 ∧
  ∀ (D : Addr) (us : List V) (H' : Hp), Same H H' → H' D = some (.lst us) → NkAll H' us ((rowsP ps m).map rowK) → Q (.ref D) H'
theorem ok_sets (T : Tx K mg) : FnOk P w K mg base CX0 1 T.f_w_sets T.d_w_sets ["_law_some", "_law_many"] (spSets) := by
  refine T.F_w_sets.ok S_w_sets (fun vs H Q E h => ?_) (fun cdv A outer s0 H vs Q E hr h => ?_)
  · obtain ⟨s, so, ys, ps, m, rfl, _⟩ := h
    rfl
  · obtain ⟨s, so, ys, ps, m, rfl, hs, tds, nk, l12, m3, q⟩ := h
    refine ⟨_, (pss_cons (ps_set (i := 2) S_w_sets.nd rfl (.inl rfl) (pe_lst (pa_cons (pe_tup pa_nil) pa_nil)))
      (pss_cons (ps_for PassesOwn.never rfl (pi_range1 (by rfl) T.m_range (pa_cons (pv 1) pa_nil)) (pg_name (i := 3) S_w_sets.nd rfl (.inl rfl))
      (pss_cons (ps_set (i := 4) S_w_sets.nd rfl (.inl rfl) (pe_lst pa_nil))
      (pss_cons (ps_for PassesOwn.never rfl (pi_list (pv 2)) (pg_name (i := 5) S_w_sets.nd rfl (.inr rfl))
      (pss_cons (ps_set (i := 6) S_w_sets.nd rfl (.inl rfl) (pe_ifExp (pt_cmpR (op_neTE (hu_of hr)) (pv 5) (pe_tup pa_nil) (nomark _)) (pe_op op_add (pe_bmD PySem.F.plainAttrs_tuple PySem.F.slot_tuple_index PySem.F.type_tuple_index (mt_tup_indexN (K1 := K) rfl hr.units) (pv 0) (pa_cons (pe_ix ix_tup (pv 5) (pe_un un_neg pe_int) (fun _ _ => rfl)) pa_nil)) pe_int) pe_int))
      (pss_one (ps_expr (pe_bm PySem.F.plainAttrs_list PySem.F.slot_list_extend PySem.F.type_list_extend mt_extend (pv 4) (pa_cons (pe_lc (own := [("_law_pair", 7)]) (g := gName 7) (tt := tYes) (by rfl) S_w_sets.nd (pi_tup (pe_slice sl_tupA (pv 0) (po_some (pv 6)) po_none)) (blkOk_by (own := [("_law_pair", 7)]) (N := N_w_sets) (sc := defScope s_w_sets) (by decide +kernel)) (fun _ _ _ _ _ => (pg_name (i := 7) S_w_sets.nd rfl (.inl rfl))) (fun _ _ _ _ _ => pts_nil) (fun _ _ _ _ _ => (pe_op (r := rCatA K) op_catA (pv 5) (pe_tup (pa_cons (pv 7) pa_nil))))) pa_nil))))))
      (pss_one (ps_set (i := 2) S_w_sets.nd rfl (.inl rfl) (pv 4))))))
      (pss_one (ps_ret (pv 2))))), ?_⟩
    have lys : ys.length = ps.length := by have := nk.length; rw [List.length_map] at this; exact this
    refine ⟨sz (by show 0 ≤ 1000; decide), fun c0 n0 => ?_⟩
    refine fresh_fin (.tup []) n0 fun H1 s1 h1 => ?_
    refine ⟨sz (by show 1 ≤ 1000; decide), fun F nF => ?_⟩
    refine fresh_fin (.lst [V.ref c0]) nF fun H2 s2 h2 => ?_
    have s12 := s1.trans s2
    refine ⟨_, rfl, (m : Int), rfl, by omega, by omega, ?_⟩
    rw [show ((m : Int)).toNat = m by omega]
    refine for_range (lo := 0) (n := m) (fun i σ Hx => ∃ (F : Addr) (us : List V) (y3 y4 y5 y6 y7 : Option V), σ = [some (.ref s), some (.int (m : Int)), some (.ref F), y3, y4, y5, y6, y7] ∧ Same H Hx ∧ Hx F = some (.lst us) ∧ us.length ≤ 12 ^ i ∧ NkAll Hx us ((rowsP ps i).map rowK))
      ⟨F, [.ref c0], _, _, _, _, _, rfl, s12, h2, Nat.le_refl _, .cons (.tup (s2 _ _ h1) .nil) .nil⟩ ?_ ?_
    · rintro i σ Hx hi ⟨F, us, y3, y4, y5, y6, y7, rfl, sx, hF, lu, rows⟩
      refine ⟨sz (by show 0 ≤ 1000; decide), fun L nL => ?_⟩
      refine fresh_fin (.lst []) nL fun H3 s3 h3 => ?_
      have LF : L ≠ F := fun z => by rw [z, hF] at nL; cases nL
      have p12 : 12 ^ i ≤ 144 := by
        have : i = 0 ∨ i = 1 ∨ i = 2 := by omega
        rcases this with rfl | rfl | rfl <;> decide
      have hF3 := s3 _ _ hF
      refine ⟨_, rfl, F, rfl, ⟨_, .inl (.inl hF3)⟩, ?_⟩
      refine for_list (xs := us) (fun j σ Hy => ∃ (ls : List V) (y5 y6 y7 : Option V), σ = [some (.ref s), some (.int (m : Int)), some (.ref F), some (.int (0 + (i : Int))), some (.ref L), y5, y6, y7] ∧ Same Hx Hy ∧ Tups H3 Hy ∧ Hy F = some (.lst us) ∧ Hy L = some (.lst ls) ∧ ls.length ≤ 12 * j ∧ NkAll Hy ls ((((rowsP ps i).take j).flatMap (longP ps)).map rowK)) ⟨[], _, _, _, rfl, s3, .refl _, hF3, h3, Nat.le_refl _, .nil⟩ (fun j σ Hy hj ⟨ls, y5, y6, y7, _, _, _, hFy, _⟩ => .inl (.inl hFy)) ?_ ?_
      · rintro j x σ Hy hx ⟨ls, y5, y6, y7, rfl, sxy, t3, hFy, hLy, ll, rws⟩
        have lj := (List.getElem?_eq_some_iff.mp hx).1
        obtain ⟨wp, q0, xs, hwp, rfl, hq, nkw⟩ := row_at (rows.at (.same sxy)) hx
        have subw := (rows_sub i wp (List.mem_of_getElem? hwp)).1
        have lw := (rows_sub i wp (List.mem_of_getElem? hwp)).2
        have hsy := sxy _ _ (sx _ _ hs)
        have nky := nk.at ((Tups.same sx).trans (.same sxy))
        have lxs : xs.length = wp.length := by have := nkw.length; rw [List.length_map] at this; exact this
        apply mrg2 (C := fun Hz (b : Nat) => Same Hy Hz ∧ b ≤ ys.length ∧ ps.drop b = nextP ps wp)
        · intro tail
          refine ⟨_, rfl, sz (by show 0 ≤ 1000; decide), fun c1 n1 => ?_⟩
          refine fresh_fin (.tup []) n1 fun H4 s4 h4 => ?_
          refine ⟨q0, c1, xs, rfl, rfl, .inl (.inl (s4 _ _ hq)), .inl (.inl h4), _, rfl, ite2 (fun e => ?_) (fun e => ?_)⟩
          · have wne : wp ≠ [] := fun z => by
              rw [z] at lxs
              rw [List.length_eq_zero_iff.mp lxs] at e
              cases e
            have l0 := List.length_pos_iff.mpr wne
            obtain ⟨p, hp⟩ : ∃ p, wp[wp.length - 1]? = some p := ⟨_, List.getElem?_eq_getElem (by omega)⟩
            obtain ⟨y, hy, hyy⟩ := say_at (nkw.at (.same s4)) hp
            obtain ⟨jx, j1, j2⟩ := first_ix (List.mem_map_of_mem (f := sayK) (subw p (List.mem_of_getElem? hp)))
            have jl : jx < ps.length := by have := (List.getElem?_eq_some_iff.mp j1).1; rw [List.length_map] at this; exact this
            refine ⟨_, rfl, ⟨s, so, _, rfl, s4 _ _ hsy, tds⟩, _, rfl, 1, rfl, q0, _, -1, .ref y, rfl, rfl, .inl (.inl (s4 _ _ hq)), at_last hy (by omega), s, ys, _, .ref y, sayK p, jx, rfl, rfl, .inl (.inr ⟨_, s4 _ _ hsy⟩), nky.at (.same s4), nk_say hyy, Nat.le_trans (say_depth p) (by decide), j1, j2, ?_⟩
            obtain ⟨b, hb, lb⟩ : ∃ b : Nat, (b : Int) = (jx : Int) + 1 ∧ b ≤ ys.length := ⟨jx + 1, by omega, by omega⟩
            refine ⟨_, _, rfl, rfl, ?_⟩
            show gName 6 (V.int ((jx : Int) + 1)) _ _ _
            rw [← hb]
            refine tail H4 b ⟨s4, lb, ?_⟩
            rw [show b = jx + 1 by omega, ← aft_drop j1 j2]
            unfold nextP
            rw [List.getLast?_eq_getElem?, hp]
          · have ew : wp = [] := by
              cases xs with
              | nil => exact List.length_eq_zero_iff.mp lxs.symm
              | cons a l => exact absurd rfl e
            refine tail H4 0 ⟨s4, Nat.zero_le _, ?_⟩
            rw [ew, List.drop_zero]
            rfl
        · rintro H4 b ⟨s4, lb, eb⟩
          have hs4 := s4 _ _ hsy
          have hL4 := s4 _ _ hLy
          have hF4 := s4 _ _ hFy
          have hq4 := s4 _ _ hq
          refine ⟨_, rfl, .inl ⟨rfl, _, .inl (.inl hL4)⟩, _, rfl, _, rfl, (b : Int), rfl, np_in ?_⟩
          refine sl_from (.inr ⟨_, hs4⟩) lb fun u H5 s5 hu => ?_
          have nkd := nk_drop2 ((nky.at (.same (s4.trans s5)))) b
          rw [← List.map_drop] at nkd
          have ldr : (ys.drop b).length = (ps.drop b).length := by rw [List.length_drop, List.length_drop, lys]
          refine ⟨u, rfl, ⟨_, .inl hu⟩, fun D nD => ?_⟩
          refine lc_tup (xs := ys.drop b) (fun k Hz => ∃ acc, Same H5 Hz ∧ Hz D = some (.lst acc) ∧ acc.length = k ∧ NkAll Hz acc ((((ps.drop b).take k).map fun p => wp ++ [p]).map rowK)) ⟨[], same_upd nD, upd_same, rfl, .nil⟩ (fun k Hz hk ⟨acc, sz', _⟩ => .inl (rd_same (fz := true) (hu.elim .inl fun ⟨ob, e⟩ => .inr ⟨rfl, ob, e⟩) sz').rd) ?_ ?_
          · rintro k v Hz hv ⟨acc, sz', hD, la, ra⟩
            have hk := (List.getElem?_eq_some_iff.mp hv).1
            obtain ⟨p, hp⟩ : ∃ p, (ps.drop b)[k]? = some p := ⟨_, List.getElem?_eq_getElem (by omega)⟩
            obtain ⟨y, hy, hyy⟩ := say_at (nkd.at (.same sz')) hp
            rw [hv] at hy
            cases hy
            have hqz := sz' _ _ (s5 _ _ hq4)
            refine ⟨rfl, tYesT ⟨_, rfl, _, rfl, sz (by show 1 ≤ 1000; decide), fun c2 n2 => ?_⟩⟩
            refine fresh_fin (.tup [V.ref y]) n2 fun H6 s6 h6 => ?_
            have nkx := (nkw.at (.same ((s4.trans s5).trans sz'))).at (.same s6)
            have lk : k ≤ 12 := by rw [List.length_drop] at hk; omega
            have mp : p ∈ ps := List.mem_of_mem_drop (List.mem_of_getElem? hp)
            have push : ∀ (r : Addr) (rs : List V) (H7 : Hp), Same H6 H7 → H7 r = some (.tup rs) → NkAll H7 rs ((wp ++ [p]).map sayK) → ∃ acc, H7 D = some (.lst acc) ∧ acc.length < sizeLine ∧ ∃ acc', Same H5 (upd H7 D (.lst (acc ++ [.ref r]))) ∧ upd H7 D (.lst (acc ++ [.ref r])) D = some (.lst acc') ∧ acc'.length = k + 1 ∧ NkAll (upd H7 D (.lst (acc ++ [.ref r]))) acc' ((((ps.drop b).take (k + 1)).map fun p => wp ++ [p]).map rowK) := fun r rs H7 s7 hr nkr => by
              have s67 := s6.trans s7
              have hD7 := s67 _ _ hD
              refine ⟨acc, hD7, small1000 (by omega), acc ++ [.ref r], same_fresh nD (sz'.trans s67), upd_same, by rw [List.length_append, la]; rfl, ?_⟩
              rw [List.take_add_one, hp, List.map_append, List.map_append]
              exact (ra.at ((Tups.same s67).trans (tups_lst hD7))).app (.cons (.tup (tups_lst hD7 _ _ hr) (nkr.at (tups_lst hD7))) .nil)
            refine ⟨q0, c2, xs, _, rfl, rfl, .inl (.inl (s6 _ _ hqz)), .inl (.inl h6), Nat.le_trans (show xs.length + 1 ≤ 100 by omega) (by decide), fun e => ?_, (fun _ e => by cases e), fun _ _ r nr => ?_⟩
            · have ew : wp = [] := List.length_eq_zero_iff.mp (by rw [← lxs, e]; rfl)
              exact push c2 _ H6 (fun _ _ e => e) h6 (by rw [ew]; exact .cons (nk_say (s6 _ _ hyy)) .nil)
            · have s7 := same_upd (o := .tup (xs ++ [V.ref y])) nr
              refine push r _ _ s7 upd_same ?_
              rw [List.map_append]
              exact (nkx.at (.same s7)).app (.cons (nk_say (s7 _ _ (s6 _ _ hyy))) .nil)
          · rintro Hz ⟨acc, sz', hD, la, ra⟩
            have s45 := s4.trans (s5.trans sz')
            have hLz := s45 _ _ hLy
            have lac : acc.length ≤ 12 := by rw [la, List.length_drop]; omega
            refine ⟨L, D, ls, acc, rfl, rfl, hLz, hD, Nat.le_trans (show ls.length + acc.length ≤ 4000 by omega) (by decide), ?_⟩
            have tL := tups_lst (o := .lst (ls ++ acc)) hLz
            refine ⟨ls ++ acc, _, _, _, rfl, same_fresh nL (sxy.trans s45), (t3.trans (.same s45)).trans tL, by rw [upd_ne LF.symm]; exact s45 _ _ hFy, upd_same, by rw [List.length_append]; omega, ?_⟩
            rw [List.length_drop, lys, ← List.length_drop, List.take_of_length_le (Nat.le_refl _), eb] at ra
            rw [List.take_add_one, hwp, List.flatMap_append, List.map_append]
            refine (rws.at ((Tups.same s45).trans tL)).app ?_
            rw [show ((some wp).toList.flatMap (longP ps)) = longP ps wp by simp]
            exact ra.at tL
      · rintro σ Hy ⟨ls, y5, y6, y7, rfl, sxy, t3, hFy, hLy, ll, rws⟩
        refine ⟨_, rfl, L, ls, _, _, _, _, _, rfl, sx.trans sxy, hLy, ?_, ?_⟩
        · rw [Nat.pow_succ]
          omega
        · have lr := rows.length
          rw [List.length_map] at lr
          rw [lr, List.take_of_length_le (Nat.le_refl _)] at rws
          exact rws
    · rintro σ Hx ⟨F, us, y3, y4, y5, y6, y7, rfl, sx, hF, lu, rows⟩
      exact ⟨_, rfl, q F us Hx sx hF rows⟩
end
end L45

set_option Elab.async false
set_option linter.all false
set_option maxRecDepth 100000
set_option maxHeartbeats 2000000
namespace L45
open PySem PySem.Spec PyProof.Rows L2 LT
open My hiding Tbs Gk Tk
section
variable {P : Program} {w : World} {K : PySem.W.Frag} {mg : Str → Option Value} {base : Heap}
theorem path_last {qs : List (Str × Str)} {a c : Str} (p : Path qs a c) : ∃ b, (b, c) ∈ qs ∧ (b = a ∨ Path qs a b) := by
  cases p with
  | one h => exact ⟨a, h, .inl rfl⟩
  | more p h => exact ⟨_, h, .inr p⟩
/-- where nothing that goes round is left, there is no way round -/
theorem acy_core {qs : List (Str × Str)} (h : ∀ S : List (Str × Str), (∀ p ∈ S, p ∈ qs) → (∀ p ∈ S, p.1 ∈ S.map (·.2)) → ∀ p ∈ S, p ∈ ([] : List (Str × Str))) : Acy qs := fun x px => by
  classical
  have inS : ∀ p, p ∈ qs.filter (fun p => decide ((p.1 = x ∨ Path qs x p.1) ∧ (p.2 = x ∨ Path qs p.2 x))) ↔ p ∈ qs ∧ (p.1 = x ∨ Path qs x p.1) ∧ (p.2 = x ∨ Path qs p.2 x) := fun p => by rw [List.mem_filter, decide_eq_true_iff]
  obtain ⟨b, hb, hbx⟩ := path_last px
  have := h (qs.filter (fun p => decide ((p.1 = x ∨ Path qs x p.1) ∧ (p.2 = x ∨ Path qs p.2 x)))) (fun p hp => ((inS p).mp hp).1) (fun p hp => ?_) (b, x) ((inS _).mpr ⟨hb, hbx, .inl rfl⟩)
  · cases this
  · obtain ⟨mp, ha, hc⟩ := (inS p).mp hp
    rcases ha with e | pa
    · exact List.mem_map.mpr ⟨(b, x), (inS _).mpr ⟨hb, hbx, .inl rfl⟩, e.symm⟩
    · obtain ⟨d, hd, hdx⟩ := path_last pa
      refine List.mem_map.mpr ⟨(d, p.1), (inS _).mpr ⟨hd, hdx, .inr ?_⟩, rfl⟩
      have pe : Path qs p.1 p.2 := .one mp
      rcases hc with e | pc
      · rw [e] at pe
        exact pe
      · exact pe.trans pc
/-- where each has one that leads into it, there is a way round -/
theorem ring_of {cs : List (Str × Str)} (ne : cs ≠ []) (h : ∀ p ∈ cs, p.1 ∈ cs.map (·.2)) : ¬ Acy cs := fun ac => by
  have st : ∀ n : Nat, ∃ (x : Str) (l : List Str), l.length = n ∧ (∀ y ∈ x :: l, y ∈ cs.map (·.1)) ∧ (x :: l).Pairwise fun a b => Path cs a b := fun n => by
    induction n with
    | zero =>
      cases cs with
      | nil => exact absurd rfl ne
      | cons p l => exact ⟨p.1, [], rfl, fun y hy => by rw [List.mem_singleton.mp hy]; exact .head _, .cons (fun y hy => by cases hy) .nil⟩
    | succ n ih =>
      obtain ⟨x, l, e, m, pw⟩ := ih
      obtain ⟨p, hp, ep⟩ := List.mem_map.mp (m x (.head _))
      obtain ⟨q, hq, eq⟩ := List.mem_map.mp (h p hp)
      have px : Path cs q.1 x := .one (by rw [← ep, ← eq]; exact hq)
      refine ⟨q.1, x :: l, by rw [List.length_cons, e], fun y hy => (List.mem_cons.mp hy).elim (fun e => by rw [e]; exact List.mem_map_of_mem hq) (m y), .cons (fun y hy => ?_) pw⟩
      rcases List.mem_cons.mp hy with rfl | hy
      · exact px
      · exact px.trans ((List.pairwise_cons.mp pw).1 y hy)
  obtain ⟨x, l, e, m, pw⟩ := st cs.length
  have nd : (x :: l).Nodup := pw.imp fun {a b} p (z : a = b) => ac a (by rw [← z] at p; exact p)
  have := nodup_len nd m
  rw [List.length_cons, List.length_map, e] at this
  omega
/-- enough by some of its own -/
theorem lets_row {ps : List (Str × Str)} (nd : ps.Nodup) {e : Nat} (h : Lets ps e) : ∃ wp : List (Str × Str), wp.Sublist ps ∧ wp.length ≤ e ∧ Acy (Out ps wp) := by
  obtain ⟨G, lG, a⟩ := h
  refine ⟨ps.filter fun p => decide (p ∈ G), List.filter_sublist, Nat.le_trans (nodup_len (nd.filter _) fun p hp => of_decide_eq_true (List.mem_filter.mp hp).2) lG, a.sub fun p hp => ?_⟩
  obtain ⟨h1, h2⟩ := mem_out.mp hp
  exact mem_out.mpr ⟨h1, fun z => h2 (List.mem_filter.mpr ⟨h1, decide_eq_true z⟩)⟩
def spFew : Sp := fun vs H Q _ => ∃ (s : Addr) (so : Obj) (ys : List V) (ps : List (Str × Str)), vs = [.ref s] ∧ H s = some (.frz so (.tup ys)) ∧ TD so ∧ NkAll H ys (ps.map sayK) ∧ ps.length ≤ 12 ∧ ps.Nodup ∧ (∀ p ∈ ps, Plain p.1 ∧ Plain p.2) ∧
  ∀ (m : Nat) (H' : Hp), Same H H' → m ≤ 4 → (m < 4 → Lets ps m) → (∀ e, e < m → ¬ Lets ps e) → Q (.int (m : Int)) H'
theorem ok_few (T : Tx K mg) : FnOk P w K mg base CX0 2 T.f_w_fewest T.d_w_fewest ["_law_some"] (spFew) := by
  have G_w_sets : FnOk P w K mg base CX0 1 T.f_w_sets T.d_w_sets ["_law_some", "_law_many"] (spSets) := ok_sets T
  have G_w_core : FnOk P w K mg base CX0 1 T.f_w_core T.d_w_core ["_law_some"] (spCore) := ok_core T
  refine T.F_w_fewest.ok S_w_fewest (fun vs H Q E h => ?_) (fun cdv A outer s0 H vs Q E hr h => ?_)
  · obtain ⟨s, so, ys, ps, rfl, _⟩ := h
    rfl
  · obtain ⟨s, so, ys, ps, rfl, hs, tds, nk, l12, nd, pl, q⟩ := h
    refine ⟨_, (pss_cons (ps_for PassesOwn.never rfl (pi_range1 (by rfl) T.m_range (pa_cons pe_int pa_nil)) (pg_name (i := 1) S_w_fewest.nd rfl (.inl rfl))
      (pss_one (ps_for PassesOwn.never rfl (pi_list (pe_call G_w_sets hr (by rfl) T.g_w_sets T.F_w_sets.kp T.b_w_sets .nil pass0 (pa_cons (pv 0) (pa_cons (pv 1) pa_nil)))) (pg_name (i := 2) S_w_fewest.nd rfl (.inr rfl))
      (pss_one (ps_if (pt_cmpR (op_eqE (hu_of hr)) (pe_call G_w_core hr (by rfl) T.g_w_core T.F_w_core.kp T.b_w_core .nil pass0 (pa_cons (pe_lc (own := [("_law_pair", 3)]) (g := gName 3) (by rfl) S_w_fewest.nd (pi_tup (pv 0)) (blkOk_by (own := [("_law_pair", 3)]) (N := N_w_fewest) (sc := defScope s_w_fewest) (by decide +kernel)) (fun _ _ _ _ _ => (pg_name (i := 3) S_w_fewest.nd rfl (.inl rfl))) (fun _ _ _ _ _ => (pts_one (pt_cmpR (r := rInN K true) (op_notInN hr.units) (pv 3) (pv 2) (by rfl)))) (fun _ _ _ _ _ => (pv 3))) pa_nil)) (pe_lst pa_nil) (nomark _)) (pss_one (ps_ret (pv 1))) pss_nil)))))
      (pss_one (ps_ret pe_int))), ?_⟩
    have lys : ys.length = ps.length := by have := nk.length; rw [List.length_map] at this; exact this
    refine ⟨4, rfl, by decide, by decide, ?_⟩
    refine for_range (lo := 0) (n := 4) (fun i σ Hx => (∃ y1 y2 y3, σ = [some (.ref s), y1, y2, y3]) ∧ Same H Hx ∧ ∀ wp : List (Str × Str), wp.Sublist ps → wp.length < i → ¬ Acy (Out ps wp)) ⟨⟨_, _, _, rfl⟩, (fun _ _ e => e), fun wp _ h => by omega⟩ ?_ ?_
    · rintro i σ Hx hi ⟨⟨y1, y2, y3, rfl⟩, sx, no⟩
      have e0 : (0 + (i : Int)) = ((i : Nat) : Int) := Int.zero_add _
      have hsx := sx _ _ hs
      have nkx := nk.at (.same sx)
      refine ⟨_, rfl, _, rfl, s, so, ys, ps, i, by show [V.ref s, V.int (0 + (i : Int))] ++ [] = _; rw [e0]; rfl, hsx, tds, nkx, l12, by omega, fun D us H1 s1 hD rows => ?_⟩
      refine ⟨D, rfl, ⟨_, .inl (.inl hD)⟩, ?_⟩
      refine for_list (xs := us) (fun j σ Hy => (∃ y2 y3, σ = [some (.ref s), some (.int (0 + (i : Int))), y2, y3]) ∧ Same H1 Hy ∧ ∀ wp ∈ (rowsP ps i).take j, ¬ Acy (Out ps wp)) ⟨⟨_, _, rfl⟩, (fun _ _ e => e), fun wp h => by rw [List.take_zero] at h; cases h⟩ (fun j σ Hy hj ⟨_, sy, _⟩ => .inl (.inl (sy _ _ hD))) ?_ ?_
      · rintro j x σ Hy hx ⟨⟨y2, y3, rfl⟩, sy, nj⟩
        obtain ⟨wp, g, gs, hwp, rfl, hg, nkg⟩ := row_at (rows.at (.same sy)) hx
        obtain ⟨subg, lg⟩ := rows_sub i wp (List.mem_of_getElem? hwp)
        have sxy := sx.trans (s1.trans sy)
        have hsy := sxy _ _ hs
        have nky := nk.at (.same sxy)
        refine ⟨_, rfl, s, rfl, ⟨_, .inl (.inr ⟨_, hsy⟩)⟩, fun E2 nE => ?_⟩
        refine lc_tup (xs := ys) (fun k Hz => ∃ acc, Same Hy Hz ∧ Hz E2 = some (.lst acc) ∧ NkAll Hz acc ((Out (ps.take k) wp).map sayK) ∧ acc.length ≤ k) ⟨[], same_upd nE, upd_same, by rw [List.take_zero]; exact .nil, Nat.le_refl _⟩ (fun k Hz hk ⟨acc, sz', _⟩ => .inl (.inr ⟨_, sz' _ _ hsy⟩)) ?_ ?_
        · rintro k v Hz hv ⟨acc, sz', hE, nka, la⟩
          have hk := (List.getElem?_eq_some_iff.mp hv).1
          obtain ⟨p, hp⟩ : ∃ p, ps[k]? = some p := ⟨_, List.getElem?_eq_getElem (by omega)⟩
          obtain ⟨y, hy, hyy⟩ := say_at (nky.at (.same sz')) hp
          rw [hv] at hy
          cases hy
          refine ⟨rfl, _, rfl, _, rfl, g, gs, sayK p, _, rfl, .inr (.inl (.inl (sz' _ _ hg))), nk_say hyy, nkg.at (.same sz'), Nat.le_trans (say_depth p) (by decide), _, rfl, ite2 (fun e => ?_) (fun e => ?_)⟩
          · have e2 : p ∉ wp := fun h => by
              have e : (!decide (sayK p ∈ wp.map sayK)) = true := e
              rw [decide_eq_true (List.mem_map_of_mem h)] at e
              cases e
            refine ⟨_, rfl, acc, hE, small1000 (by omega), acc ++ [.ref y], same_fresh nE sz', upd_same, ?_, by rw [List.length_append]; exact Nat.succ_le_succ la⟩
            unfold Out
            rw [List.take_add_one, hp, List.filter_append, show (some p).toList.filter (fun p => !decide (p ∈ wp)) = [p] by simp [e2], List.map_append]
            exact (nka.at (tups_lst hE)).app (.cons (nk_say (tups_lst hE _ _ hyy)) .nil)
          · have e2 : p ∈ wp := by
              refine Classical.byContradiction fun n => e ?_
              show (!decide (sayK p ∈ wp.map sayK)) = true
              rw [decide_eq_false fun h => ?_]
              · rfl
              · obtain ⟨q, hq, eq⟩ := List.mem_map.mp h
                rw [sayK_inj eq] at hq
                exact n hq
            refine ⟨acc, sz', hE, ?_, by omega⟩
            unfold Out
            rw [List.take_add_one, hp, List.filter_append, show (some p).toList.filter (fun p => !decide (p ∈ wp)) = [] by simp [e2], List.append_nil]
            exact nka
        · rintro Hz ⟨acc, sz', hE, nka, la⟩
          rw [lys, List.take_of_length_le (Nat.le_refl _)] at nka
          have lo : (Out ps wp).length ≤ ps.length := List.length_filter_le _ _
          refine ⟨E2, acc, Out ps wp, rfl, .inr hE, nka, by omega, fun p hp => pl p (mem_out.mp hp).1, fun C cu cs H2 s2 nC hC nkC subC fix lC full => ?_⟩
          refine ⟨sz (by show 0 ≤ 1000; decide), fun c0 n0 => ?_⟩
          refine fresh_fin (.lst []) n0 fun H3 s3 h3 => ?_
          have sA := sz'.trans (s2.trans s3)
          refine ⟨C, c0, cu, rfl, rfl, .inl (.inl (s3 _ _ hC)), .inl (.inl h3), _, rfl, ite2 (fun e => ?_) (fun e => ?_)⟩
          · have ec : cs = [] := by
              have lcu := nkC.length
              rw [List.length_map] at lcu
              cases cu with
              | nil => exact List.length_eq_zero_iff.mp lcu.symm
              | cons a l => cases e
            rw [ec] at full
            refine ⟨_, rfl, ?_⟩
            rw [e0]
            refine q i H3 (sxy.trans sA) (by omega) (fun _ => ⟨wp, by omega, acy_core full⟩) fun e he hl => ?_
            obtain ⟨w2, w3, w4, w5⟩ := lets_row nd hl
            exact no w2 w3 (by omega) w5
          · refine ⟨⟨_, _, rfl⟩, sy.trans sA, fun w2 hw => ?_⟩
            rw [List.take_add_one, hwp] at hw
            rcases List.mem_append.mp hw with h | h
            · exact nj w2 h
            · rw [show w2 = wp by simpa using h]
              have cne : cs ≠ [] := fun z => by
                have lcu := nkC.length
                rw [z] at lcu
                cases cu with
                | nil => exact e rfl
                | cons a l => cases lcu
              exact fun ac => ring_of cne fix (ac.sub subC)
      · rintro σ Hy ⟨⟨y2, y3, rfl⟩, sy, nj⟩
        have lr := rows.length
        rw [List.length_map] at lr
        rw [lr, List.take_of_length_le (Nat.le_refl _)] at nj
        refine ⟨⟨_, _, _, rfl⟩, sx.trans (s1.trans sy), fun wp ws wl => ?_⟩
        rcases Nat.lt_succ_iff_lt_or_eq.mp wl with h | h
        · exact no wp ws h
        · exact nj wp (rows_mem nd i wp ws h)
    · rintro σ Hx ⟨⟨y1, y2, y3, rfl⟩, sx, no⟩
      refine q 4 Hx sx (Nat.le_refl _) (fun h => absurd h (by decide)) fun e he hl => ?_
      obtain ⟨w2, w3, w4, w5⟩ := lets_row nd hl
      exact no w2 w3 (by omega) w5
end
end L45

set_option Elab.async false
set_option linter.all false
set_option maxRecDepth 100000
set_option maxHeartbeats 4000000
/-! isinstance of a caught error of the program's own, with fields or without, against one class or a tuple of classes, whatever the answer. -/
namespace My
open PySem PySem.Spec PyProof.Rows L2
section
open PySem.W PySem.Calls
variable {prog : Program} {w : World} {A : Around} {E : Value → Shared → Prop} {s : Shared} {K : PySem.W.Frag} {x D : Addr} {ox : Obj} {od : Option Obj}
/-- __class__ of an error: its class's own word comes ahead of whatever its dict holds -/
theorem cls_bind (C : ExcC K D) : findObj K D od "__class__" = some (.bind (.builtin "getset_descriptor.__get__") (.builtin "object.__class__")) := by
  have c0 : (clsIn K D).isSome = true := by
    obtain ⟨cd, hc, _⟩ := any_some C.hd
    rw [hc]
    rfl
  cases od with
  | none => exact findObj_dataN c0 C.ha C.hn C.ht
  | some o => exact findObj_data c0 C.ha C.hn C.ht
theorem err_class (C : ExcC K D) {R : Option Value → Shared → Prop} (kin : K.In s.heap) (at_ : InstAt s.heap x ox D od) (q : R (some (.ref D)) { s with toks := s.toks + 1 }) : wpAny (model prog w) A (getAttr? (.ref x) "__class__") R E s := by
  obtain ⟨h0, g0, d0, t0, o0⟩ := s
  have own := at_.type (M := model prog w)
  have hook := looks_findIn (M := model prog w) kin C.hg
  have rest := looks_findIn (M := model prog w) kin C.hk
  have word := looks_find (M := model prog w) kin at_ (cls_bind (od := od) C)
  have below : Looks (model prog w) h0 (isInstance (.ref x) (.type "BaseException")) true := own.andThen (looks_subIn kin C.hs)
  have other : (Value.builtin "BaseException.__getattribute__" == Value.builtin "object.__getattribute__") = false := by decide +kernel
  unfold getAttr? getAttrBy? getAttrBy
  refine wpAny_bind (wpAny_mkText (wpAny_bind (wpAny_attempt (wpAny_holding (wpAny_bind (own.at (wpAny_bind (hook.at ?_))))))))
  show wpAny _ _ (ite ((onTheHeap (Value.ref D) && Value.builtin "BaseException.__getattribute__" == Value.builtin "object.__getattribute__") = true) _ _) _ _ _
  rw [if_neg (by rw [other, Bool.and_false]; exact Bool.noConfusion)]
  unfold getAttrByItsOwn hookBefore
  refine wpAny_bind ?_
  rw [if_pos (by rfl : onTheHeap (Value.ref D) = true)]
  refine rest.at (wpAny_bind (wpAny_attempt (wpAny_holding ?_)))
  unfold callGetattribute
  rw [if_neg (show ¬ (false && onTheHeap (Value.builtin "BaseException.__getattribute__")) = true from Bool.noConfusion)]
  unfold boundAndCalled
  rw [F.excAttr_ValueError.ga.bind (.ref x)]
  refine wpAny_bind (wpAny_pure (show wpAny _ _ (call (.builtin "BaseException.__getattribute__") [.ref x, .str "__class__" t0]) _ _ _ from wpAny_call (codeAny_call_builtin F.excAttr_ValueError.ga.plain F.entry_bexc_ga ?_)))
  refine @check_slot (model prog w) _ _ ⟨h0, g0, d0, t0 + 1, o0⟩ "BaseException.__getattribute__" "BaseException" "__getattribute__" (.ref x) [.str "__class__" t0] [] _ (by decide +kernel) (by decide +kernel) below (F.args_bexc_ga (.ref x) (.str "__class__" t0)) ?_
  unfold Builtin.«object.__getattribute__»
  refine wpAny_bind (wpAny_of_eq (a := ((Value.ref x : Value), [Value.str "__class__" t0])) (by first | rfl | (simp only [slotArgs]; rfl)) (wpAny_bind (wpAny_pure (wpAny_bind (own.at (wpAny_bind (word.at ?_)))))))
  show wpAny _ _ (holding [Value.builtin "object.__class__"] (call (.builtin "getset_descriptor.__get__") [.builtin "object.__class__", .ref x, .ref D]) >>= ret) _ _ _
  refine wpAny_bind (wpAny_holding (wpAny_call (class_get (s := ⟨h0, g0, d0, t0 + 1, o0⟩) (ox := ox) (od := od) kin at_ C.hm (wpAny_pure ?_))))
  show wpAny _ _ (handedOut (.ref D)) _ _ _
  rw [handedOut_of (v := .ref D) rfl]
  first
    | exact wpAny_pure (wpAny_pure q)
    | exact wpAny_pure q
    | exact wpAny_pure (wpAny_bind (wpAny_pure (wpAny_pure q)))
theorem err_kit (C : ExcC K D) : KitX K (.ref x) (.ref D) fun h => InstAt h x ox D od := by
  obtain ⟨cd, hc, _⟩ := any_some C.hd
  have at_ : ∃ (c : Value) (d : Option Addr) (cdt : ClassData) (sl : Array (Option Value)), K.lookup D = some ⟨c, d, .cls cdt, sl⟩ := by
    unfold clsIn at hc
    split at hc
    · rename_i c' d' cd' sl' ho
      exact ⟨c', d', cd', sl', ho⟩
    · cases hc
  obtain ⟨c, d, cdt, sl, ho⟩ := at_
  refine ⟨fun _ _ _ I => I.type, fun _ _ X _ A' Q' E' s' k q => ?_, fun h tp dd its n sl' X htp => Bool.eq_false_iff.mpr fun q => ?_, fun X I k => err_class C X I k⟩
  · unfold isType loadHead
    exact wpAny_bind (wpAny_loadPart (k _ _ (X _ _ ho)) (wpAny_pure q))
  · obtain rfl : D = tp := Value.ref.inj (beq_iff_eq.mp q)
    have z := (X _ _ ho).symm.trans htp
    cases z
end
/-- the error that the suite holds: its class, its fields -/
def ErrX (K : PySem.W.Frag) (H : Hp) (D : Addr) (cls : Value) (d : Option Addr) : Prop := cls = .ref D ∧ ExcC K D ∧ ∀ dd, d = some dd → ∃ fs, H dd = some (.xd fs)
/-- isinstance(e, c) -/
def rIsX (K : PySem.W.Frag) (a : Addr) (cls : Value) (d : Option Addr) : List V → Hp → VK → Prop := fun xs H Q => ∃ (D : Addr) (c : V) (u : Value) (b : Bool), xs = [.ref a, c] ∧ ClsV c u ∧ PySem.W.kitOne K (.ref D) u = some b ∧ ErrX K H D cls d ∧ Q (.bl b) H
/-- isinstance(e, (c1, c2, ..)) -/
def rIsXT (K : PySem.W.Frag) (a : Addr) (cls : Value) (d : Option Addr) : List V → Hp → VK → Prop := fun xs H Q => ∃ (D tp : Addr) (cs : List V) (us : List Value) (b : Bool), xs = [.ref a, .ref tp] ∧ H tp = some (.tup cs) ∧ Paired ClsV cs us ∧ PySem.W.kitAny K (.ref D) us = some b ∧ ErrX K H D cls d ∧ Q (.bl b) H
section
variable {X : Cx} {a : Addr} {oe : Obj} {d : Option Addr} {cls : Value} {pn : List (Addr × Obj)}
theorem err_inst {pins : List (Addr × Obj)} {σ : L2.St} {H : Hp} {s : Shared} {D : Addr} (I : Inv (X.suite a ((a, oe) :: pn)) pins σ H s) (hz : Zc cls d oe) (hf : ∃ vs, oe.data = .fields vs) (h : ErrX X.K H D cls d) : ∃ od, PySem.W.InstAt s.heap a oe D od := by
  obtain ⟨here, _⟩ := I.pin (a, oe) (List.mem_append_left _ List.mem_cons_self)
  obtain ⟨vs, hv⟩ := hf
  obtain ⟨hc, _, hd⟩ := h
  have nc : PySem.W.notCls oe := by unfold PySem.W.notCls; rw [hv] <;> rfl
  cases d with
  | none => exact ⟨none, here, hz.1.trans hc, nc, by rw [hz.2]; trivial⟩
  | some dd =>
    obtain ⟨fs, hdd⟩ := hd dd rfl
    have hx : ObjOk X.prog X.w H s.heap dd (.xd fs) := I.hok dd _ hdd
    obtain ⟨mA, hns, _⟩ := hx
    obtain ⟨od, ho, _⟩ := lookIn_ns hns
    exact ⟨some od, here, hz.1.trans hc, nc, by rw [hz.2]; exact ho⟩
theorem call_isX (hz : Zc cls d oe) (hf : ∃ vs, oe.data = .fields vs) : CallR (X.suite a ((a, oe) :: pn)) (.builtin "isinstance") (rIsX X.K a cls d) := by
  intro pins s σ H xs us Q I r h
  obtain ⟨D, c, u, b, rfl, k, e, hx, q⟩ := h
  obtain ⟨u1, u2, rfl, r1, r2⟩ := vals2 r
  obtain rfl : u1 = Value.ref a := r1
  obtain rfl := k.eq r2
  obtain ⟨od, inst⟩ := err_inst I hz hf hx
  exact PySem.W.kia_one (err_kit (od := od) hx.2.1) I.kIn inst e (fun z => nomatch z) fun tk => ⟨.bl b, H, I.kept (t' := tk) fun _ _ z => z, rfl, q⟩
theorem call_isXT (hz : Zc cls d oe) (hf : ∃ vs, oe.data = .fields vs) : CallR (X.suite a ((a, oe) :: pn)) (.builtin "isinstance") (rIsXT X.K a cls d) := by
  intro pins s σ H xs us Q I r h
  obtain ⟨D, tp, cs, ws, b, rfl, hT, k, e, hx, q⟩ := h
  obtain ⟨u1, u2, rfl, r1, r2⟩ := vals2 r
  obtain rfl : u1 = Value.ref a := r1
  obtain rfl : u2 = Value.ref tp := r2
  obtain ⟨od, inst⟩ := err_inst I hz hf hx
  obtain ⟨_, its, rv, o, h1, h2, n, h3⟩ := (show ObjOk X.prog X.w H s.heap tp (.tup cs) from I.hok tp _ hT)
  obtain rfl := ClsV.all k rv
  obtain ⟨oc, odd, dt, sl⟩ := o
  dsimp only at h2 h3
  subst h2 h3
  exact PySem.W.kia_tup (err_kit (od := od) hx.2.1) I.kIn inst h1 e (fun z => nomatch z) fun tk => ⟨.bl b, H, I.kept (t' := tk) fun _ _ z => z, rfl, q⟩
end
end My

set_option Elab.async false
set_option linter.all false
set_option maxRecDepth 100000
set_option maxHeartbeats 2000000
namespace L45
open PySem PySem.Spec PyProof.Rows L2 LT
open My hiding Tbs Gk Tk
section
variable {P : Program} {w : World} {K : PySem.W.Frag} {mg : Str → Option Value} {base : Heap}
def spTold (T : Tx K mg) : Sp := fun vs H Q _ => ∃ (n s t : Addr) (ys : List V) (ps : List (Str × Str)) (zs : List Str), vs = [.ref n, .ref s] ∧ H n = some (.tup (zs.map V.str)) ∧ H s = some (.tup ys) ∧ NkAll H ys (ps.map sayK) ∧ ps.length ≤ 40 ∧ (∀ p ∈ ps, p.1 ≠ p.2) ∧ (∀ p ∈ ps, p.1 ∈ zs) ∧ (∃ us, H t = some (.lst us)) ∧ Tbs (tbs T) H ∧
  (∀ r c g gs v H', Gk (tbs T) H H' → gs.length ≤ 3 → Acy (Out ps gs) → (∀ e, e < gs.length → ¬ Lets ps e) → (∀ p ∈ gs, p ∈ ps) → gs.Nodup → H' r = some (.tup [.str "told", .ref c]) → H' c = some (.tup [.ref g, v]) → WT H' g gs → (gs = [] ∧ v = .non ∨ gs ≠ [] ∧ CaseOk t H' v (gs.length - 1) ps) → Rs (gs.map sayK) → Q (.ref r) H') ∧
  (¬ Lets ps 3 → ∀ r H', Gk (tbs T) H H' → H' r = some (.tup [.str "no", .str "gone"]) → Q (.ref r) H')
theorem ok_told (T : Tx K mg) (B : Tb T base) : FnOk P w K mg base CX0 10 T.f_w_told T.d_w_told ["_law_names_here", "_law_some"] (spTold T) := by
  have G_let_go : FnOk P w K mg base (L2.CX P w) 9 T.f_let_go T.d_let_go ["names", "some"] (spLetGo T) := ok_letgo T B
  refine T.F_w_told.ok S_w_told (fun vs H Q E h => ?_) (fun cdv A outer s0 H vs Q E hr h => ?_)
  · obtain ⟨n, s, t, ys, ps, zs, rfl, _⟩ := h
    rfl
  · obtain ⟨n, s, t, ys, ps, zs, rfl, hn, hs, nk, l40, un, hz, ⟨us, hus⟩, hB, q0, q1⟩ := h
    refine ⟨_, (pss_cons (ps_set (i := 2) S_w_told.nd rfl (.inl rfl) (pe_tup (pa_cons pe_str pa_nil)))
      (pss_cons (ps_try_as (i := 3) (Wout := fun _ _ _ _ => False) rfl rfl S_w_told.nd rfl rfl ⟨rfl, by decide, Or.inl T.gC_CardsError⟩ takes0
      (fun W pn xe tk _ => (pss_one (ps_set (i := 2) S_w_told.nd rfl (.inl rfl) (pe_tup (pa_cons pe_str (pa_cons (pe_callS G_let_go hr (by rfl) T.g_let_go T.F_let_go.kp T.b_let_go (fun σ => passAt tk σ) (pa_cons (pv 0) (pa_cons (pv 1) pa_nil))) pa_nil))))))
      (fun a oe cls d pn hz hf => (pss_cons (ps_set (i := 4) S_w_told.nd rfl (.inl rfl) (pe_callB (call_isXT hz hf) (by rfl) T.m_isinstance (by decide +kernel) (pa_cons (pv 3) (pa_cons (pe_tup (pa_cons (pe_glob (v := .ref T.C_NoBack) (by rfl) T.gC_NoBack rfl) (pa_cons (pe_glob (v := .ref T.C_NoCrowd) (by rfl) T.gC_NoCrowd rfl) (pa_cons (pe_glob (v := .ref T.C_NoDue) (by rfl) T.gC_NoDue rfl) (pa_cons (pe_glob (v := .ref T.C_NoHouse) (by rfl) T.gC_NoHouse rfl) (pa_cons (pe_glob (v := .ref T.C_NoOrder) (by rfl) T.gC_NoOrder rfl) (pa_cons (pe_glob (v := .ref T.C_NoPage) (by rfl) T.gC_NoPage rfl) (pa_cons (pe_glob (v := .ref T.C_NoPaper) (by rfl) T.gC_NoPaper rfl) (pa_cons (pe_glob (v := .ref T.C_NoRow) (by rfl) T.gC_NoRow rfl) (pa_cons (pe_glob (v := .ref T.C_NoText) (by rfl) T.gC_NoText rfl) pa_nil)))))))))) pa_nil))))
      (pss_one (ps_if (PW.pt (pw_and (pt_val (pe_callB (call_isX hz hf) (by rfl) T.m_isinstance (by decide +kernel) (pa_cons (pv 3) (pa_cons (pe_glob (v := .ref T.C_TooMany) (by rfl) T.gC_TooMany rfl) pa_nil)))) (pw_and (pt_val (pe_callB (call_isX hz hf) (by rfl) T.m_isinstance (by decide +kernel) (pa_cons (pv 3) (pa_cons (pe_bltn (v := .ty "ValueError") (by rfl) T.m_ValueError (by decide +kernel) rfl) pa_nil)))) (pw_and1 (pt_not (pt_val (pv 4))))))) (pss_one (ps_set (i := 2) S_w_told.nd rfl (.inl rfl) (pe_tup (pa_cons pe_str (pa_cons (pe_xf T.xf_TooMany T.no_TooMany_word hz hf (pv 3)) pa_nil))))) pss_nil)))))
      (pss_one (ps_ret (pv 2))))), ?_⟩
    refine ⟨sz (by show 1 ≤ 1000; decide), fun o no => ?_⟩
    have so := same_upd (o := .tup [.str "odd"]) no
    have hB1 := hB.same so
    have go : Gk (tbs T) H _ := .of_same so hB
    refine ⟨_, rfl, _, rfl, n, s, t, ys, ps, zs, rfl, so _ _ hn, so _ _ hs, nk.at (.same so), l40, un, hz, ⟨us, so _ _ hus⟩, hB1, fun r g gs v H1 g1 l3 ac no' sub nd hr1 wt ck rs => ?_, fun nl dx H1 g1 hd => ?_⟩
    · refine ⟨sz (by show 2 ≤ 1000; decide), fun r2 nr => ⟨_, rfl, ?_⟩⟩
      have gg := go.trans g1
      have sr := same_upd (o := .tup [.str "told", .ref r]) nr
      obtain ⟨ws, hg, nkg⟩ := wt
      exact q0 r2 r g gs v _ (gg.trans (.of_same sr gg.2)) l3 ac no' sub nd upd_same (sr _ _ hr1) ⟨ws, sr _ _ hg, nkg.at (.same sr)⟩ (ck.imp id fun ⟨a, b⟩ => ⟨a, b.at (.same sr)⟩) rs
    · have gg := go.trans g1
      refine ⟨true, T.te_TooMany, fun _ a0 na => ?_, fun z => nomatch z⟩
      refine ⟨_, rfl, sz (by show 9 ≤ 1000; decide), fun tp ntp => ?_⟩
      have st := same_upd (o := .tup [V.ref T.C_NoBack, V.ref T.C_NoCrowd, V.ref T.C_NoDue, V.ref T.C_NoHouse, V.ref T.C_NoOrder, V.ref T.C_NoPage, V.ref T.C_NoPaper, V.ref T.C_NoRow, V.ref T.C_NoText]) ntp
      have ht := upd_same (H := H1) (a := tp) (o := .tup [V.ref T.C_NoBack, V.ref T.C_NoCrowd, V.ref T.C_NoDue, V.ref T.C_NoHouse, V.ref T.C_NoOrder, V.ref T.C_NoPage, V.ref T.C_NoPaper, V.ref T.C_NoRow, V.ref T.C_NoText])
      have hd2 := st _ _ hd
      have g2 := gg.trans (.of_same st gg.2)
      generalize upd H1 tp (.tup [V.ref T.C_NoBack, V.ref T.C_NoCrowd, V.ref T.C_NoDue, V.ref T.C_NoHouse, V.ref T.C_NoOrder, V.ref T.C_NoPage, V.ref T.C_NoPaper, V.ref T.C_NoRow, V.ref T.C_NoText]) = H2 at ht hd2 g2 ⊢
      have ex : ErrX K H2 T.C_TooMany (Value.ref T.C_TooMany) (some dx) := ⟨rfl, T.ec_TooMany, fun dd z => by cases z; exact ⟨_, hd2⟩⟩
      refine ⟨T.C_TooMany, tp, _, [.ref T.C_NoBack, .ref T.C_NoCrowd, .ref T.C_NoDue, .ref T.C_NoHouse, .ref T.C_NoOrder, .ref T.C_NoPage, .ref T.C_NoPaper, .ref T.C_NoRow, .ref T.C_NoText], false, rfl, ht, by repeat (first | exact .nil | refine .cons (.own _) ?_), ?_, ex, ?_⟩
      · exact kitAny_cons T.kt_TooMany_NoBack (fun _ => kitAny_cons T.kt_TooMany_NoCrowd (fun _ => kitAny_cons T.kt_TooMany_NoDue (fun _ => kitAny_cons T.kt_TooMany_NoHouse (fun _ => kitAny_cons T.kt_TooMany_NoOrder (fun _ => kitAny_cons T.kt_TooMany_NoPage (fun _ => kitAny_cons T.kt_TooMany_NoPaper (fun _ => kitAny_cons T.kt_TooMany_NoRow (fun _ => kitAny_cons T.kt_TooMany_NoText (fun _ => rfl) (fun z => by cases z)) (fun z => by cases z)) (fun z => by cases z)) (fun z => by cases z)) (fun z => by cases z)) (fun z => by cases z)) (fun z => by cases z)) (fun z => by cases z)) (fun z => by cases z)
      refine ⟨_, rfl, T.C_TooMany, .ref T.C_TooMany, .ref T.C_TooMany, true, rfl, .own _, T.kt_TooMany_TooMany, ex, _, rfl, iteT ?_⟩
      refine ⟨_, rfl, T.C_TooMany, .ty "ValueError", .type "ValueError", true, rfl, .ty _, T.kv_TooMany, ex, _, rfl, iteT ?_⟩
      refine ⟨_, rfl, _, rfl, iteT ?_⟩
      refine ⟨_, rfl, rfl, rfl, dx, _, .str "gone", rfl, hd2, rfl, sz (by show 2 ≤ 1000; decide), fun r nr => ⟨_, rfl, ?_⟩⟩
      have sr := same_upd (o := .tup [.str "no", .str "gone"]) nr
      exact q1 nl _ _ (g2.trans (.of_same sr g2.2)) upd_same
def spLetS (T : Tx K mg) : Sp := fun vs H Q _ => ∃ (m : Nat) (nv : V) (s t : Addr) (v : V) (ys : List V) (ps : List (Str × Str)) (d : PyData), vs = [nv, .ref s, .int (m : Nat), v] ∧ m ≤ 4 ∧ H s = some (.tup ys) ∧ NkAll H ys (ps.map sayK) ∧ ps.length ≤ 50 ∧ Dq false t H v d ∧ Wid 50 d ∧ Tbs (tbs T) H ∧
  ∀ b H', Gk (tbs T) H H' → (b = true ↔ caseF m ps d [] = none) → Q (.bl b) H'
theorem ok_lets (T : Tx K mg) (B : Tb T base) : FnOk P w K mg base CX0 15 T.f_w_let T.d_w_let ["_law_names_here", "_law_some", "_law_number", "_law_thing"] (spLetS T) := by
  have G_lets_letting : FnOk P w K mg base (L2.CX P w) 14 T.f_lets_letting T.d_lets_letting ["names", "some", "number", "thing"] (spLetsL T) := ok_letsl T B
  refine T.F_w_let.ok S_w_let (fun vs H Q E h => ?_) (fun cdv A outer s H vs Q E hr h => ?_)
  · obtain ⟨m, nv, s, t, v, ys, ps, d, rfl, _⟩ := h
    rfl
  · obtain ⟨m, nv, s, t, v, ys, ps, d, rfl, m4, hs, nk, l50, dq, wd, hB, q⟩ := h
    refine ⟨_, (pss_cons (ps_set (i := 4) S_w_let.nd rfl (.inl rfl) pe_bl)
      (pss_cons (ps_try_only (Wout := fun _ _ _ _ => False) rfl rfl ⟨rfl, by decide, Or.inl T.gC_NoPaper⟩ takes0
      (fun W pn xe tk _ => (pss_one (ps_set (i := 4) S_w_let.nd rfl (.inl rfl) (pe_callS G_lets_letting hr (by rfl) T.g_lets_letting T.F_lets_letting.kp T.b_lets_letting (fun σ => passAt tk σ) (pa_cons (pv 0) (pa_cons (pv 1) (pa_cons (pv 2) (pa_cons (pv 3) pa_nil))))))))
      (fun a oe cls d pn hz hf => (pss_one (ps_set (i := 4) S_w_let.nd rfl (.inl rfl) pe_bl))))
      (pss_one (ps_ret (pv 4))))), ?_⟩
    refine ⟨_, rfl, _, rfl, _, rfl, _, rfl, m, nv, s, t, v, ys, ps, d, rfl, m4, hs, nk, l50, dq, wd, hB, fun H1 g1 e => ⟨_, rfl, ?_⟩, fun dx pth wo us H1 g1 e hd hp => ?_⟩
    · exact q true _ g1 ⟨fun _ => e, fun _ => rfl⟩
    · refine ⟨true, T.tm_NoPaper, fun _ a0 na => ?_, fun z => nomatch z⟩
      exact ⟨_, rfl, q false _ g1 ⟨fun z => (by cases z), fun z => by rw [z] at e; cases e⟩⟩
end
end L45

set_option Elab.async false
set_option linter.all false
set_option maxRecDepth 100000
set_option maxHeartbeats 4000000
/-! set(t) of a tuple. -/
namespace My
open PySem PySem.Spec PyProof.Rows L2 PySem.SeqAt
section
variable {P : Program} {w : World} {A : Around} {E : Value → Shared → Prop} {s : Shared}
theorem callGT {l : Addr} {items : Array Value} {Q : Value → Shared → Prop} {T : Nat → Heap → Prop} (hh : A.handled = none) (hl : s.heap.IsTuple l items)
    (D : Adds P w A.in1.in1.in1 s.heap.objs.size [s.heap.objs.size + 1] items.size (fun i v => items[i]? = some v) T)
    (t0 : ∀ h : Heap, h.get? s.heap.objs.size = some (freshSet w) → (∀ b o, s.heap.get? b = some o → h.get? b = some o) → T 0 h)
    (q : ∀ (h' : Heap) (tk : Nat), T items.size h' → (∀ b o, s.heap.get? b = some o → h'.get? b = some o) → Q (.ref s.heap.objs.size) { s with heap := h', toks := tk }) :
    wpAny (model P w) A (call (.type "set") [.ref l]) Q E s := by
  obtain ⟨c, tl, f1⟩ := PySem.F.called_set.mro
  have f2 := PySem.F.called_set.made
  have f3 := PySem.F.called_set.sub
  refine wpAny_call (codeAny_of_tree (?_ : wpAny _ _ (callAny (.type "set") _) _ _ _))
  refine wpAny_pure ⟨Code.quiet_builtin _ (by decide +kernel), codeAny_builtin PySem.F.entry_type_call ?_⟩
  rw [Around.under_plain (weight_type_call_type "set" [.ref l] []) rfl]
  have f4 := PySem.F.called_set.notType
  have f5 := PySem.F.called_set.canCreate
  have f6 := F.typeCall_set_1 (.ref l)
  repeat (any_goals (first | assumption | wp_step))
  refine codeAny_mono (code_set_led1 (.ref l) (E := E) (Q₁ := fun v now => v = .ref s.heap.objs.size ∧ now = { s with heap := s.heap.push (freshSet w) }) ⟨rfl, rfl⟩) fun r now hr => ?_
  match r, hr with
  | .error e, hr => exact hr
  | .ok (.ret v), hr =>
    obtain ⟨rfl, rfl⟩ := hr
    have hS : (s.heap.push (freshSet w)).get? s.heap.objs.size = some (freshSet w) := Heap.get?_push_size _ rfl
    have hT : Shared.TypeIs { s with heap := s.heap.push (freshSet w) } (.ref s.heap.objs.size) "set" := ⟨_, hS, rfl⟩
    have f7 := F.called_set.init.lookup
    have f8 := F.called_set.init.bind (.ref s.heap.objs.size)
    repeat (any_goals (first | assumption | wp_step))
    refine codeAny_mono (codeAny_call_builtin (R := wants (fun r s₂ => r = .none ∧ ∃ h' tk, s₂ = { s with heap := h', toks := tk } ∧ T items.size h' ∧ ∀ b o, s.heap.get? b = some o → h'.get? b = some o) E) F.called_set.init.plain F.entry_set_init (check_set_init_1 hT ?_)) fun r₂ s₂ hr₂ => ?_
    · obtain ⟨⟨ocls, odict, odata, oslots⟩, o1, o2, nl, o3⟩ := hl
      simp only at o2 o3
      subst o2 o3
      have o4 : (s.heap.push (freshSet w)).get? l = some { cls := .type "tuple", dict := odict, data := .seq items nl, slots := oslots } := Heap.get?_push_of_some _ o1
      have f9 := F.sub_tuple_set
      have f10 := F.sub_tuple_frozenset
      have f11 : (Value.type "tuple" == Value.type "dict") = false := by decide
      have hl1 : (s.heap.push (freshSet w)).IsTuple l items := ⟨_, o4, rfl, nl, rfl⟩
      have lS : l < s.heap.objs.size := Heap.lt_size o1
      have z1 : (s.heap.push (freshSet w)).objs.size = s.heap.objs.size + 1 := Heap.size_push ..
      unfold Builtin.«set.__init__» noKeywords Builtin.Frozenset.updateFrom
      generalize hPI : pyIter = PI
      wp_walk
      subst hPI
      refine wpAny_pyIter_tuple hl1 (wpAny_bind (wpAny_runValue ?_))
      have ne1 : l ≠ (s.heap.push (freshSet w)).objs.size := by rw [z1]; exact Nat.ne_of_lt (Nat.lt_succ_of_lt lS)
      have D2 := D
      rw [← z1] at D2
      refine updateG ((Walks.tuple (by simp [hh]) _ l ne1 items).toS) (S := s.heap.objs.size) (by rw [z1]; simp only [List.mem_cons, List.not_mem_nil, or_false, not_or]; exact ⟨Nat.ne_of_lt (Nat.lt_succ_self _), (Nat.ne_of_lt lS).symm⟩) D2 (items.size - 0) 0 _ rfl (Nat.zero_le _) ⟨⟨_, Heap.get?_push_size _ rfl, rfl, rfl⟩, hl1.push _⟩ (t0 _ (Heap.get?_push_of_some _ hS) fun b o e => Heap.get?_push_of_some _ (Heap.get?_push_of_some _ e)) fun s' m t1 => ?_
      obtain ⟨h', g', d', tk', os'⟩ := s'
      have eg : g' = s.gens := m.gens
      have ed : d' = s.drawn := m.drawn
      have eo : os' = s.os := m.os
      subst eg ed eo
      refine wpAny_pure (wpAny_pure ⟨rfl, h', tk', rfl, t1, fun b o e => ?_⟩)
      have lt := Heap.lt_size e
      refine m.heap b o ?_ (Heap.get?_push_of_some _ (Heap.get?_push_of_some _ e))
      rw [z1]
      simp only [List.mem_cons, List.not_mem_nil, or_false, not_or]
      exact ⟨Nat.ne_of_lt lt, Nat.ne_of_lt (Nat.lt_succ_of_lt lt)⟩
    · match r₂, hr₂ with
      | .error e, hr₂ => exact hr₂
      | .ok (.ret r), hr₂ =>
        obtain ⟨rfl, h', tk, rfl, t1, kp⟩ := hr₂
        repeat (any_goals (first | assumption | wp_step))
        exact q _ _ t1 kp
end
section
variable {X : Cx}
def rSetNT (K : PySem.W.Frag) (w : World) : List V → Hp → VK → Prop := fun xs H Q => ∃ (l : Addr) (ks : List Ent), xs = [V.ref l] ∧ SqT K H l (ks.map fun p => V.ref p.1) ∧ (∀ p ∈ ks, Nk H (.ref p.1) p.2 ∧ p.2.depth ≤ 8) ∧ ks.length ≤ 76 ∧
  ∀ a M, H a = none → (∀ p ∈ M, p ∈ ks) → (∀ p ∈ ks, p.2 ∈ M.map (·.2)) → (M.map (·.2)).Nodup → Q (.ref a) (upd H a (SetO w a M))
theorem cr_setNT (hc : X.calm = true) (hu : X.A.units + 64 < cLine) : CallR X (.type "set") (rSetNT X.K X.w) := by
  intro pins s σ H xs us Q I r h
  obtain ⟨l, ks, rfl, hl, hk, few, q⟩ := h
  rw [Vals.ref1 r]
  obtain ⟨its, rv, pl, hz⟩ := I.tuple hl
  have ei := vals_ref rv
  have non : ∀ b, s.heap.objs.size ≤ b → s.heap.get? b = none := fun b lb => by
    cases e : s.heap.get? b with
    | none => rfl
    | some o => exact absurd (Nat.lt_of_lt_of_le (Heap.lt_size e) lb) (Nat.lt_irrefl _)
  refine callGT (P := X.prog) (w := X.w) (items := its.toArray) (I.ok.hd hc) pl (addsN (h0 := s.heap) (ks := ks) (by rw [List.size_toArray, ei, List.length_map]) few (fun i v e => ?_) (fun p hp => (hk p hp).1.keyAt I (hk p hp).2) (non _ (Nat.le_refl _)) (fun b hb => ?_) ?_ (by show X.A.units + 1 + 1 + 1 + 8 < cLine; omega))
    (fun h g kp => ⟨⟨[], _, _, _, fresh_set g, .none ks⟩, kp⟩) fun h' tk t1 kp => ?_
  · rw [List.getElem?_toArray, ei, List.getElem?_map] at e
    cases e2 : ks[i]? with
    | none => rw [e2] at e; cases e
    | some p => rw [e2] at e; exact ⟨p, rfl, (Option.some.inj e).symm⟩
  · rw [List.mem_singleton.mp hb]; exact non _ (Nat.le_succ _)
  · intro z
    exact Nat.ne_of_lt (Nat.lt_succ_self _) (List.mem_singleton.mp z)
  · obtain ⟨⟨M, es, ep, t, Z, g⟩, _⟩ := t1
    rw [List.size_toArray, ei, List.length_map] at g
    refine ⟨.ref s.heap.objs.size, upd H s.heap.objs.size (SetO X.w s.heap.objs.size M), I.laid (t' := tk) kp (Nat.le_refl _) (setO_new Z.w), rfl, q _ M (I.hok.fresh (Nat.le_refl _)) (fun p hp => List.mem_of_mem_take (g.sub p hp)) (fun p hp => g.all p (by rw [List.take_length]; exact hp)) Z.nd⟩
end
end My

set_option Elab.async false
set_option linter.all false
set_option maxRecDepth 100000
set_option maxHeartbeats 2000000
namespace L45
open PySem PySem.Spec PyProof.Rows L2 LT
open My hiding Tbs Gk Tk
section
variable {P : Program} {w : World} {K : PySem.W.Frag} {mg : Str → Option Value} {base : Heap}
/-- sorted(set(t)) of a rising tuple of sayings -/
theorem srt_set {w : World} {H : Hp} {g : Addr} {es : List Ent} {Q : VK} (hg : H g = some (.tup (es.map fun p => V.ref p.1))) (nk : NkAll H (es.map fun p => V.ref p.1) (es.map (·.2))) (l : es.length ≤ 76) (rs : Rs (es.map (·.2))) (sy : ∀ k ∈ es.map (·.2), ∃ q, k = sayK q)
    (q : ∀ (b : Addr) (vs : List V) (H' : Hp), Same H H' → H' b = some (.lst vs) → NkAll H' vs (es.map (·.2)) → Q (.ref b) H') : rSetNT K w [.ref g] H fun y H1 => rSortS w [y] H1 Q := by
  have nke : ∀ x ∈ es, Nk H (.ref x.1) x.2 := ents_nk nk
  have sye : ∀ x ∈ es, ∃ q, x.2 = sayK q := fun x hx => sy _ (List.mem_map_of_mem hx)
  refine ⟨g, es, rfl, .inl (.inl hg), fun x hx => ⟨nke x hx, by obtain ⟨q, e⟩ := sye x hx; rw [e]; exact say_depth q⟩, l, fun S2 M nS2 m1 m2 ndM => ?_⟩
  have t3 := same_upd (o := My.SetO w S2 M) nS2
  refine ⟨S2, M, rfl, upd_same, fun x hx => ⟨(nke x (m1 x hx)).at (.same t3), by obtain ⟨q, e⟩ := sye x (m1 x hx); rw [e]; exact say_depth q⟩, say_sbl (fun k hk => by obtain ⟨x, hx, rfl⟩ := List.mem_map.mp hk; exact sye x (m1 x hx)), fun M' b pm2 nb => ?_⟩
  have mm2 : ∀ x ∈ M', x ∈ M := fun x hx => pm2.mem_iff.mp hx
  have t4 := same_upd (o := .lst ((srt (M'.map fun q => V.ref q.1) (M'.map (·.2))).map Prod.fst)) nb
  have sA := t3.trans t4
  obtain ⟨ls2, k1, k2', k3', k4⟩ := srt_ok (M := M') (fun x hx => (nke x (m1 x (mm2 x hx))).at (.same sA)) (fun x hx => sye x (m1 x (mm2 x hx))) ((pm2.map (·.2)).nodup_iff.mpr ndM)
  have els : ls2 = es.map (·.2) := rs_unique k2' rs fun k => by
    rw [k3', (pm2.map (·.2)).mem_iff]
    exact ⟨fun h => by obtain ⟨x, hx, rfl⟩ := List.mem_map.mp h; exact List.mem_map_of_mem (m1 x hx), fun h => by obtain ⟨x, hx, rfl⟩ := List.mem_map.mp h; exact m2 x hx⟩
  subst els
  exact q b _ _ sA upd_same k1
def spRight (T : Tx K mg) : Sp := fun vs H Q _ => ∃ (n s t : Addr) (ys : List V) (ps : List (Str × Str)) (zs : List Str) (m : Nat), vs = [.ref n, .ref s, .int (m : Int)] ∧ H n = some (.tup (zs.map V.str)) ∧ H s = some (.tup ys) ∧ NkAll H ys (ps.map sayK) ∧ ps.length ≤ 12 ∧ (∀ p ∈ ps, p.1 ≠ p.2) ∧ (∀ p ∈ ps, p.1 ∈ zs) ∧ (∀ p ∈ ps, Plain p.1 ∧ Plain p.2) ∧ (∃ us, H t = some (.lst us)) ∧ Tbs (tbs T) H ∧ m ≤ 4 ∧ (m < 4 → Lets ps m) ∧ (∀ e, e < m → ¬ Lets ps e) ∧
  ∀ H', Gk (tbs T) H H' → Q (.bl true) H'
theorem ok_right (T : Tx K mg) (B : Tb T base) : GU.FnG P w K mg base CX0 16 T.f_w_right T.d_w_right ["_law_names_here", "_law_some", "_law_due"] (spRight T) := by
  have G_w_told : FnOk P w K mg base CX0 10 T.f_w_told T.d_w_told ["_law_names_here", "_law_some"] (spTold T) := ok_told T B
  have G_w_let : FnOk P w K mg base CX0 15 T.f_w_let T.d_w_let ["_law_names_here", "_law_some", "_law_number", "_law_thing"] (spLetS T) := ok_lets T B
  have G_w_core : FnOk P w K mg base CX0 1 T.f_w_core T.d_w_core ["_law_some"] (spCore) := ok_core T
  refine GU.okG T.F_w_right S_w_right (fun vs H Q E h => ?_) (fun cdv A outer s0 H vs Q E gd hr h => ?_)
  · obtain ⟨n, s, t, ys, ps, zs, m, rfl, _⟩ := h
    rfl
  · obtain ⟨n, s, t, ys, ps, zs, m, rfl, hn, hs, nk, l12, un, hz, pl, ⟨us, hus⟩, hB, m4, ml, nl, q⟩ := h
    refine ⟨_, (pss_cons (ps_set (i := 3) S_w_right.nd rfl (.inl rfl) (pe_call G_w_told (hr.mono (by decide)) (by rfl) T.g_w_told T.F_w_told.kp T.b_w_told .nil pass0 (pa_cons (pv 0) (pa_cons (pv 1) pa_nil))))
      (pss_cons (ps_if (pt_cmpR op_gt (pv 2) pe_int (nomark _)) (pss_one (ps_ret (pe_cmpR op_eq (pe_callB (call_reprQ gd hr) (by rfl) T.m_repr (by decide +kernel) (pa_cons (pv 3) pa_nil)) (pe_callB (call_reprQ gd hr) (by rfl) T.m_repr (by decide +kernel) (pa_cons (pe_tup (pa_cons pe_str (pa_cons pe_str pa_nil))) pa_nil)) (nomark _)))) pss_nil)
      (pss_cons (ps_if (PW.pt (pw_or (pt_cmpR op_ne (pe_ix ix_tup (pv 3) pe_int (fun _ _ => rfl)) pe_str (nomark _)) (pw_or (pt_not (pt_val (pe_callB call_isi (by rfl) T.m_isinstance (by decide +kernel) (pa_cons (pe_ix ix_tup (pv 3) pe_int (fun _ _ => rfl)) (pa_cons (pe_bltn (v := .ty "tuple") (by rfl) T.m_tuple (by decide +kernel) rfl) pa_nil))))) (pw_or1 (pt_cmpR op_ne (pe_callB call_len_seq (by rfl) T.m_len PySem.boot_len (pa_cons (pe_ix ix_tup (pv 3) pe_int (fun _ _ => rfl)) pa_nil)) pe_int (nomark _)))))) (pss_one (ps_ret pe_bl)) pss_nil)
      (pss_cons (ps_asg (pe_ix ix_tup (pv 3) pe_int (fun _ _ => rfl)) (pg_tup rfl (pgs_cons (pg_name (i := 4) S_w_right.nd rfl (.inr rfl)) (pgs_cons (pg_name (i := 5) S_w_right.nd rfl (.inl rfl)) pgs_nil))))
      (pss_cons (ps_if (PW.pt (pw_or (pt_not (pt_val (pe_callB call_isi (by rfl) T.m_isinstance (by decide +kernel) (pa_cons (pv 4) (pa_cons (pe_bltn (v := .ty "tuple") (by rfl) T.m_tuple (by decide +kernel) rfl) pa_nil))))) (pw_or (pt_cmpR op_ne (pe_callB call_len_seq (by rfl) T.m_len PySem.boot_len (pa_cons (pv 4) pa_nil)) (pv 2) (nomark _)) (pw_or1 (pt_cmpR (op_neE (hu_of hr)) (pe_lc (own := [("_law_pair", 6)]) (g := gName 6) (by rfl) S_w_right.nd (pi_tup (pv 4)) (blkOk_by (own := [("_law_pair", 6)]) (N := N_w_right) (sc := defScope s_w_right) (by decide +kernel)) (fun _ _ _ _ _ => (pg_name (i := 6) S_w_right.nd rfl (.inl rfl))) (fun _ _ _ _ _ => (pts_one (pt_cmpR (r := rInN K true) (op_notInN hr.units) (pv 6) (pv 1) (by rfl)))) (fun _ _ _ _ _ => (pv 6))) (pe_lst pa_nil) (nomark _)))))) (pss_one (ps_ret pe_bl)) pss_nil)
      (pss_cons (ps_if (PW.pt (pw_or (pt_cmpR (op_neD hr.units) (pe_callTy call_list_of (by rfl) T.m_list (by decide +kernel) (pa_cons (pv 4) pa_nil)) (pe_callB (cr_sortS (by rfl) (un64 hr)) (by rfl) T.m_sorted (by decide +kernel) (pa_cons (pe_callTy (cr_setNT (by rfl) (un64 hr)) (by rfl) T.m_set (by decide +kernel) (pa_cons (pv 4) pa_nil)) pa_nil)) (nomark _)) (pw_or1 (pt_cmpR (op_neE (hu_of hr)) (pe_call G_w_core (hr.mono (by decide)) (by rfl) T.g_w_core T.F_w_core.kp T.b_w_core .nil pass0 (pa_cons (pe_lc (own := [("_law_pair", 6)]) (g := gName 6) (by rfl) S_w_right.nd (pi_tup (pv 1)) (blkOk_by (own := [("_law_pair", 6)]) (N := N_w_right) (sc := defScope s_w_right) (by decide +kernel)) (fun _ _ _ _ _ => (pg_name (i := 6) S_w_right.nd rfl (.inl rfl))) (fun _ _ _ _ _ => (pts_one (pt_cmpR (r := rInN K true) (op_notInN hr.units) (pv 6) (pv 4) (by rfl)))) (fun _ _ _ _ _ => (pv 6))) pa_nil)) (pe_lst pa_nil) (nomark _))))) (pss_one (ps_ret pe_bl)) pss_nil)
      (pss_one (ps_ret (pe_ifExp (pt_cmpR op_eq (pv 2) pe_int (nomark _)) (pe_cmpR op_isN (pv 5) pe_non (nomark _)) (pe_cmpR op_is_bl (pe_call G_w_let hr (by rfl) T.g_w_let T.F_w_let.kp T.b_w_let .nil pass0 (pa_cons (pv 0) (pa_cons (pv 1) (pa_cons (pe_op op_sub (pv 2) pe_int) (pa_cons (pv 5) pa_nil))))) pe_bl (nomark _))))))))))), ?_⟩
    have nkl := nk.length
    rw [List.length_map] at nkl
    refine ⟨_, rfl, _, rfl, n, s, t, ys, ps, zs, rfl, hn, hs, nk, by omega, un, hz, ⟨us, hus⟩, hB, fun r c g gs v H1 g1 l3 ac no' sub nd hr1 hc1 wt ck rs => ?_, fun n3 r H1 g1 hr1 => ?_⟩
    · have em : gs.length = m := by
        have a1 : ¬ gs.length < m := fun z => nl _ z ⟨gs, Nat.le_refl _, ac⟩
        have a2 : ¬ m < gs.length := fun z => no' _ z (ml (by omega))
        omega
      obtain ⟨ws, hg, nkg⟩ := wt
      have lg := nkg.length
      rw [List.length_map] at lg
      refine ⟨_, rfl, _, _, rfl, rfl, _, rfl, ite2 (fun e => ?_) (fun _ => ?_)⟩
      · have e : (3 : Int) < (m : Int) := of_decide_eq_true e
        omega
      have ty1 : TyX K H1 (.ref c) (.type "tuple") := .base (.tup hc1)
      have ty2 : TyX K H1 (.ref g) (.type "tuple") := .base (.tup hg)
      refine ⟨_, rfl, r, _, 0, .str "told", rfl, rfl, .inl (.inl hr1), rfl, rfl, _, rfl, iteF ?_⟩
      refine ⟨_, rfl, r, _, 1, .ref c, rfl, rfl, .inl (.inl hr1), rfl, _, _, _, _, true, rfl, .ty _, ty1, rfl, _, rfl, iteF ?_⟩
      refine ⟨_, rfl, r, _, 1, .ref c, rfl, rfl, .inl (.inl hr1), rfl, c, _, rfl, .inr (.inl (.inl hc1)), rfl, _, rfl, iteF ?_⟩
      refine ⟨_, rfl, r, _, 1, .ref c, rfl, rfl, .inl (.inl hr1), rfl, c, _, rfl, .inl (.inl hc1), rfl, _, _, rfl, _, _, rfl, rfl, ?_⟩
      refine ⟨_, rfl, _, _, _, _, true, rfl, .ty _, ty2, rfl, _, rfl, iteF ?_⟩
      refine ⟨_, rfl, g, _, rfl, .inr (.inl (.inl hg)), _, rfl, rfl, _, rfl, ?_⟩
      refine iteNS (by rw [lg, em]) ?_
      have hs1 := g1.tup hs
      have nk1 := nk.at g1.tups
      refine ⟨_, rfl, g, rfl, ⟨_, .inl (.inl hg)⟩, fun D nD => ?_⟩
      refine lc_tup (xs := ws) (fun j Hz => Hz = upd H1 D (.lst [])) rfl (fun j Hz hj e => by rw [e]; exact .inl (.inl (same_upd nD _ _ hg))) ?_ ?_
      · rintro j x Hz hx rfl
        obtain ⟨kk, hk2, nx⟩ := nkg.get hx
        obtain ⟨p, hp, rfl⟩ : ∃ p, gs[j]? = some p ∧ kk = sayK p := by
          rw [List.getElem?_map] at hk2
          cases e : gs[j]? with
          | none => rw [e] at hk2; cases hk2
          | some y => rw [e] at hk2; exact ⟨y, rfl, (Option.some.inj hk2).symm⟩
        have sD := same_upd (o := .lst []) nD
        refine ⟨rfl, _, rfl, _, rfl, s, ys, sayK p, ps.map sayK, rfl, .inr (.inl (.inl (sD _ _ hs1))), nx.at (.same sD), nk1.at (.same sD), Nat.le_trans (say_depth p) (by decide), _, rfl, ite2 (fun e => ?_) (fun _ => rfl)⟩
        have e : (!decide (sayK p ∈ ps.map sayK)) = true := e
        rw [decide_eq_true (List.mem_map_of_mem (sub p (List.mem_of_getElem? hp)))] at e
        cases e
      rintro Hz rfl
      have sD := same_upd (o := .lst []) nD
      refine ⟨sz (by show 0 ≤ 1000; decide), fun c0 n0 => ?_⟩
      refine fresh_fin (.lst []) n0 fun H3 s3 h3 => ?_
      refine ⟨D, c0, [], rfl, rfl, .inl (.inl (s3 _ _ upd_same)), .inl (.inl h3), _, rfl, iteF ?_⟩
      have s13 := sD.trans s3
      have hg3 := s13 _ _ hg
      have nkg3 := nkg.at (.same s13)
      -- list(gone) != sorted(set(gone))
      obtain ⟨es, rfl, ek⟩ := ents_say nkg3
      rw [ek] at nkg3
      have le : es.length = gs.length := by have := congrArg List.length ek; rw [List.length_map, List.length_map] at this; exact this.symm
      have nke : ∀ x ∈ es, Nk H3 (.ref x.1) x.2 := ents_nk nkg3
      have sye : ∀ x ∈ es, ∃ q ∈ gs, x.2 = sayK q := fun x hx => by
        have : x.2 ∈ gs.map sayK := by rw [ek]; exact List.mem_map_of_mem hx
        obtain ⟨q, hq, e⟩ := List.mem_map.mp this
        exact ⟨q, hq, e.symm⟩
      refine ⟨_, rfl, g, _, rfl, .inr (.inl (.inl hg3)), fun L nL => ?_⟩
      have s4 := same_upd (o := .lst (es.map fun p => V.ref p.1)) nL
      have h4 := upd_same (H := H3) (a := L) (o := .lst (es.map fun p => V.ref p.1))
      have hg4 := s4 _ _ hg3
      generalize upd H3 L (.lst (es.map fun p => V.ref p.1)) = H4 at s4 h4 hg4 ⊢
      have shc : SeqAt.shaped (.list (NestedKey.datas (gs.map sayK))) = true := shaped_says fun p hp => pl p (sub p hp)
      rw [show (cxOf CX0 P w K mg base N_w_right "_law_right" (defScope s_w_right) T.f_w_right cdv A outer s0 H E).nox.w = w from rfl]
      refine ⟨_, rfl, g, es, rfl, .inl (.inl hg4), fun x hx => ⟨(nke x hx).at (.same s4), by obtain ⟨q, _, e⟩ := sye x hx; rw [e]; exact say_depth q⟩, by omega, fun S2 M nS2 m1 m2 ndM => ?_⟩
      have t3 : Same H4 (upd H4 S2 (My.SetO w S2 M)) := same_upd nS2
      have h6 : upd H4 S2 (My.SetO w S2 M) S2 = some (My.SetO w S2 M) := upd_same
      generalize upd H4 S2 (My.SetO w S2 M) = H6 at t3 h6 ⊢
      refine ⟨S2, M, rfl, h6, fun x hx => ⟨(nke x (m1 x hx)).at (.same (s4.trans t3)), by obtain ⟨q, _, e⟩ := sye x (m1 x hx); rw [e]; exact say_depth q⟩, say_sbl (fun k hk => by obtain ⟨x, hx, rfl⟩ := List.mem_map.mp hk; obtain ⟨q, _, e⟩ := sye x (m1 x hx); exact ⟨q, e⟩), fun M' b pm2 nb => ?_⟩
      have mm2 : ∀ x ∈ M', x ∈ M := fun x hx => pm2.mem_iff.mp hx
      have t4 := same_upd (o := .lst ((srt (M'.map fun q => V.ref q.1) (M'.map (·.2))).map Prod.fst)) nb
      have h7 := upd_same (H := H6) (a := b) (o := .lst ((srt (M'.map fun q => V.ref q.1) (M'.map (·.2))).map Prod.fst))
      generalize upd H6 b (.lst ((srt (M'.map fun q => V.ref q.1) (M'.map (·.2))).map Prod.fst)) = H5 at t4 h7 ⊢
      have s5 := t3.trans t4
      obtain ⟨ls2, k1, k2', k3', k4⟩ := srt_ok (M := M') (fun x hx => (nke x (m1 x (mm2 x hx))).at (.same (s4.trans s5))) (fun x hx => by obtain ⟨q, _, e⟩ := sye x (m1 x (mm2 x hx)); exact ⟨q, e⟩) ((pm2.map (·.2)).nodup_iff.mpr ndM)
      have els : ls2 = gs.map sayK := rs_unique k2' rs fun k => by
        rw [k3', (pm2.map (·.2)).mem_iff, ek]
        exact ⟨fun h => by obtain ⟨x, hx, rfl⟩ := List.mem_map.mp h; exact List.mem_map_of_mem (m1 x hx), fun h => by obtain ⟨x, hx, rfl⟩ := List.mem_map.mp h; exact m2 x hx⟩
      subst els
      have nkgS := nkg3.at (.same (s4.trans s5))
      rw [← ek] at nkgS
      refine ⟨_, _, .lst (.inl (.inl (s5 _ _ h4))) nkgS.dp, .lst (.inl (.inl h7)) k1.dp, shc, shc, _, rfl, ite2 (fun e => ?_) (fun _ => ?_)⟩
      · rw [PyData.eqv, eqv_keys, NestedKey.beqAll_self] at e
        cases e
      have sA := s4.trans s5
      have nkg5 := nkg3.at (.same sA)
      rw [← ek] at nkg5
      have gH5 : Gk (tbs T) H H5 := g1.trans (.of_same (s13.trans sA) g1.2)
      have hs5 := gH5.tup hs
      have nk5 := nk.at gH5.tups
      have hg5 := sA _ _ hg3
      refine ⟨_, rfl, s, rfl, ⟨_, .inl (.inl hs5)⟩, fun E2 nE => ?_⟩
      refine lc_tup (xs := ys) (fun k Hz => ∃ acc, Same H5 Hz ∧ Hz E2 = some (.lst acc) ∧ NkAll Hz acc ((Out (ps.take k) gs).map sayK) ∧ acc.length ≤ k) ⟨[], same_upd nE, upd_same, by rw [List.take_zero]; exact .nil, Nat.le_refl _⟩ (fun k Hz hk ⟨acc, sz', _⟩ => .inl (.inl (sz' _ _ hs5))) ?_ ?_
      · rintro k v Hz hv ⟨acc, sz', hE, nka, la⟩
        have hk := (List.getElem?_eq_some_iff.mp hv).1
        obtain ⟨p, hp⟩ : ∃ p, ps[k]? = some p := ⟨_, List.getElem?_eq_getElem (by omega)⟩
        obtain ⟨y, hy, hyy⟩ := say_at (nk5.at (.same sz')) hp
        rw [hv] at hy
        cases hy
        refine ⟨rfl, _, rfl, _, rfl, g, _, sayK p, _, rfl, .inr (.inl (.inl (sz' _ _ hg5))), nk_say hyy, nkg5.at (.same sz'), Nat.le_trans (say_depth p) (by decide), _, rfl, ite2 (fun e => ?_) (fun e => ?_)⟩
        · have e2 : p ∉ gs := fun h => by
            have e : (!decide (sayK p ∈ gs.map sayK)) = true := e
            rw [decide_eq_true (List.mem_map_of_mem h)] at e
            cases e
          refine ⟨_, rfl, acc, hE, small1000 (by omega), acc ++ [.ref y], same_fresh nE sz', upd_same, ?_, by rw [List.length_append]; exact Nat.succ_le_succ la⟩
          rw [out_take hp, if_neg e2, List.map_append]
          exact (nka.at (tups_lst hE)).app (.cons (nk_say (tups_lst hE _ _ hyy)) .nil)
        · have e2 : p ∈ gs := by
            refine Classical.byContradiction fun n => e ?_
            show (!decide (sayK p ∈ gs.map sayK)) = true
            rw [decide_eq_false fun h => ?_]
            · rfl
            · obtain ⟨q, hq, eq⟩ := List.mem_map.mp h
              rw [sayK_inj eq] at hq
              exact n hq
          refine ⟨acc, sz', hE, ?_, by omega⟩
          rw [out_take hp, if_pos e2, List.append_nil]
          exact nka
      rintro Hz ⟨acc, sz', hE, nka, la⟩
      rw [nkl, List.take_of_length_le (Nat.le_refl _)] at nka
      have lo : (Out ps gs).length ≤ ps.length := List.length_filter_le _ _
      refine ⟨E2, acc, Out ps gs, rfl, .inr hE, nka, by omega, fun p hp => pl p (mem_out.mp hp).1, fun C cu cs H6 s6 nC hC nkC subC fix lC full => ?_⟩
      have cs0 : cs = [] := Classical.byContradiction fun z => ring_of z fix (ac.sub subC)
      subst cs0
      cases nkC
      refine ⟨sz (by show 0 ≤ 1000; decide), fun c1 n1 => ?_⟩
      refine fresh_fin (.lst []) n1 fun H7 s7 h7 => ?_
      refine ⟨C, c1, [], rfl, rfl, .inl (.inl (s7 _ _ hC)), .inl (.inl h7), _, rfl, iteF ?_⟩
      have gH7 : Gk (tbs T) H H7 := gH5.trans (.of_same (sz'.trans (s6.trans s7)) gH5.2)
      have sB : Same H1 H7 := s13.trans (sA.trans (sz'.trans (s6.trans s7)))
      refine ⟨_, rfl, rfl, _, rfl, ite2 (fun e => ?_) (fun e => ?_)⟩
      · have e : m = 0 := by have := V.int.inj (of_decide_eq_true e); omega
        rcases ck with ⟨_, rfl⟩ | ⟨z, _⟩
        · exact ⟨_, rfl, rfl, q _ gH7⟩
        · exact absurd (List.length_eq_zero_iff.mp (em.trans e)) z
      · have e : m ≠ 0 := fun z => e (decide_eq_true (by rw [z]; rfl))
        rcases ck with ⟨z, _⟩ | ⟨_, d, dq, wd, cf⟩
        · rw [z] at em; exact absurd em.symm e
        · have em1 : gs.length - 1 = m - 1 := by rw [em]
          rw [em1] at cf
          have hu7 : ∃ us, H7 t = some (.lst us) := ⟨us, gH7.1 _ _ hus (fun ps z => by cases z)⟩
          refine ⟨_, rfl, _, rfl, _, rfl, _, _, rfl, rfl, _, rfl, m - 1, .ref n, s, t, v, ys, ps, d, by rw [show ((m - 1 : Nat) : Int) = (m : Int) - 1 by omega]; rfl, by omega, gH7.tup hs, nk.at gH7.tups, by omega, dq _ (.same sB) hu7, wd, gH7.2, fun b H8 g8 eb => ?_⟩
          have eb : b = true := eb.mpr (cf [])
          subst eb
          exact ⟨_, _, rfl, rfl, q _ (gH7.trans g8)⟩
    · have m4 : m = 4 := by
        refine Classical.byContradiction fun z => n3 ((ml (by omega)).more (by omega))
      subst m4
      have hu1 : ∃ us, H1 t = some (.lst us) := ⟨us, g1.1 _ _ hus (fun ps z => by cases z)⟩
      have fN : Fit (.str "no") 24 0 := fit_text (n := 2) (by decide) (by decide)
      have fG : Fit (.str "gone") 44 0 := fit_text (n := 4) (by decide) (by decide)
      have ft := (Fit.cons fN (Fit.cons fG fits_nil)).tup
      have rt : r ≠ t := fun z => by obtain ⟨u, e⟩ := hu1; rw [z, e] at hr1; cases hr1
      refine ⟨_, rfl, _, _, rfl, rfl, _, rfl, ite2 (fun _ => ?_) (fun e => absurd rfl e)⟩
      refine ⟨_, rfl, false, t, .ref r, _, rfl, .tup rt hr1 (.cons (.str _) (.cons (.str _) .nil)), ft.sh, Nat.le_trans ft.dp (by decide), Nat.le_trans ft.wt (by decide), ?_⟩
      refine ⟨sz (by show 2 ≤ 1000; decide), fun p np => ?_⟩
      have sp := same_upd (o := .tup [.str "no", .str "gone"]) np
      have pt : p ≠ t := fun z => by obtain ⟨u, e⟩ := hu1; rw [z, e] at np; cases np
      refine ⟨false, t, .ref p, _, rfl, .tup pt upd_same (.cons (.str _) (.cons (.str _) .nil)), ft.sh, Nat.le_trans ft.dp (by decide), Nat.le_trans ft.wt (by decide), rfl, ?_⟩
      show Q (.bl (decide _)) _
      rw [decide_eq_true rfl]
      exact q _ (g1.trans (.of_same sp g1.2))
end
end L45

set_option Elab.async false
set_option linter.all false
set_option maxRecDepth 100000
set_option maxHeartbeats 2000000
namespace L45
open PySem PySem.Spec PyProof.Rows L2 LT
open My hiding Tbs Gk Tk
section
variable {P : Program} {w : World} {K : PySem.W.Frag} {mg : Str → Option Value} {base : Heap}
theorem feed_kp {Ts : TL} {H H' : Hp} {t c : Addr} {n : Nat} (h : Tbs Ts H) (f : FeedC H t c n) (k : Kp t H H') : Tbs Ts H' := by
  obtain ⟨ns, sp, re, ca, e1, _⟩ := f
  refine ⟨fun P hP => ?_, fun e he => ?_, h.ap, h.fn⟩
  · obtain ⟨ps, a, b⟩ := h.gen P hP
    exact ⟨ps, k _ _ (fun z => by rw [z, e1] at a; cases a) a, b⟩
  · obtain ⟨ps, a, b, d⟩ := h.lam e he
    refine ⟨ps, k _ _ (fun z => by rw [z, e1] at a; cases a) a, b, fun pos cv hc => ?_⟩
    obtain ⟨c0, x1, x2⟩ := d pos cv hc
    exact ⟨c0, x1, k _ _ (fun z => by rw [z, e1] at x2; unfold LamX.CodeO at x2; cases x2) x2⟩
/-- what is frozen stays -/
def Fz (H H' : Hp) : Prop := ∀ b o u, H b = some (.frz o u) → H' b = some (.frz o u)
theorem feed_gk {Ts : TL} {H H' : Hp} {t c : Addr} {n : Nat} (h : FeedC H t c n) (k : Gk Ts H H') : FeedC H' t c n := by
  obtain ⟨ns, sp, re, ca, h1, h2, h3⟩ := h
  exact ⟨ns, sp, re, ca, k.1 _ _ h1 (fun ps z => by cases z), k.1 _ _ h2 (fun ps z => by cases z), h3⟩
theorem rs_nodup {ps : List (Str × Str)} (h : Rs (ps.map sayK)) : ps.Nodup := by
  have h : List.Pairwise (fun a b => befK a b = true) (ps.map sayK) := h
  rw [List.pairwise_map] at h
  refine h.imp fun {a b} e z => ?_
  rw [z, show befK (sayK b) (sayK b) = false from lex_irrefl _] at e
  cases e
/-- a case that was drawn: names, sayings -/
structure Kc (ps : List (Str × Str)) (zs : List Str) : Prop where
  l12 : ps.length ≤ 12
  l9 : zs.length ≤ 9
  nd : ps.Nodup
  inp : ∀ x ∈ ps, InP zs x
  nm : ∀ z ∈ zs, Nm z
def CaF (H0 H : Hp) (v : V) (b : Addr) (ps : List (Str × Str)) : Prop := ∃ (r nA : Addr) (so : Obj) (ys : List V) (zs : List Str), v = .ref r ∧ H r = some (.tup [.ref nA, .ref b]) ∧ H nA = some (.tup (zs.map V.str)) ∧ H b = some (.frz so (.tup ys)) ∧ TD so ∧ H0 b = none ∧ NkAll H ys (ps.map sayK) ∧ Kc ps zs
def CaT (H : Hp) (v : V) (ps : List (Str × Str)) : Prop := ∃ (r nA b : Addr) (ys : List V) (zs : List Str), v = .ref r ∧ H r = some (.tup [.ref nA, .ref b]) ∧ H nA = some (.tup (zs.map V.str)) ∧ H b = some (.tup ys) ∧ NkAll H ys (ps.map sayK) ∧ Kc ps zs
theorem CaF.kp {H0 H H' : Hp} {t c b : Addr} {n : Nat} {v : V} {ps : List (Str × Str)} (h : CaF H0 H v b ps) (f : FeedC H t c n) (k : Kp t H H') : CaF H0 H' v b ps := by
  obtain ⟨r, nA, so, ys, zs, e, h1, h2, h3, td, n0, nk, kc⟩ := h
  have tk := tups_kp f k
  exact ⟨r, nA, so, ys, zs, e, tk _ _ h1, tk _ _ h2, k _ _ (fun z => by obtain ⟨zl, hzl⟩ := feed_lst f; rw [z, hzl] at h3; cases h3) h3, td, n0, nk.at tk, kc⟩
theorem CaF.same {H0 H H' : Hp} {b : Addr} {v : V} {ps : List (Str × Str)} (h : CaF H0 H v b ps) (s : Same H H') : CaF H0 H' v b ps := by
  obtain ⟨r, nA, so, ys, zs, e, h1, h2, h3, td, n0, nk, kc⟩ := h
  exact ⟨r, nA, so, ys, zs, e, s _ _ h1, s _ _ h2, s _ _ h3, td, n0, nk.at (.same s), kc⟩
theorem CaT.at {H H' : Hp} {v : V} {ps : List (Str × Str)} (h : CaT H v ps) (t : Tups H H') : CaT H' v ps := by
  obtain ⟨r, nA, b, ys, zs, e, h1, h2, h3, nk, kc⟩ := h
  exact ⟨r, nA, b, ys, zs, e, t _ _ h1, t _ _ h2, t _ _ h3, nk.at t, kc⟩
def FewIs (ps : List (Str × Str)) (m : Nat) : Prop := m ≤ 4 ∧ (m < 4 → Lets ps m) ∧ ∀ e, e < m → ¬ Lets ps e
def spLaw {K : PySem.W.Frag} {mg : Str → Option Value} (T : Tx K mg) : Sp := fun vs H Q _ => ∃ (a : Addr) (ns : List Int), vs = [.ref a] ∧ SqL K H a (ns.map V.int) ∧ ns.length ≤ 63 ∧ Tbs (tbs T) H ∧ ∀ H', Q (.bl true) H'
theorem ok_law (T : Tx K mg) (B : Tb T base) : GU.FnG P w K mg base CX0 17 T.f_law T.d_law ["_law_script"] (spLaw T) := by
  have G_w_feed : FnOk P w K mg base CX0 1 T.f_w_feed T.d_w_feed ["_law_script"] (spFeed K) := ok_feed T
  have G_w_draw : FnOk P w K mg base CX0 1 T.f_w_draw T.d_w_draw ["_law_feed_here", "_law_many"] (spDraw) := ok_draw T
  have G_w_knotted : FnOk P w K mg base CX0 4 T.f_w_knotted T.d_w_knotted ["_law_feed_here"] (spKnot) := ok_knot T
  have G_w_fewest : FnOk P w K mg base CX0 2 T.f_w_fewest T.d_w_fewest ["_law_some"] (spFew) := ok_few T
  have G_w_right : GU.FnG P w K mg base CX0 16 T.f_w_right T.d_w_right ["_law_names_here", "_law_some", "_law_due"] (spRight T) := ok_right T B
  refine GU.okG T.F_law S_law (fun vs H Q E h => ?_) (fun cdv A outer s H vs Q E gd hr h => ?_)
  · obtain ⟨a, ns, rfl, _⟩ := h
    rfl
  · obtain ⟨a, ns, rfl, hS, hlen, hB, q⟩ := h
    refine ⟨_, (pss_cons (ps_set (i := 1) S_law.nd rfl (.inr rfl) (pe_call G_w_feed (hr.mono (by decide)) (by rfl) T.g_w_feed T.F_w_feed.kp T.b_w_feed .nil pass0 (pa_cons (pv 0) pa_nil)))
      (pss_cons (ps_setLc (i := 2) (own := [("_law_turn", 8)]) (g := gName 8) (tt := tYes) (by rfl) S_law.nd rfl rfl (sw_true rfl rfl rfl (by decide +kernel)) (pi_range1 (by rfl) T.m_range (pa_cons pe_int pa_nil)) (blkOk_by (own := [("_law_turn", 8)]) (N := N_law) (sc := defScope s_law) (by decide +kernel)) (fun _ _ _ _ _ => (pg_name (i := 8) S_law.nd rfl (.inl rfl))) (fun _ _ _ _ _ => pts_nil) (fun _ _ _ _ _ => (pe_call G_w_knotted (hr.mono (by decide)) (by rfl) T.g_w_knotted T.F_w_knotted.kp T.b_w_knotted .nil pass0 (pa_cons (pv 1) pa_nil))))
      (pss_cons (ps_setLc (i := 5) (own := [("_law_names_here", 3), ("_law_some", 4)]) (g := gTup K 2 (gCons (gName 3) (gCons (gName 4) gNil))) (tt := tYes) (by rfl) S_law.nd rfl rfl (sw_true rfl rfl rfl (by decide +kernel)) (pi_list (pv 2)) (blkOk_by (own := [("_law_names_here", 3), ("_law_some", 4)]) (N := N_law) (sc := defScope s_law) (by decide +kernel)) (fun _ _ _ _ _ => (pg_tup rfl (pgs_cons (pg_name (i := 3) S_law.nd rfl (.inl rfl)) (pgs_cons (pg_name (i := 4) S_law.nd rfl (.inl rfl)) pgs_nil)))) (fun _ _ _ _ _ => pts_nil) (fun _ _ _ _ _ => (pe_call G_w_fewest (hr.mono (by decide)) (by rfl) T.g_w_fewest T.F_w_fewest.kp T.b_w_fewest .nil pass0 (pa_cons (pv 4) pa_nil))))
      (pss_cons (ps_for PassesOwn.never rfl (pi_tup (pe_thaw (pe_thaw (pe_tup (pa_cons pe_int (pa_cons pe_int (pa_cons pe_int pa_nil))))))) (pg_name (i := 6) S_law.nd rfl (.inl rfl))
      (pss_cons (ps_asg (pe_ix ix_list (pv 2) (pv 6) (fun _ _ => rfl)) (pg_tup rfl (pgs_cons (pg_name (i := 3) S_law.nd rfl (.inl rfl)) (pgs_cons (pg_name (i := 4) S_law.nd rfl (.inl rfl)) pgs_nil))))
      (pss_cons (ps_set (i := 7) S_law.nd rfl (.inl rfl) (pe_callB (call_reprQ gd hr) (by rfl) T.m_repr (by decide +kernel) (pa_cons (pe_tup (pa_cons (pv 3) (pa_cons (pv 4) pa_nil))) pa_nil)))
      (pss_one (ps_if (PW.pt (pw_or (pt_not (pt_val (GU.pe_callG G_w_right gd hr (by rfl) T.g_w_right T.F_w_right.kp T.b_w_right .nil pass0 (pa_cons (pv 3) (pa_cons (pv 4) (pa_cons (pe_ix ix_list (pv 5) (pv 6) (fun _ _ => rfl)) pa_nil)))))) (pw_or1 (pt_cmpR op_ne (pe_callB (call_reprQ gd hr) (by rfl) T.m_repr (by decide +kernel) (pa_cons (pe_tup (pa_cons (pv 3) (pa_cons (pv 4) pa_nil))) pa_nil)) (pv 7) (nomark _))))) (pss_one (ps_ret pe_bl)) pss_nil)))))
      (pss_one (ps_ret pe_bl)))))), ?_⟩
    refine ⟨_, rfl, a, ns, rfl, hS, fun t c H1 s1 n1 hT1 => ?_⟩
    have hB1 : Tbs (tbs T) H1 := hB.same s1
    refine ⟨2, rfl, by decide, by decide, fun L nL => ?_⟩
    have Lt := (hT1.ne nL).1
    have Lc := (hT1.ne nL).2
    have eL := same_upd (o := .lst []) nL
    refine lc_range (lo := 0) (n := 2) (fun j Hx => ∃ (vs : List V) (bs : List Addr) (qs : List (List (Str × Str))), Hx L = some (.lst vs) ∧ vs.length = j ∧ bs.length = j ∧ qs.length = j ∧ bs.Nodup ∧ (∀ (i : Nat) v b ps, vs[i]? = some v → bs[i]? = some b → qs[i]? = some ps → CaF H Hx v b ps) ∧ FeedC Hx t c (100 + 100 * j) ∧ Tbs (tbs T) Hx ∧ Kp t H1 Hx) ⟨[], [], [], upd_same, rfl, rfl, rfl, .nil, (fun i v b ps h => by simp at h), (hT1.same eL).mono (by omega), hB1.same eL, .of_same eL⟩ ?_ ?_
    · rintro j Hx hj ⟨vs, bs, qs, hL, lv, lb, lq, ndb, ca, hTx, hBx, kx⟩
      refine ⟨rfl, tYesT ⟨_, rfl, t, c, _, rfl, hTx, by omega, fun r nA b so ys ps zs H2 hr2 hN2 hb2 td nb nk rs l12 l9 nd inp nm hT2 hK2 => ?_⟩⟩
      have hL2 := hK2 _ _ Lt hL
      have sL : ∀ a o, a ≠ L → H2 a = some o → upd H2 L (.lst (vs ++ [.ref r])) a = some o := fun a o n e => by rw [upd_ne n]; exact e
      have tL := tups_lst (o := .lst (vs ++ [.ref r])) hL2
      have bx : H b = none := none_of s1 (kp_noneA kx (fun z => by obtain ⟨zl, hzl⟩ := feed_lst hT2; rw [z, hzl] at hb2; cases hb2) nb)
      have bl : b ≠ L := fun z => by rw [z, hL2] at hb2; cases hb2
      have push : ∀ {v b ps}, CaF H H2 v b ps → CaF H (upd H2 L (.lst (vs ++ [.ref r]))) v b ps := fun {v b ps} ⟨r', nA', so', ys', zs', e, h1, h2, h3, td', n0, nk', kc⟩ => ⟨r', nA', so', ys', zs', e, tL _ _ h1, tL _ _ h2, sL _ _ (fun z => by rw [z, hL2] at h3; cases h3) h3, td', n0, nk'.at tL, kc⟩
      refine ⟨vs, hL2, small1000 (by omega), vs ++ [.ref r], bs ++ [b], qs ++ [ps], upd_same, by rw [List.length_append, lv]; rfl, by rw [List.length_append, lb]; rfl, by rw [List.length_append, lq]; rfl, ?_, fun i v b' ps' hv hb' hq' => ?_, (hT2.updO Lt Lc).mono (by omega), (feed_kp hBx hTx hK2).lst hL2, kp_fresh nL (kx.trans hK2)⟩
      · refine List.nodup_append.mpr ⟨ndb, by simp, fun x hx y hy z => ?_⟩
        rw [List.mem_singleton.mp hy] at z
        subst z
        obtain ⟨i, hi⟩ := List.mem_iff_getElem?.mp hx
        have il := (List.getElem?_eq_some_iff.mp hi).1
        obtain ⟨_, _, _, _, _, _, _, _, h3, _⟩ := ca i _ x _ (List.getElem?_eq_getElem (by omega)) hi (List.getElem?_eq_getElem (by omega))
        rw [h3] at nb
        cases nb
      · by_cases ij : i < j
        · rw [List.getElem?_append_left (by omega)] at hv hb' hq'
          exact push ((ca i v b' ps' hv hb' hq').kp hTx hK2)
        · have il := (List.getElem?_eq_some_iff.mp hv).1
          rw [List.length_append] at il
          have il : i < vs.length + 1 := il
          have ei : i = j := by omega
          rw [List.getElem?_append_right (by omega), show i - vs.length = 0 by omega] at hv
          rw [List.getElem?_append_right (by omega), show i - bs.length = 0 by omega] at hb'
          rw [List.getElem?_append_right (by omega), show i - qs.length = 0 by omega] at hq'
          cases hv; cases hb'; cases hq'
          exact push ⟨r, nA, so, ys, zs, rfl, hr2, hN2, hb2, td, bx, nk, l12, l9, rs_nodup rs, inp, nm⟩
    · rintro Hx ⟨vs, bs, qs, hL, lv, lb, lq, ndb, ca, hTx, hBx, kx⟩
      refine ⟨_, rfl, L, rfl, ⟨_, .inl (.inl hL)⟩, fun D nD => ?_⟩
      have eD := same_upd (o := .lst []) nD
      refine lc_list (xs := vs) (fun k Hz => ∃ ms : List Nat, Same Hx Hz ∧ Hz D = some (.lst (ms.map fun m : Nat => V.int (m : Int))) ∧ ms.length = k ∧ ∀ (i m : Nat) (ps : List (Str × Str)), ms[i]? = some m → qs[i]? = some ps → FewIs ps m) ⟨[], eD, upd_same, rfl, fun i m ps h => by simp at h⟩ (fun k Hz hk ⟨ms, sz', _⟩ => .inl (.inl (sz' _ _ hL))) ?_ ?_
      · rintro k v Hz hv ⟨ms, sz', hD, lm, few⟩
        have hk := (List.getElem?_eq_some_iff.mp hv).1
        have eb : bs[k]? = some bs[k] := List.getElem?_eq_getElem (by omega)
        have eq : qs[k]? = some qs[k] := List.getElem?_eq_getElem (by omega)
        obtain ⟨r, nA, so, ys, zs, rfl, h1, h2, h3, td, n0, nk, kc⟩ := (ca k v _ _ hv eb eq).same sz'
        have pl : ∀ p ∈ qs[k], Plain p.1 ∧ Plain p.2 := fun p hp => ⟨(kc.nm _ (kc.inp p hp).1).plain, (kc.nm _ (kc.inp p hp).2.1).plain⟩
        refine ⟨r, _, rfl, .inl (.inl h1), rfl, _, _, rfl, _, _, rfl, rfl, rfl, tYesT ⟨_, rfl, bs[k], so, ys, qs[k], rfl, h3, td, nk, kc.l12, kc.nd, pl, fun m H3 s3 m4 ml nl => ?_⟩⟩
        have hD3 := s3 _ _ hD
        refine ⟨_, hD3, small1000 (by rw [List.length_map]; omega), ms ++ [m], same_fresh nD (sz'.trans s3), by rw [upd_same, List.map_append]; rfl, by rw [List.length_append, lm]; rfl, fun i m' ps' hm hp => ?_⟩
        by_cases ik : i < k
        · rw [List.getElem?_append_left (by omega)] at hm
          exact few i m' ps' hm hp
        · have il := (List.getElem?_eq_some_iff.mp hm).1
          rw [List.length_append] at il
          have il : i < ms.length + 1 := il
          have ei : i = k := by omega
          rw [List.getElem?_append_right (by omega), show i - ms.length = 0 by omega] at hm
          subst ei
          rw [eq] at hp
          cases hm; cases hp
          exact ⟨m4, ml, nl⟩
      · rintro Hz ⟨ms, sz', hD, lm, few⟩
        rw [lv] at lm
        have caz : ∀ (i : Nat) v b ps, vs[i]? = some v → bs[i]? = some b → qs[i]? = some ps → CaF H Hz v b ps := fun i v b ps a1 a2 a3 => (ca i v b ps a1 a2 a3).same sz'
        have e0 : bs[0]? = some bs[0] := List.getElem?_eq_getElem (by omega)
        have e1 : bs[1]? = some bs[1] := List.getElem?_eq_getElem (by omega)
        have ne01 : bs[0] ≠ bs[1] := List.pairwise_iff_getElem.mp ndb 0 1 (by omega) (by omega) (by omega)
        obtain ⟨r0, nA0, so0, ys0, zs0, ev0, a1, a2, a3, td0, n00, nk0, kc0⟩ := caz 0 _ _ _ (List.getElem?_eq_getElem (by omega)) e0 (List.getElem?_eq_getElem (by omega))
        obtain ⟨r1, nA1, so1, ys1, zs1, ev1, b1, b2, b3, td1, n01, nk1, kc1⟩ := caz 1 _ _ _ (List.getElem?_eq_getElem (by omega)) e1 (List.getElem?_eq_getElem (by omega))
        generalize bs[0] = c0 at *
        generalize bs[1] = c1 at *
        have thw : ∀ {b : Addr} {o : HO}, Hz b = some o → (∀ ob u, o ≠ .frz ob u) → upd (upd Hz c0 (.tup ys0)) c1 (.tup ys1) b = some o := fun {b o} e n => by
          rw [upd_ne (fun z => by rw [z, b3] at e; exact n _ _ (Option.some.inj e).symm), upd_ne (fun z => by rw [z, a3] at e; exact n _ _ (Option.some.inj e).symm)]
          exact e
        have tpw : Tups Hz (upd (upd Hz c0 (.tup ys0)) c1 (.tup ys1)) := fun b xs e => thw e fun _ _ z => by cases z
        have hB4 : Tbs (tbs T) (upd (upd Hz c0 (.tup ys0)) c1 (.tup ys1)) := hB.keep fun b o e n _ => by
          rw [upd_ne (fun z => by rw [z, n01] at e; cases e), upd_ne (fun z => by rw [z, n00] at e; cases e)]
          refine sz' _ _ (kx _ _ (fun z => ?_) (s1 _ _ e))
          obtain ⟨yl, hyl⟩ := feed_lst hT1
          have := s1 _ _ e
          rw [z, hyl] at this
          exact n _ (Option.some.inj this).symm
        obtain ⟨tl, htl⟩ := feed_lst (hTx.same sz')
        have ht4 := thw htl (fun _ _ z => by cases z)
        have hL4 := thw (sz' _ _ hL) (fun _ _ z => by cases z)
        have hD4 := thw hD (fun _ _ z => by cases z)
        have ca4 : ∀ (i : Nat) v ps, i < 2 → vs[i]? = some v → qs[i]? = some ps → CaT (upd (upd Hz c0 (.tup ys0)) c1 (.tup ys1)) v ps := fun i v ps i2 hv hp => by
          rcases (show i = 0 ∨ i = 1 by omega) with rfl | rfl
          · have ev : v = vs[0] := by rw [List.getElem?_eq_getElem (by omega)] at hv; exact (Option.some.inj hv).symm
            have ep : ps = qs[0] := by rw [List.getElem?_eq_getElem (by omega)] at hp; exact (Option.some.inj hp).symm
            rw [ev, ep]
            exact ⟨r0, nA0, c0, ys0, zs0, ev0, tpw _ _ a1, tpw _ _ a2, by rw [upd_ne ne01]; exact upd_same, nk0.at tpw, kc0⟩
          · have ev : v = vs[1] := by rw [List.getElem?_eq_getElem (by omega)] at hv; exact (Option.some.inj hv).symm
            have ep : ps = qs[1] := by rw [List.getElem?_eq_getElem (by omega)] at hp; exact (Option.some.inj hp).symm
            rw [ev, ep]
            exact ⟨r1, nA1, c1, ys1, zs1, ev1, tpw _ _ b1, tpw _ _ b2, upd_same, nk1.at tpw, kc1⟩
        refine ⟨c0, so0, ys0, a3, n00, c1, so1, ys1, by rw [upd_ne ne01.symm]; exact b3, n01, ?_⟩
        generalize upd (upd Hz c0 (.tup ys0)) c1 (.tup ys1) = H3 at hB4 ht4 hL4 hD4 ca4 ⊢
        clear caz ca a1 a2 a3 b1 b2 b3 nk0 nk1 kc0 kc1 thw tpw
        refine ⟨sz (by show 3 ≤ 1000; decide), fun p np => ?_⟩
        refine fresh_fin (.tup [V.int 0, V.int 1, V.int 0]) np fun H4 s4 h4 => ?_
        refine ⟨p, rfl, ⟨_, .inl (.inl h4)⟩, ?_⟩
        have hB5 := hB4.same s4
        have hL5 := s4 _ _ hL4
        have hD5 := s4 _ _ hD4
        have ht5 := s4 _ _ ht4
        refine for_tup (xs := [V.int 0, V.int 1, V.int 0]) (fun i σ Hy => (∃ y3 y4 y6 y7 y8, σ = [some (.ref a), some (.ref t), some (.ref L), y3, y4, some (.ref D), y6, y7, y8]) ∧ Gk (tbs T) H4 Hy) ⟨⟨_, _, _, _, _, rfl⟩, .refl hB5⟩ (fun i σ Hy hi ⟨_, gy⟩ => .inl (.inl (gy.tup h4))) ?_ ?_
        · rintro i x σ Hy hx ⟨⟨y3, y4, y6, y7, y8, rfl⟩, gy⟩
          obtain ⟨at_, rfl, l2⟩ : ∃ n : Nat, x = .int (n : Int) ∧ n < 2 := by
            have := List.mem_of_getElem? hx
            simp only [List.mem_cons, List.not_mem_nil, or_false] at this
            rcases this with rfl | rfl | rfl
            · exact ⟨0, rfl, by decide⟩
            · exact ⟨1, rfl, by decide⟩
            · exact ⟨0, rfl, by decide⟩
          have hLy := gy.1 _ _ hL5 (fun ps z => by cases z)
          have hDy := gy.1 _ _ hD5 (fun ps z => by cases z)
          have hty := gy.1 _ _ ht5 (fun ps z => by cases z)
          have ev : vs[at_]? = some vs[at_] := List.getElem?_eq_getElem (by omega)
          have eq : qs[at_]? = some qs[at_] := List.getElem?_eq_getElem (by omega)
          have em : ms[at_]? = some ms[at_] := List.getElem?_eq_getElem (by omega)
          have fw := few at_ _ _ em eq
          obtain ⟨r, nA, b, ys, zs, er, k1, k2, k3, nk, kc⟩ := ((ca4 at_ _ _ l2 ev eq).at (.same s4)).at gy.tups
          rw [er] at ev
          generalize qs[at_] = ps at fw nk kc
          generalize ms[at_] = m at fw em
          have nps : ∀ p ∈ ps, Nm p.1 ∧ Nm p.2 := fun p hp => ⟨kc.nm _ (kc.inp p hp).1, kc.nm _ (kc.inp p hp).2.1⟩
          have pl : ∀ p ∈ ps, Plain p.1 ∧ Plain p.2 := fun p hp => ⟨(nps p hp).1.plain, (nps p hp).2.plain⟩
          have l12 := kc.l12
          have l9 := kc.l9
          have ft := (Fit.cons (fits_names (n := 1) kc.nm).tup (Fit.cons (fits_says nps).tup fits_nil)).tup
          have show2 : ∀ (Hz : Hp) (p' : Addr), Gk (tbs T) Hy Hz → Hz p' = none → ∀ H', Same Hz H' → H' p' = some (.tup [V.ref nA, V.ref b]) → Dq false t H' (.ref p') (.tuple [.tuple (zs.map PyData.str), .tuple (ps.map sayD)]) := fun Hz p' gz np' H' sz2 hp' => by
            have hz := gz.1 _ _ hty (fun ps z => by cases z)
            have nt : ∀ {a xs}, Hz a = some (.tup xs) → a ≠ t := fun {a xs} e z => by rw [z, hz] at e; cases e
            exact .tup (fun z => by rw [z, hz] at np'; cases np') hp' (.cons (.tup (nt (gz.tup k2)) (sz2 _ _ (gz.tup k2)) (dq_texts zs)) (.cons (.tup (nt (gz.tup k3)) (sz2 _ _ (gz.tup k3)) (nk_dqs ⟨_, sz2 _ _ hz⟩ ((nk.at gz.tups).at (.same sz2)))) .nil))
          refine ⟨_, rfl, _, rfl, L, vs, at_, .ref r, rfl, rfl, .inl (.inl hLy), at_of rfl ev, ?_⟩
          refine ⟨r, _, rfl, .inl (.inl k1), rfl, _, _, rfl, _, _, rfl, rfl, ?_⟩
          refine ⟨_, rfl, _, rfl, sz (by show 2 ≤ 1000; decide), fun p1 np1 => ?_⟩
          refine fresh_fin (.tup [V.ref nA, V.ref b]) np1 fun H6 s6 h6 => ?_
          refine ⟨false, t, .ref p1, _, rfl, show2 _ _ (.refl gy.2) np1 _ s6 h6, ft.sh, Nat.le_trans ft.dp (by decide), Nat.le_trans ft.wt (by omega), ?_⟩
          have g6 : Gk (tbs T) Hy H6 := .of_same s6 gy.2
          generalize eS : PyData.shown (.tuple [.tuple (zs.map PyData.str), .tuple (ps.map sayD)]) = S
          have hD6 := g6.1 _ _ hDy (fun ps z => by cases z)
          have g6y := gy.trans g6
          refine ⟨_, rfl, _, rfl, _, rfl, _, rfl, D, _, at_, .int (m : Int), rfl, rfl, .inl (.inl hD6), at_of (j := at_) rfl (by rw [List.getElem?_map, em]; rfl), nA, b, t, ys, ps, zs, m, rfl, g6.tup k2, g6.tup k3, nk.at g6.tups, l12, fun p hp => (kc.inp p hp).2.2, fun p hp => (kc.inp p hp).1, pl, ⟨_, g6.1 _ _ hty (fun ps z => by cases z)⟩, g6.2, fw.1, fw.2.1, fw.2.2, fun H7 g7 => ?_⟩
          refine ⟨true, rfl, iteF ?_⟩
          have g67 := g6.trans g7
          refine ⟨_, rfl, _, rfl, sz (by show 2 ≤ 1000; decide), fun p2 np2 => ?_⟩
          refine fresh_fin (.tup [V.ref nA, V.ref b]) np2 fun H8 s8 h8 => ?_
          refine ⟨false, t, .ref p2, _, rfl, show2 _ _ g67 np2 _ s8 h8, ft.sh, Nat.le_trans ft.dp (by decide), Nat.le_trans ft.wt (by omega), ?_⟩
          rw [eS]
          exact ⟨_, rfl, rfl, _, rfl, iteNS rfl ⟨⟨_, _, _, _, _, rfl⟩, gy.trans (g67.trans (.of_same s8 g67.2))⟩⟩
        · rintro σ Hy ⟨⟨y3, y4, y6, y7, y8, rfl⟩, gy⟩
          exact q _
end
end L45

set_option Elab.async false
set_option linter.all false
set_option maxRecDepth 100000
set_option maxHeartbeats 2000000
namespace L45
open PySem PySem.Spec PyProof.Rows L2 LT
open My hiding Tbs Gk Tk
theorem all_mk {l : PySem.W.OpenLaw} {w : World} {K : PySem.W.Frag} {h : Heap} {mg : Str → Option Value} {fa : Addr} {q : Program} (X : K.In h) (G : h.Ns mainGlobals mg) (hfa : mg "law" = some (.ref fa)) (tabs : GE.TabsIn q K h)
    {f1 : Addr} {od1 an1 : Option Addr} {sl1 : Array (Option Value)} {oc1 kV1 dc1 pm1 cd1 ct1 : Value}
    {f2 : Addr} {od2 an2 : Option Addr} {sl2 : Array (Option Value)} {oc2 kV2 dc2 pm2 cd2 ct2 : Value}
    {f3 : Addr} {od3 an3 : Option Addr} {sl3 : Array (Option Value)} {oc3 kV3 dc3 pm3 cd3 ct3 : Value}
    {f4 : Addr} {od4 an4 : Option Addr} {sl4 : Array (Option Value)} {oc4 kV4 dc4 pm4 cd4 ct4 : Value}
    {q4 P4 : Addr} {ge4 : Value} {gd4 : Option Addr} {gv4 : Array Value} {gs4 : Array (Option Value)}
    {f5 : Addr} {od5 an5 : Option Addr} {sl5 : Array (Option Value)} {oc5 kV5 dc5 pm5 cd5 ct5 : Value}
    {f6 : Addr} {od6 an6 : Option Addr} {sl6 : Array (Option Value)} {oc6 kV6 dc6 pm6 cd6 ct6 : Value}
    {f7 : Addr} {od7 an7 : Option Addr} {sl7 : Array (Option Value)} {oc7 kV7 dc7 pm7 cd7 ct7 : Value}
    {f8 : Addr} {od8 an8 : Option Addr} {sl8 : Array (Option Value)} {oc8 kV8 dc8 pm8 cd8 ct8 : Value}
    {f9 : Addr} {od9 an9 : Option Addr} {sl9 : Array (Option Value)} {oc9 kV9 dc9 pm9 cd9 ct9 : Value}
    {q9 P9 : Addr} {ge9 : Value} {gd9 : Option Addr} {gv9 : Array Value} {gs9 : Array (Option Value)}
    {f10 : Addr} {od10 an10 : Option Addr} {sl10 : Array (Option Value)} {oc10 kV10 dc10 pm10 cd10 ct10 : Value}
    {f11 : Addr} {od11 an11 : Option Addr} {sl11 : Array (Option Value)} {oc11 kV11 dc11 pm11 cd11 ct11 : Value}
    {q11 P11 : Addr} {ge11 : Value} {gd11 : Option Addr} {gv11 : Array Value} {gs11 : Array (Option Value)}
    {f12 : Addr} {od12 an12 : Option Addr} {sl12 : Array (Option Value)} {oc12 kV12 dc12 pm12 cd12 ct12 : Value}
    {f13 : Addr} {od13 an13 : Option Addr} {sl13 : Array (Option Value)} {oc13 kV13 dc13 pm13 cd13 ct13 : Value}
    {q13 P13 : Addr} {ge13 : Value} {gd13 : Option Addr} {gv13 : Array Value} {gs13 : Array (Option Value)}
    {f14 : Addr} {od14 an14 : Option Addr} {sl14 : Array (Option Value)} {oc14 kV14 dc14 pm14 cd14 ct14 : Value}
    {f15 : Addr} {od15 an15 : Option Addr} {sl15 : Array (Option Value)} {oc15 kV15 dc15 pm15 cd15 ct15 : Value}
    {q15 P15 : Addr} {ge15 : Value} {gd15 : Option Addr} {gv15 : Array Value} {gs15 : Array (Option Value)}
    {f16 : Addr} {od16 an16 : Option Addr} {sl16 : Array (Option Value)} {oc16 kV16 dc16 pm16 cd16 ct16 : Value}
    {f17 : Addr} {od17 an17 : Option Addr} {sl17 : Array (Option Value)} {oc17 kV17 dc17 pm17 cd17 ct17 : Value}
    {f18 : Addr} {od18 an18 : Option Addr} {sl18 : Array (Option Value)} {oc18 kV18 dc18 pm18 cd18 ct18 : Value}
    {f19 : Addr} {od19 an19 : Option Addr} {sl19 : Array (Option Value)} {oc19 kV19 dc19 pm19 cd19 ct19 : Value}
    {f20 : Addr} {od20 an20 : Option Addr} {sl20 : Array (Option Value)} {oc20 kV20 dc20 pm20 cd20 ct20 : Value}
    {f21 : Addr} {od21 an21 : Option Addr} {sl21 : Array (Option Value)} {oc21 kV21 dc21 pm21 cd21 ct21 : Value}
    {f22 : Addr} {od22 an22 : Option Addr} {sl22 : Array (Option Value)} {oc22 kV22 dc22 pm22 cd22 ct22 : Value}
    {f23 : Addr} {od23 an23 : Option Addr} {sl23 : Array (Option Value)} {oc23 kV23 dc23 pm23 cd23 ct23 : Value}
    {f24 : Addr} {od24 an24 : Option Addr} {sl24 : Array (Option Value)} {oc24 kV24 dc24 pm24 cd24 ct24 : Value}
    {f25 : Addr} {od25 an25 : Option Addr} {sl25 : Array (Option Value)} {oc25 kV25 dc25 pm25 cd25 ct25 : Value}
    {f26 : Addr} {od26 an26 : Option Addr} {sl26 : Array (Option Value)} {oc26 kV26 dc26 pm26 cd26 ct26 : Value}
    {f27 : Addr} {od27 an27 : Option Addr} {sl27 : Array (Option Value)} {oc27 kV27 dc27 pm27 cd27 ct27 : Value}
    {f28 : Addr} {od28 an28 : Option Addr} {sl28 : Array (Option Value)} {oc28 kV28 dc28 pm28 cd28 ct28 : Value}
    {f29 : Addr} {od29 an29 : Option Addr} {sl29 : Array (Option Value)} {oc29 kV29 dc29 pm29 cd29 ct29 : Value}
    {f30 : Addr} {od30 an30 : Option Addr} {sl30 : Array (Option Value)} {oc30 kV30 dc30 pm30 cd30 ct30 : Value}
    {kC1 : Addr}
    {kC2 : Addr}
    {kf2 : Addr} {knm2 kq2 : Str} {kN2 : Addr} {kbs2 kbm2 : List Value} {ksn2 : List Str} {ksu2 : List Value} {kab2 : Bool} {kco2 : Option Bool} {kdd2 : Option Addr} {km02 km12 km22 km32 km52 : Option Value} {kod2 kan2 : Option Addr} {ksl2 : Array (Option Value)} {koc2 kkV2 kdc2 kpm2 kcd2 kct2 : Value}
    {kC3 : Addr}
    {kC4 : Addr}
    {kC5 : Addr}
    {kC6 : Addr}
    {kC7 : Addr}
    {kC8 : Addr}
    {kf8 : Addr} {knm8 kq8 : Str} {kN8 : Addr} {kbs8 kbm8 : List Value} {ksn8 : List Str} {ksu8 : List Value} {kab8 : Bool} {kco8 : Option Bool} {kdd8 : Option Addr} {km08 km18 km28 km38 km58 : Option Value} {kod8 kan8 : Option Addr} {ksl8 : Array (Option Value)} {koc8 kkV8 kdc8 kpm8 kcd8 kct8 : Value}
    {kC9 : Addr}
    {kC10 : Addr}
    {kC11 : Addr}
    {tk1 : Tok}
    {d4 : DefRec}
    {d9 : DefRec}
    {d11 : DefRec}
    {d13 : DefRec}
    {d15 : DefRec}
    (a1 : PySem.W.nsIn K mainGlobals "ways_from" = some (some (.ref f1))) (l1 : K.lookup f1 = some ⟨oc1, od1, .func (PySem.W.fnOf "ways_from" "ways_from" (defArgs s_ways_from) (defBody s_ways_from) (defScope s_ways_from) .none kV1 dc1 pm1 an1 cd1 ct1), sl1⟩) (c1 : PySem.W.codeIn K cd1 "ways_from" = true) (k1 : PySem.W.keepIn K (.ref f1) = true)
    (a2 : PySem.W.nsIn K mainGlobals "goes_ahead" = some (some (.ref f2))) (l2 : K.lookup f2 = some ⟨oc2, od2, .func (PySem.W.fnOf "goes_ahead" "goes_ahead" (defArgs s_goes_ahead) (defBody s_goes_ahead) (defScope s_goes_ahead) .none kV2 dc2 pm2 an2 cd2 ct2), sl2⟩) (c2 : PySem.W.codeIn K cd2 "goes_ahead" = true) (k2 : PySem.W.keepIn K (.ref f2) = true)
    (a3 : PySem.W.nsIn K mainGlobals "any_ring" = some (some (.ref f3))) (l3 : K.lookup f3 = some ⟨oc3, od3, .func (PySem.W.fnOf "any_ring" "any_ring" (defArgs s_any_ring) (defBody s_any_ring) (defScope s_any_ring) .none kV3 dc3 pm3 an3 cd3 ct3), sl3⟩) (c3 : PySem.W.codeIn K cd3 "any_ring" = true) (k3 : PySem.W.keepIn K (.ref f3) = true)
    (a4 : PySem.W.nsIn K mainGlobals "without" = some (some (.ref f4))) (l4 : K.lookup f4 = some ⟨oc4, od4, .func (PySem.W.fnOf "without" "without" (defArgs s_without) (defBody s_without) (defScope s_without) .none kV4 dc4 pm4 an4 cd4 ct4), sl4⟩) (c4 : PySem.W.codeIn K cd4 "without" = true) (k4 : PySem.W.keepIn K (.ref f4) = true)
    (e4 : cd4 = .ref q4) (u4 : K.lookup q4 = some ⟨ge4, gd4, .fields gv4, gs4⟩) (v4t : gv4[11]? = some (.ref P4)) (n4 : K.lookup P4 = none)
    (a5 : PySem.W.nsIn K mainGlobals "rings_apart" = some (some (.ref f5))) (l5 : K.lookup f5 = some ⟨oc5, od5, .func (PySem.W.fnOf "rings_apart" "rings_apart" (defArgs s_rings_apart) (defBody s_rings_apart) (defScope s_rings_apart) .none kV5 dc5 pm5 an5 cd5 ct5), sl5⟩) (c5 : PySem.W.codeIn K cd5 "rings_apart" = true) (k5 : PySem.W.keepIn K (.ref f5) = true)
    (a6 : PySem.W.nsIn K mainGlobals "seek_letting" = some (some (.ref f6))) (l6 : K.lookup f6 = some ⟨oc6, od6, .func (PySem.W.fnOf "seek_letting" "seek_letting" (defArgs s_seek_letting) (defBody s_seek_letting) (defScope s_seek_letting) .none kV6 dc6 pm6 an6 cd6 ct6), sl6⟩) (c6 : PySem.W.codeIn K cd6 "seek_letting" = true) (k6 : PySem.W.keepIn K (.ref f6) = true)
    (a7 : PySem.W.nsIn K mainGlobals "let_go" = some (some (.ref f7))) (l7 : K.lookup f7 = some ⟨oc7, od7, .func (PySem.W.fnOf "let_go" "let_go" (defArgs s_let_go) (defBody s_let_go) (defScope s_let_go) .none kV7 dc7 pm7 an7 cd7 ct7), sl7⟩) (c7 : PySem.W.codeIn K cd7 "let_go" = true) (k7 : PySem.W.keepIn K (.ref f7) = true)
    (a8 : PySem.W.nsIn K mainGlobals "first_place" = some (some (.ref f8))) (l8 : K.lookup f8 = some ⟨oc8, od8, .func (PySem.W.fnOf "first_place" "first_place" (defArgs s_first_place) (defBody s_first_place) (defScope s_first_place) .none kV8 dc8 pm8 an8 cd8 ct8), sl8⟩) (c8 : PySem.W.codeIn K cd8 "first_place" = true) (k8 : PySem.W.keepIn K (.ref f8) = true)
    (a9 : PySem.W.nsIn K mainGlobals "ring_fault" = some (some (.ref f9))) (l9 : K.lookup f9 = some ⟨oc9, od9, .func (PySem.W.fnOf "ring_fault" "ring_fault" (defArgs s_ring_fault) (defBody s_ring_fault) (defScope s_ring_fault) .none kV9 dc9 pm9 an9 cd9 ct9), sl9⟩) (c9 : PySem.W.codeIn K cd9 "ring_fault" = true) (k9 : PySem.W.keepIn K (.ref f9) = true)
    (e9 : cd9 = .ref q9) (u9 : K.lookup q9 = some ⟨ge9, gd9, .fields gv9, gs9⟩) (v9t : gv9[11]? = some (.ref P9)) (n9 : K.lookup P9 = none)
    (a10 : PySem.W.nsIn K mainGlobals "is_ring" = some (some (.ref f10))) (l10 : K.lookup f10 = some ⟨oc10, od10, .func (PySem.W.fnOf "is_ring" "is_ring" (defArgs s_is_ring) (defBody s_is_ring) (defScope s_is_ring) .none kV10 dc10 pm10 an10 cd10 ct10), sl10⟩) (c10 : PySem.W.codeIn K cd10 "is_ring" = true) (k10 : PySem.W.keepIn K (.ref f10) = true)
    (a11 : PySem.W.nsIn K mainGlobals "first_common" = some (some (.ref f11))) (l11 : K.lookup f11 = some ⟨oc11, od11, .func (PySem.W.fnOf "first_common" "first_common" (defArgs s_first_common) (defBody s_first_common) (defScope s_first_common) .none kV11 dc11 pm11 an11 cd11 ct11), sl11⟩) (c11 : PySem.W.codeIn K cd11 "first_common" = true) (k11 : PySem.W.keepIn K (.ref f11) = true)
    (e11 : cd11 = .ref q11) (u11 : K.lookup q11 = some ⟨ge11, gd11, .fields gv11, gs11⟩) (v11t : gv11[11]? = some (.ref P11)) (n11 : K.lookup P11 = none)
    (a12 : PySem.W.nsIn K mainGlobals "has_shape" = some (some (.ref f12))) (l12 : K.lookup f12 = some ⟨oc12, od12, .func (PySem.W.fnOf "has_shape" "has_shape" (defArgs s_has_shape) (defBody s_has_shape) (defScope s_has_shape) .none kV12 dc12 pm12 an12 cd12 ct12), sl12⟩) (c12 : PySem.W.codeIn K cd12 "has_shape" = true) (k12 : PySem.W.keepIn K (.ref f12) = true)
    (a13 : PySem.W.nsIn K mainGlobals "rings_fault" = some (some (.ref f13))) (l13 : K.lookup f13 = some ⟨oc13, od13, .func (PySem.W.fnOf "rings_fault" "rings_fault" (defArgs s_rings_fault) (defBody s_rings_fault) (defScope s_rings_fault) .none kV13 dc13 pm13 an13 cd13 ct13), sl13⟩) (c13 : PySem.W.codeIn K cd13 "rings_fault" = true) (k13 : PySem.W.keepIn K (.ref f13) = true)
    (e13 : cd13 = .ref q13) (u13 : K.lookup q13 = some ⟨ge13, gd13, .fields gv13, gs13⟩) (v13t : gv13[11]? = some (.ref P13)) (n13 : K.lookup P13 = none)
    (a14 : PySem.W.nsIn K mainGlobals "node_fault" = some (some (.ref f14))) (l14 : K.lookup f14 = some ⟨oc14, od14, .func (PySem.W.fnOf "node_fault" "node_fault" (defArgs s_node_fault) (defBody s_node_fault) (defScope s_node_fault) .none kV14 dc14 pm14 an14 cd14 ct14), sl14⟩) (c14 : PySem.W.codeIn K cd14 "node_fault" = true) (k14 : PySem.W.keepIn K (.ref f14) = true)
    (a15 : PySem.W.nsIn K mainGlobals "look_at" = some (some (.ref f15))) (l15 : K.lookup f15 = some ⟨oc15, od15, .func (PySem.W.fnOf "look_at" "look_at" (defArgs s_look_at) (defBody s_look_at) (defScope s_look_at) .none kV15 dc15 pm15 an15 cd15 ct15), sl15⟩) (c15 : PySem.W.codeIn K cd15 "look_at" = true) (k15 : PySem.W.keepIn K (.ref f15) = true)
    (e15 : cd15 = .ref q15) (u15 : K.lookup q15 = some ⟨ge15, gd15, .fields gv15, gs15⟩) (v15t : gv15[11]? = some (.ref P15)) (n15 : K.lookup P15 = none)
    (a16 : PySem.W.nsIn K mainGlobals "lets_letting" = some (some (.ref f16))) (l16 : K.lookup f16 = some ⟨oc16, od16, .func (PySem.W.fnOf "lets_letting" "lets_letting" (defArgs s_lets_letting) (defBody s_lets_letting) (defScope s_lets_letting) .none kV16 dc16 pm16 an16 cd16 ct16), sl16⟩) (c16 : PySem.W.codeIn K cd16 "lets_letting" = true) (k16 : PySem.W.keepIn K (.ref f16) = true)
    (a17 : PySem.W.nsIn K mainGlobals "_law_feed" = some (some (.ref f17))) (l17 : K.lookup f17 = some ⟨oc17, od17, .func (PySem.W.fnOf "_law_feed" "_law_feed" (defArgs s_w_feed) (defBody s_w_feed) (defScope s_w_feed) .none kV17 dc17 pm17 an17 cd17 ct17), sl17⟩) (c17 : PySem.W.codeIn K cd17 "_law_feed" = true) (k17 : PySem.W.keepIn K (.ref f17) = true)
    (a18 : PySem.W.nsIn K mainGlobals "_law_draw" = some (some (.ref f18))) (l18 : K.lookup f18 = some ⟨oc18, od18, .func (PySem.W.fnOf "_law_draw" "_law_draw" (defArgs s_w_draw) (defBody s_w_draw) (defScope s_w_draw) .none kV18 dc18 pm18 an18 cd18 ct18), sl18⟩) (c18 : PySem.W.codeIn K cd18 "_law_draw" = true) (k18 : PySem.W.keepIn K (.ref f18) = true)
    (a19 : PySem.W.nsIn K mainGlobals "_law_names" = some (some (.ref f19))) (l19 : K.lookup f19 = some ⟨oc19, od19, .func (PySem.W.fnOf "_law_names" "_law_names" (defArgs s_w_names) (defBody s_w_names) (defScope s_w_names) .none kV19 dc19 pm19 an19 cd19 ct19), sl19⟩) (c19 : PySem.W.codeIn K cd19 "_law_names" = true) (k19 : PySem.W.keepIn K (.ref f19) = true)
    (a20 : PySem.W.nsIn K mainGlobals "_law_along" = some (some (.ref f20))) (l20 : K.lookup f20 = some ⟨oc20, od20, .func (PySem.W.fnOf "_law_along" "_law_along" (defArgs s_w_along) (defBody s_w_along) (defScope s_w_along) .none kV20 dc20 pm20 an20 cd20 ct20), sl20⟩) (c20 : PySem.W.codeIn K cd20 "_law_along" = true) (k20 : PySem.W.keepIn K (.ref f20) = true)
    (a21 : PySem.W.nsIn K mainGlobals "_law_turned" = some (some (.ref f21))) (l21 : K.lookup f21 = some ⟨oc21, od21, .func (PySem.W.fnOf "_law_turned" "_law_turned" (defArgs s_w_turned) (defBody s_w_turned) (defScope s_w_turned) .none kV21 dc21 pm21 an21 cd21 ct21), sl21⟩) (c21 : PySem.W.codeIn K cd21 "_law_turned" = true) (k21 : PySem.W.keepIn K (.ref f21) = true)
    (a22 : PySem.W.nsIn K mainGlobals "_law_sayings" = some (some (.ref f22))) (l22 : K.lookup f22 = some ⟨oc22, od22, .func (PySem.W.fnOf "_law_sayings" "_law_sayings" (defArgs s_w_sayings) (defBody s_w_sayings) (defScope s_w_sayings) .none kV22 dc22 pm22 an22 cd22 ct22), sl22⟩) (c22 : PySem.W.codeIn K cd22 "_law_sayings" = true) (k22 : PySem.W.keepIn K (.ref f22) = true)
    (a23 : PySem.W.nsIn K mainGlobals "_law_core" = some (some (.ref f23))) (l23 : K.lookup f23 = some ⟨oc23, od23, .func (PySem.W.fnOf "_law_core" "_law_core" (defArgs s_w_core) (defBody s_w_core) (defScope s_w_core) .none kV23 dc23 pm23 an23 cd23 ct23), sl23⟩) (c23 : PySem.W.codeIn K cd23 "_law_core" = true) (k23 : PySem.W.keepIn K (.ref f23) = true)
    (a24 : PySem.W.nsIn K mainGlobals "_law_sets" = some (some (.ref f24))) (l24 : K.lookup f24 = some ⟨oc24, od24, .func (PySem.W.fnOf "_law_sets" "_law_sets" (defArgs s_w_sets) (defBody s_w_sets) (defScope s_w_sets) .none kV24 dc24 pm24 an24 cd24 ct24), sl24⟩) (c24 : PySem.W.codeIn K cd24 "_law_sets" = true) (k24 : PySem.W.keepIn K (.ref f24) = true)
    (a25 : PySem.W.nsIn K mainGlobals "_law_fewest" = some (some (.ref f25))) (l25 : K.lookup f25 = some ⟨oc25, od25, .func (PySem.W.fnOf "_law_fewest" "_law_fewest" (defArgs s_w_fewest) (defBody s_w_fewest) (defScope s_w_fewest) .none kV25 dc25 pm25 an25 cd25 ct25), sl25⟩) (c25 : PySem.W.codeIn K cd25 "_law_fewest" = true) (k25 : PySem.W.keepIn K (.ref f25) = true)
    (a26 : PySem.W.nsIn K mainGlobals "_law_knotted" = some (some (.ref f26))) (l26 : K.lookup f26 = some ⟨oc26, od26, .func (PySem.W.fnOf "_law_knotted" "_law_knotted" (defArgs s_w_knotted) (defBody s_w_knotted) (defScope s_w_knotted) .none kV26 dc26 pm26 an26 cd26 ct26), sl26⟩) (c26 : PySem.W.codeIn K cd26 "_law_knotted" = true) (k26 : PySem.W.keepIn K (.ref f26) = true)
    (a27 : PySem.W.nsIn K mainGlobals "_law_told" = some (some (.ref f27))) (l27 : K.lookup f27 = some ⟨oc27, od27, .func (PySem.W.fnOf "_law_told" "_law_told" (defArgs s_w_told) (defBody s_w_told) (defScope s_w_told) .none kV27 dc27 pm27 an27 cd27 ct27), sl27⟩) (c27 : PySem.W.codeIn K cd27 "_law_told" = true) (k27 : PySem.W.keepIn K (.ref f27) = true)
    (a28 : PySem.W.nsIn K mainGlobals "_law_let" = some (some (.ref f28))) (l28 : K.lookup f28 = some ⟨oc28, od28, .func (PySem.W.fnOf "_law_let" "_law_let" (defArgs s_w_let) (defBody s_w_let) (defScope s_w_let) .none kV28 dc28 pm28 an28 cd28 ct28), sl28⟩) (c28 : PySem.W.codeIn K cd28 "_law_let" = true) (k28 : PySem.W.keepIn K (.ref f28) = true)
    (a29 : PySem.W.nsIn K mainGlobals "_law_right" = some (some (.ref f29))) (l29 : K.lookup f29 = some ⟨oc29, od29, .func (PySem.W.fnOf "_law_right" "_law_right" (defArgs s_w_right) (defBody s_w_right) (defScope s_w_right) .none kV29 dc29 pm29 an29 cd29 ct29), sl29⟩) (c29 : PySem.W.codeIn K cd29 "_law_right" = true) (k29 : PySem.W.keepIn K (.ref f29) = true)
    (a30 : PySem.W.nsIn K mainGlobals "law" = some (some (.ref f30))) (l30 : K.lookup f30 = some ⟨oc30, od30, .func (PySem.W.fnOf "law" "law" (defArgs s_law) (defBody s_law) (defScope s_law) .none kV30 dc30 pm30 an30 cd30 ct30), sl30⟩) (c30 : PySem.W.codeIn K cd30 "law" = true) (k30 : PySem.W.keepIn K (.ref f30) = true)
    (k1a : PySem.W.nsIn K mainGlobals "CardsError" = some (some (.ref kC1)))
    (k2a : PySem.W.nsIn K mainGlobals "NoPaper" = some (some (.ref kC2)))
    (k2b : K.lookup kC2 = some (excClassObj knm2 kq2 kC2 kN2 kbs2 kbm2 true ksn2 ksu2 kab2 kco2 kdd2 km02 km12 km22 km32 km52 "ValueError.__new__"))
    (k2c : PySem.HandSPX.refsVE kbm2 = true)
    (k2d : PySem.W.findIn K (.ref kC2) "__setattr__" = some (some (.builtin "object.__setattr__")))
    (k2e : PySem.W.findIn K (.ref kC2) "__getattribute__" = some (some (.builtin "BaseException.__getattribute__")))
    (k2f : PySem.W.findIn K (.ref kC2) "__getattr__" = some none)
    (k2g : PySem.W.findIn K (.ref kC2) "__init__" = some (some (.ref kf2)))
    (k2h : PySem.W.typeIn K (.ref kf2) = some (.type "function"))
    (k2i : K.lookup kf2 = some ⟨koc2, kod2, .func (PySem.W.fnOf "__init__" "NoPaper.__init__" (defArgs s_NoPaper) (defBody s_NoPaper) (defScope s_NoPaper) .none kkV2 kdc2 kpm2 kan2 kcd2 kct2), ksl2⟩)
    (k2j : PySem.W.codeIn K kcd2 "NoPaper.__init__" = true)
    (k2k : PySem.W.keepIn K (.ref kf2) = true)
    (k2l : PySem.W.keepIn K (.ref kC2) = true)
    (k2m : PySem.W.subIn K (.ref kC2) (.type "BaseException") = some true)
    (k2n : PySem.W.typeIn K (.ref kC2) = some (.type "type"))
    (k2o : PySem.W.hasDictIn K kC2 = true)
    (k2p : PySem.W.kitOne K (.ref kC2) (.type "ValueError") = some true)
    (k2q : PySem.W.kitOne K (.ref kC2) (.ref kC2) = some true)
    (k2r : PySem.W.exmOne K (.ref kC2) (.ref kC1) = some true)
    (k2u : PySem.W.exmOne K (.ref kC2) (.ref kC2) = some true)
    (k2s0 : PySem.W.findIn K (.ref kC2) "word" = some none)
    (k2s1 : PySem.W.findIn K (.ref kC2) "path" = some none)
    (k2v : PySem.W.findIn K (.ref kC2) "__class__" = some (some (.builtin "object.__class__")))
    (k2w : PySem.W.mroIn K kC2 (.type "object") = some true)
    (k2x : PySem.W.specialIn K (.builtin "object.__class__") "__get__" = some (some (.builtin "getset_descriptor.__get__")))
    (k2y : PySem.W.takesIn K (.builtin "object.__class__") = some true)
    (k2z0 : PySem.W.kitOne K (.ref kC2) (.ref kC9) = some false)
    (k2z1 : PySem.W.kitOne K (.ref kC2) (.ref kC5) = some false)
    (k2z2 : PySem.W.kitOne K (.ref kC2) (.ref kC7) = some false)
    (k2z3 : PySem.W.kitOne K (.ref kC2) (.ref kC3) = some false)
    (k2z4 : PySem.W.kitOne K (.ref kC2) (.ref kC6) = some false)
    (k2z5 : PySem.W.kitOne K (.ref kC2) (.ref kC4) = some false)
    (k2z6 : PySem.W.kitOne K (.ref kC2) (.ref kC2) = some true)
    (k2z7 : PySem.W.kitOne K (.ref kC2) (.ref kC11) = some false)
    (k2z8 : PySem.W.kitOne K (.ref kC2) (.ref kC10) = some false)
    (k2z9 : PySem.W.kitOne K (.ref kC2) (.ref kC8) = some false)
    (k3a : PySem.W.nsIn K mainGlobals "NoHouse" = some (some (.ref kC3)))
    (k4a : PySem.W.nsIn K mainGlobals "NoPage" = some (some (.ref kC4)))
    (k5a : PySem.W.nsIn K mainGlobals "NoCrowd" = some (some (.ref kC5)))
    (k6a : PySem.W.nsIn K mainGlobals "NoOrder" = some (some (.ref kC6)))
    (k7a : PySem.W.nsIn K mainGlobals "NoDue" = some (some (.ref kC7)))
    (k8a : PySem.W.nsIn K mainGlobals "TooMany" = some (some (.ref kC8)))
    (k8b : K.lookup kC8 = some (excClassObj knm8 kq8 kC8 kN8 kbs8 kbm8 true ksn8 ksu8 kab8 kco8 kdd8 km08 km18 km28 km38 km58 "ValueError.__new__"))
    (k8c : PySem.HandSPX.refsVE kbm8 = true)
    (k8d : PySem.W.findIn K (.ref kC8) "__setattr__" = some (some (.builtin "object.__setattr__")))
    (k8e : PySem.W.findIn K (.ref kC8) "__getattribute__" = some (some (.builtin "BaseException.__getattribute__")))
    (k8f : PySem.W.findIn K (.ref kC8) "__getattr__" = some none)
    (k8g : PySem.W.findIn K (.ref kC8) "__init__" = some (some (.ref kf8)))
    (k8h : PySem.W.typeIn K (.ref kf8) = some (.type "function"))
    (k8i : K.lookup kf8 = some ⟨koc8, kod8, .func (PySem.W.fnOf "__init__" "TooMany.__init__" (defArgs s_TooMany) (defBody s_TooMany) (defScope s_TooMany) .none kkV8 kdc8 kpm8 kan8 kcd8 kct8), ksl8⟩)
    (k8j : PySem.W.codeIn K kcd8 "TooMany.__init__" = true)
    (k8k : PySem.W.keepIn K (.ref kf8) = true)
    (k8l : PySem.W.keepIn K (.ref kC8) = true)
    (k8m : PySem.W.subIn K (.ref kC8) (.type "BaseException") = some true)
    (k8n : PySem.W.typeIn K (.ref kC8) = some (.type "type"))
    (k8o : PySem.W.hasDictIn K kC8 = true)
    (k8p : PySem.W.kitOne K (.ref kC8) (.type "ValueError") = some true)
    (k8q : PySem.W.kitOne K (.ref kC8) (.ref kC8) = some true)
    (k8r : PySem.W.exmOne K (.ref kC8) (.ref kC1) = some true)
    (k8s0 : PySem.W.findIn K (.ref kC8) "word" = some none)
    (k8v : PySem.W.findIn K (.ref kC8) "__class__" = some (some (.builtin "object.__class__")))
    (k8w : PySem.W.mroIn K kC8 (.type "object") = some true)
    (k8x : PySem.W.specialIn K (.builtin "object.__class__") "__get__" = some (some (.builtin "getset_descriptor.__get__")))
    (k8y : PySem.W.takesIn K (.builtin "object.__class__") = some true)
    (k8z0 : PySem.W.kitOne K (.ref kC8) (.ref kC9) = some false)
    (k8z1 : PySem.W.kitOne K (.ref kC8) (.ref kC5) = some false)
    (k8z2 : PySem.W.kitOne K (.ref kC8) (.ref kC7) = some false)
    (k8z3 : PySem.W.kitOne K (.ref kC8) (.ref kC3) = some false)
    (k8z4 : PySem.W.kitOne K (.ref kC8) (.ref kC6) = some false)
    (k8z5 : PySem.W.kitOne K (.ref kC8) (.ref kC4) = some false)
    (k8z6 : PySem.W.kitOne K (.ref kC8) (.ref kC2) = some false)
    (k8z7 : PySem.W.kitOne K (.ref kC8) (.ref kC11) = some false)
    (k8z8 : PySem.W.kitOne K (.ref kC8) (.ref kC10) = some false)
    (k8z9 : PySem.W.kitOne K (.ref kC8) (.ref kC8) = some true)
    (k9a : PySem.W.nsIn K mainGlobals "NoBack" = some (some (.ref kC9)))
    (k10a : PySem.W.nsIn K mainGlobals "NoText" = some (some (.ref kC10)))
    (k11a : PySem.W.nsIn K mainGlobals "NoRow" = some (some (.ref kC11)))
    (v1 : PySem.W.nsIn K mainGlobals "MOST_GONE" = some (some (.int 3 tk1)))
    (z1 : PySem.W.nsIn K mainGlobals "ValueError" = some none)
    (z2 : PySem.W.nsIn K mainGlobals "all" = some none)
    (z3 : PySem.W.nsIn K mainGlobals "any" = some none)
    (z4 : PySem.W.nsIn K mainGlobals "enumerate" = some none)
    (z5 : PySem.W.nsIn K mainGlobals "isinstance" = some none)
    (z6 : PySem.W.nsIn K mainGlobals "len" = some none)
    (z7 : PySem.W.nsIn K mainGlobals "list" = some none)
    (z8 : PySem.W.nsIn K mainGlobals "max" = some none)
    (z9 : PySem.W.nsIn K mainGlobals "min" = some none)
    (z10 : PySem.W.nsIn K mainGlobals "range" = some none)
    (z11 : PySem.W.nsIn K mainGlobals "repr" = some none)
    (z12 : PySem.W.nsIn K mainGlobals "set" = some none)
    (z13 : PySem.W.nsIn K mainGlobals "sorted" = some none)
    (z14 : PySem.W.nsIn K mainGlobals "tuple" = some none)
    (r4 : (recsOf q).find? (fun e => e.name == ("without" : Str)) = some d4)
    (r9 : (recsOf q).find? (fun e => e.name == ("ring_fault" : Str)) = some d9)
    (r11 : (recsOf q).find? (fun e => e.name == ("first_common" : Str)) = some d11)
    (r13 : (recsOf q).find? (fun e => e.name == ("rings_fault" : Str)) = some d13)
    (r15 : (recsOf q).find? (fun e => e.name == ("look_at" : Str)) = some d15)
    (x9_4 : P9 ≠ P4)
    (x9_11 : P9 ≠ P11)
    (x9_13 : P9 ≠ P13)
    (x9_15 : P9 ≠ P15) :
    GU.LawAtG l w K CX0 17 63 "_law_script" mg fa h := by
  have e := hfa.symm.trans (PySem.W.mg_of X G a30)
  cases e
  have F1 := fun_mk (st := s_ways_from) l1 c1 k1
  have F2 := fun_mk (st := s_goes_ahead) l2 c2 k2
  have F3 := fun_mk (st := s_any_ring) l3 c3 k3
  have F4 := GE.funC_mk (st := s_without) l4 e4 c4 k4
  have F5 := fun_mk (st := s_rings_apart) l5 c5 k5
  have F6 := fun_mk (st := s_seek_letting) l6 c6 k6
  have F7 := fun_mk (st := s_let_go) l7 c7 k7
  have F8 := fun_mk (st := s_first_place) l8 c8 k8
  have F9 := GE.funC_mk (st := s_ring_fault) l9 e9 c9 k9
  have F10 := fun_mk (st := s_is_ring) l10 c10 k10
  have F11 := GE.funC_mk (st := s_first_common) l11 e11 c11 k11
  have F12 := fun_mk (st := s_has_shape) l12 c12 k12
  have F13 := GE.funC_mk (st := s_rings_fault) l13 e13 c13 k13
  have F14 := fun_mk (st := s_node_fault) l14 c14 k14
  have F15 := GE.funC_mk (st := s_look_at) l15 e15 c15 k15
  have F16 := fun_mk (st := s_lets_letting) l16 c16 k16
  have F17 := fun_mk (st := s_w_feed) l17 c17 k17
  have F18 := fun_mk (st := s_w_draw) l18 c18 k18
  have F19 := fun_mk (st := s_w_names) l19 c19 k19
  have F20 := fun_mk (st := s_w_along) l20 c20 k20
  have F21 := fun_mk (st := s_w_turned) l21 c21 k21
  have F22 := fun_mk (st := s_w_sayings) l22 c22 k22
  have F23 := fun_mk (st := s_w_core) l23 c23 k23
  have F24 := fun_mk (st := s_w_sets) l24 c24 k24
  have F25 := fun_mk (st := s_w_fewest) l25 c25 k25
  have F26 := fun_mk (st := s_w_knotted) l26 c26 k26
  have F27 := fun_mk (st := s_w_told) l27 c27 k27
  have F28 := fun_mk (st := s_w_let) l28 c28 k28
  have F29 := fun_mk (st := s_w_right) l29 c29 k29
  have F30 := fun_mk (st := s_law) l30 c30 k30
  have KF2 := fun_mk (st := s_NoPaper) k2i k2j k2k
  have KF8 := fun_mk (st := s_TooMany) k8i k8j k8k
  let T : Tx K mg := { f_ways_from := f1, d_ways_from := _, F_ways_from := F1, g_ways_from := PySem.W.mg_of X G a1, b_ways_from := (F1.binds fun _ _ _ _ _ _ us hl => match us, hl with | [_, _], _ => rfl), f_goes_ahead := f2, d_goes_ahead := _, F_goes_ahead := F2, g_goes_ahead := PySem.W.mg_of X G a2, b_goes_ahead := (F2.binds fun _ _ _ _ _ _ us hl => match us, hl with | [_, _, _, _], _ => rfl), f_any_ring := f3, d_any_ring := _, F_any_ring := F3, g_any_ring := PySem.W.mg_of X G a3, b_any_ring := (F3.binds fun _ _ _ _ _ _ us hl => match us, hl with | [_, _], _ => rfl), k_without := q4, P_without := P4, f_without := f4, d_without := _, F_without := F4, g_without := PySem.W.mg_of X G a4, b_without := (F4.toFun.binds fun _ _ _ _ _ _ us hl => match us, hl with | [_, _], _ => rfl), f_rings_apart := f5, d_rings_apart := _, F_rings_apart := F5, g_rings_apart := PySem.W.mg_of X G a5, b_rings_apart := (F5.binds fun _ _ _ _ _ _ us hl => match us, hl with | [_, _], _ => rfl), f_seek_letting := f6, d_seek_letting := _, F_seek_letting := F6, g_seek_letting := PySem.W.mg_of X G a6, b_seek_letting := (F6.binds fun _ _ _ _ _ _ us hl => match us, hl with | [_, _, _], _ => rfl), f_let_go := f7, d_let_go := _, F_let_go := F7, g_let_go := PySem.W.mg_of X G a7, b_let_go := (F7.binds fun _ _ _ _ _ _ us hl => match us, hl with | [_, _], _ => rfl), f_first_place := f8, d_first_place := _, F_first_place := F8, g_first_place := PySem.W.mg_of X G a8, b_first_place := (F8.binds fun _ _ _ _ _ _ us hl => match us, hl with | [_, _], _ => rfl), k_ring_fault := q9, P_ring_fault := P9, f_ring_fault := f9, d_ring_fault := _, F_ring_fault := F9, g_ring_fault := PySem.W.mg_of X G a9, b_ring_fault := (F9.toFun.binds fun _ _ _ _ _ _ us hl => match us, hl with | [_, _], _ => rfl), f_is_ring := f10, d_is_ring := _, F_is_ring := F10, g_is_ring := PySem.W.mg_of X G a10, b_is_ring := (F10.binds fun _ _ _ _ _ _ us hl => match us, hl with | [_, _], _ => rfl), k_first_common := q11, P_first_common := P11, f_first_common := f11, d_first_common := _, F_first_common := F11, g_first_common := PySem.W.mg_of X G a11, b_first_common := (F11.toFun.binds fun _ _ _ _ _ _ us hl => match us, hl with | [_], _ => rfl), f_has_shape := f12, d_has_shape := _, F_has_shape := F12, g_has_shape := PySem.W.mg_of X G a12, b_has_shape := (F12.binds fun _ _ _ _ _ _ us hl => match us, hl with | [_, _], _ => rfl), k_rings_fault := q13, P_rings_fault := P13, f_rings_fault := f13, d_rings_fault := _, F_rings_fault := F13, g_rings_fault := PySem.W.mg_of X G a13, b_rings_fault := (F13.toFun.binds fun _ _ _ _ _ _ us hl => match us, hl with | [_, _, _], _ => rfl), f_node_fault := f14, d_node_fault := _, F_node_fault := F14, g_node_fault := PySem.W.mg_of X G a14, b_node_fault := (F14.binds fun _ _ _ _ _ _ us hl => match us, hl with | [_, _, _], _ => rfl), k_look_at := q15, P_look_at := P15, f_look_at := f15, d_look_at := _, F_look_at := F15, g_look_at := PySem.W.mg_of X G a15, b_look_at := (F15.toFun.binds fun _ _ _ _ _ _ us hl => match us, hl with | [_, _, _, _], _ => rfl), f_lets_letting := f16, d_lets_letting := _, F_lets_letting := F16, g_lets_letting := PySem.W.mg_of X G a16, b_lets_letting := (F16.binds fun _ _ _ _ _ _ us hl => match us, hl with | [_, _, _, _], _ => rfl), f_w_feed := f17, d_w_feed := _, F_w_feed := F17, g_w_feed := PySem.W.mg_of X G a17, b_w_feed := (F17.binds fun _ _ _ _ _ _ us hl => match us, hl with | [_], _ => rfl), f_w_draw := f18, d_w_draw := _, F_w_draw := F18, g_w_draw := PySem.W.mg_of X G a18, b_w_draw := (F18.binds fun _ _ _ _ _ _ us hl => match us, hl with | [_, _], _ => rfl), f_w_names := f19, d_w_names := _, F_w_names := F19, g_w_names := PySem.W.mg_of X G a19, b_w_names := (F19.binds fun _ _ _ _ _ _ us hl => match us, hl with | [_, _], _ => rfl), f_w_along := f20, d_w_along := _, F_w_along := F20, g_w_along := PySem.W.mg_of X G a20, b_w_along := (F20.binds fun _ _ _ _ _ _ us hl => match us, hl with | [_], _ => rfl), f_w_turned := f21, d_w_turned := _, F_w_turned := F21, g_w_turned := PySem.W.mg_of X G a21, b_w_turned := (F21.binds fun _ _ _ _ _ _ us hl => match us, hl with | [_, _], _ => rfl), f_w_sayings := f22, d_w_sayings := _, F_w_sayings := F22, g_w_sayings := PySem.W.mg_of X G a22, b_w_sayings := (F22.binds fun _ _ _ _ _ _ us hl => match us, hl with | [_, _, _], _ => rfl), f_w_core := f23, d_w_core := _, F_w_core := F23, g_w_core := PySem.W.mg_of X G a23, b_w_core := (F23.binds fun _ _ _ _ _ _ us hl => match us, hl with | [_], _ => rfl), f_w_sets := f24, d_w_sets := _, F_w_sets := F24, g_w_sets := PySem.W.mg_of X G a24, b_w_sets := (F24.binds fun _ _ _ _ _ _ us hl => match us, hl with | [_, _], _ => rfl), f_w_fewest := f25, d_w_fewest := _, F_w_fewest := F25, g_w_fewest := PySem.W.mg_of X G a25, b_w_fewest := (F25.binds fun _ _ _ _ _ _ us hl => match us, hl with | [_], _ => rfl), f_w_knotted := f26, d_w_knotted := _, F_w_knotted := F26, g_w_knotted := PySem.W.mg_of X G a26, b_w_knotted := (F26.binds fun _ _ _ _ _ _ us hl => match us, hl with | [_], _ => rfl), f_w_told := f27, d_w_told := _, F_w_told := F27, g_w_told := PySem.W.mg_of X G a27, b_w_told := (F27.binds fun _ _ _ _ _ _ us hl => match us, hl with | [_, _], _ => rfl), f_w_let := f28, d_w_let := _, F_w_let := F28, g_w_let := PySem.W.mg_of X G a28, b_w_let := (F28.binds fun _ _ _ _ _ _ us hl => match us, hl with | [_, _, _, _], _ => rfl), f_w_right := f29, d_w_right := _, F_w_right := F29, g_w_right := PySem.W.mg_of X G a29, b_w_right := (F29.binds fun _ _ _ _ _ _ us hl => match us, hl with | [_, _, _], _ => rfl), f_law := fa, d_law := _, F_law := F30, g_law := PySem.W.mg_of X G a30, b_law := (F30.binds fun _ _ _ _ _ _ us hl => match us, hl with | [_], _ => rfl), C_CardsError := kC1, gC_CardsError := PySem.W.mg_of X G k1a, C_NoPaper := kC2, gC_NoPaper := PySem.W.mg_of X G k2a, f_NoPaper := kf2, d_NoPaper := _, F_NoPaper := KF2, bi_NoPaper := (KF2.binds fun _ _ _ _ _ _ us hl => match us, hl with | [_, _, _], _ => rfl), oex_NoPaper := ⟨⟨_, _, _, _, _, _, _, _, _, _, _, _, _, _, _, k2b, k2c⟩, k2d, k2m, k2n, k2l⟩, xf_NoPaper := ⟨k2e, k2f, k2m, k2o⟩, ic_NoPaper := k2g, ti_NoPaper := k2h, kv_NoPaper := k2p, ks_NoPaper := k2q, te_NoPaper := k2r, tm_NoPaper := k2u, ec_NoPaper := ⟨k2e, k2f, k2m, k2o, k2v, k2x, k2y, k2w⟩, kt_NoPaper_NoBack := k2z0, kt_NoPaper_NoCrowd := k2z1, kt_NoPaper_NoDue := k2z2, kt_NoPaper_NoHouse := k2z3, kt_NoPaper_NoOrder := k2z4, kt_NoPaper_NoPage := k2z5, kt_NoPaper_NoPaper := k2z6, kt_NoPaper_NoRow := k2z7, kt_NoPaper_NoText := k2z8, kt_NoPaper_TooMany := k2z9, no_NoPaper_word := k2s0, no_NoPaper_path := k2s1, C_NoHouse := kC3, gC_NoHouse := PySem.W.mg_of X G k3a, C_NoPage := kC4, gC_NoPage := PySem.W.mg_of X G k4a, C_NoCrowd := kC5, gC_NoCrowd := PySem.W.mg_of X G k5a, C_NoOrder := kC6, gC_NoOrder := PySem.W.mg_of X G k6a, C_NoDue := kC7, gC_NoDue := PySem.W.mg_of X G k7a, C_TooMany := kC8, gC_TooMany := PySem.W.mg_of X G k8a, f_TooMany := kf8, d_TooMany := _, F_TooMany := KF8, bi_TooMany := (KF8.binds fun _ _ _ _ _ _ us hl => match us, hl with | [_, _], _ => rfl), oex_TooMany := ⟨⟨_, _, _, _, _, _, _, _, _, _, _, _, _, _, _, k8b, k8c⟩, k8d, k8m, k8n, k8l⟩, xf_TooMany := ⟨k8e, k8f, k8m, k8o⟩, ic_TooMany := k8g, ti_TooMany := k8h, kv_TooMany := k8p, ks_TooMany := k8q, te_TooMany := k8r, ec_TooMany := ⟨k8e, k8f, k8m, k8o, k8v, k8x, k8y, k8w⟩, kt_TooMany_NoBack := k8z0, kt_TooMany_NoCrowd := k8z1, kt_TooMany_NoDue := k8z2, kt_TooMany_NoHouse := k8z3, kt_TooMany_NoOrder := k8z4, kt_TooMany_NoPage := k8z5, kt_TooMany_NoPaper := k8z6, kt_TooMany_NoRow := k8z7, kt_TooMany_NoText := k8z8, kt_TooMany_TooMany := k8z9, no_TooMany_word := k8s0, C_NoBack := kC9, gC_NoBack := PySem.W.mg_of X G k9a, C_NoText := kC10, gC_NoText := PySem.W.mg_of X G k10a, C_NoRow := kC11, gC_NoRow := PySem.W.mg_of X G k11a, t_MOST_GONE := tk1, c_MOST_GONE := PySem.W.mg_of X G v1, m_ValueError := PySem.W.mg_none_of X G z1, m_all := PySem.W.mg_none_of X G z2, m_any := PySem.W.mg_none_of X G z3, m_enumerate := PySem.W.mg_none_of X G z4, m_isinstance := PySem.W.mg_none_of X G z5, m_len := PySem.W.mg_none_of X G z6, m_list := PySem.W.mg_none_of X G z7, m_max := PySem.W.mg_none_of X G z8, m_min := PySem.W.mg_none_of X G z9, m_range := PySem.W.mg_none_of X G z10, m_repr := PySem.W.mg_none_of X G z11, m_set := PySem.W.mg_none_of X G z12, m_sorted := PySem.W.mg_none_of X G z13, m_tuple := PySem.W.mg_none_of X G z14 }
  have h4 := tabs "without" _ _ _ r4 (GE.tabIn_of a4 l4 e4 u4 v4t)
  have h9 := tabs "ring_fault" _ _ _ r9 (GE.tabIn_of a9 l9 e9 u9 v9t)
  have h11 := tabs "first_common" _ _ _ r11 (GE.tabIn_of a11 l11 e11 u11 v11t)
  have h13 := tabs "rings_fault" _ _ _ r13 (GE.tabIn_of a13 l13 e13 u13 v13t)
  have h15 := tabs "look_at" _ _ _ r15 (GE.tabIn_of a15 l15 e15 u15 v15t)
  have B0 : ∀ base : Heap, (∀ p ∈ [(q4, P4), (q9, P9), (q11, P11), (q13, P13), (q15, P15)], LamX.TabB base mg p.1 p.2) → Tb T base := fun base hb => ⟨GE.tabB (hb (q4, P4) (by simp)), GE.tabB (hb (q9, P9) (by simp)), GE.tabB (hb (q11, P11) (by simp)), GE.tabB (hb (q13, P13) (by simp)), GE.tabB (hb (q15, P15) (by simp))⟩
  refine ⟨_, [(q4, P4), (q9, P9), (q11, P11), (q13, P13), (q15, P15)], spLaw T, fun p hp => by
      simp only [List.mem_cons, List.not_mem_nil, or_false] at hp
      rcases hp with rfl | rfl | rfl | rfl | rfl
      · exact h4.2
      · exact h9.2
      · exact h11.2
      · exact h13.2
      · exact h15.2, fun p hp => by
      simp only [List.mem_cons, List.not_mem_nil, or_false] at hp
      rcases hp with rfl | rfl | rfl | rfl | rfl
      · exact n4
      · exact n9
      · exact n11
      · exact n13
      · exact n15, fun p hp => by
      simp only [List.mem_cons, List.not_mem_nil, or_false] at hp
      rcases hp with rfl | rfl | rfl | rfl | rfl
      · exact h4.1
      · exact h9.1
      · exact h11.1
      · exact h13.1
      · exact h15.1, fun s v => .of_eq rfl, fun H a ns hl hH hS => ⟨a, ns, rfl, hS, hl, ⟨fun p hp => ?_, fun e he => ?_, fun p hp e he => ?_, fun e he e2 he2 z => ?_⟩, fun _ => rfl⟩, fun base _ _ hb => ok_law T (B0 base hb)⟩
  · have hp : p ∈ [P4, P11, P13, P15] := hp
    simp only [List.mem_cons, List.not_mem_nil, or_false] at hp
    rcases hp with hp | hp | hp | hp
    · rw [hp]; exact ⟨#[], hH (q4, P4) (by simp), True.intro⟩
    · rw [hp]; exact ⟨#[], hH (q11, P11) (by simp), True.intro⟩
    · rw [hp]; exact ⟨#[], hH (q13, P13) (by simp), True.intro⟩
    · rw [hp]; exact ⟨#[], hH (q15, P15) (by simp), True.intro⟩
  · have he : e ∈ [(P9, ("ring_fault" : Str) ++ (".<locals>." : Str) ++ ("<lambda>" : Str))] := he
    simp only [List.mem_cons, List.not_mem_nil, or_false] at he
    rcases he with rfl
    · exact LamX.TabS.nil (hH (q9, P9) (by simp))
  · have hp : p ∈ [P4, P11, P13, P15] := hp
    simp only [List.mem_cons, List.not_mem_nil, or_false] at hp
    have he : e ∈ [(P9, ("ring_fault" : Str) ++ (".<locals>." : Str) ++ ("<lambda>" : Str))] := he
    simp only [List.mem_cons, List.not_mem_nil, or_false] at he
    rcases hp with hp | hp | hp | hp <;> rcases he with rfl
    · rw [hp]; exact x9_4
    · rw [hp]; exact x9_11
    · rw [hp]; exact x9_13
    · rw [hp]; exact x9_15
  · have he : e ∈ [(P9, ("ring_fault" : Str) ++ (".<locals>." : Str) ++ ("<lambda>" : Str))] := he
    simp only [List.mem_cons, List.not_mem_nil, or_false] at he
    have he2 : e2 ∈ [(P9, ("ring_fault" : Str) ++ (".<locals>." : Str) ++ ("<lambda>" : Str))] := he2
    simp only [List.mem_cons, List.not_mem_nil, or_false] at he2
    rcases he with rfl <;> rcases he2 with rfl
    · rfl
end L45
open PySem PySem.W PyProof.Rows
set_option maxHeartbeats 0 in
theorem PySem.Challenge.cw_cardsback_k45_let_go_told_holds : PySem.Challenge.rw_cardsback_k45_let_go_told.Holds := by
  w_on; o_law; k_head; (case hw => w_witness2)
  k_fill
  refine GU.walk_G (l := PySem.Challenge.rw_cardsback_k45_let_go_told) (n := 63) (k := 17) (x := "_law_script") (CX := fun _ => L2.CX0) rfl (by decide) rfl ⟨rfl, by decide, by decide⟩ (fun w h Y => PySem.W.km_in_of Y) ?F (fun _ _ _ _ _ h => h)
  case F =>
    intro w mg fa h KX G hmg tabs
    refine' L45.all_mk KX G hmg tabs ?a1 ?l1 ?c1 ?k1 ?a2 ?l2 ?c2 ?k2 ?a3 ?l3 ?c3 ?k3 ?a4 ?l4 ?c4 ?k4 ?e4 ?u4 ?v4t ?n4 ?a5 ?l5 ?c5 ?k5 ?a6 ?l6 ?c6 ?k6 ?a7 ?l7 ?c7 ?k7 ?a8 ?l8 ?c8 ?k8 ?a9 ?l9 ?c9 ?k9 ?e9 ?u9 ?v9t ?n9 ?a10 ?l10 ?c10 ?k10 ?a11 ?l11 ?c11 ?k11 ?e11 ?u11 ?v11t ?n11 ?a12 ?l12 ?c12 ?k12 ?a13 ?l13 ?c13 ?k13 ?e13 ?u13 ?v13t ?n13 ?a14 ?l14 ?c14 ?k14 ?a15 ?l15 ?c15 ?k15 ?e15 ?u15 ?v15t ?n15 ?a16 ?l16 ?c16 ?k16 ?a17 ?l17 ?c17 ?k17 ?a18 ?l18 ?c18 ?k18 ?a19 ?l19 ?c19 ?k19 ?a20 ?l20 ?c20 ?k20 ?a21 ?l21 ?c21 ?k21 ?a22 ?l22 ?c22 ?k22 ?a23 ?l23 ?c23 ?k23 ?a24 ?l24 ?c24 ?k24 ?a25 ?l25 ?c25 ?k25 ?a26 ?l26 ?c26 ?k26 ?a27 ?l27 ?c27 ?k27 ?a28 ?l28 ?c28 ?k28 ?a29 ?l29 ?c29 ?k29 ?a30 ?l30 ?c30 ?k30 ?k1a ?k2a ?k2b ?k2c ?k2d ?k2e ?k2f ?k2g ?k2h ?k2i ?k2j ?k2k ?k2l ?k2m ?k2n ?k2o ?k2p ?k2q ?k2r ?k2u ?k2s0 ?k2s1 ?k2v ?k2w ?k2x ?k2y ?k2z0 ?k2z1 ?k2z2 ?k2z3 ?k2z4 ?k2z5 ?k2z6 ?k2z7 ?k2z8 ?k2z9 ?k3a ?k4a ?k5a ?k6a ?k7a ?k8a ?k8b ?k8c ?k8d ?k8e ?k8f ?k8g ?k8h ?k8i ?k8j ?k8k ?k8l ?k8m ?k8n ?k8o ?k8p ?k8q ?k8r ?k8s0 ?k8v ?k8w ?k8x ?k8y ?k8z0 ?k8z1 ?k8z2 ?k8z3 ?k8z4 ?k8z5 ?k8z6 ?k8z7 ?k8z8 ?k8z9 ?k9a ?k10a ?k11a ?v1 ?z1 ?z2 ?z3 ?z4 ?z5 ?z6 ?z7 ?z8 ?z9 ?z10 ?z11 ?z12 ?z13 ?z14 ?r4 ?r9 ?r11 ?r13 ?r15 ?x9_4 ?x9_11 ?x9_13 ?x9_15
    (case a1 => k_is); (case l1 => k_is); (case c1 => k_is); (case k1 => k_is); (case a2 => k_is); (case l2 => k_is); (case c2 => k_is); (case k2 => k_is); (case a3 => k_is); (case l3 => k_is); (case c3 => k_is); (case k3 => k_is); (case a4 => k_is); (case l4 => k_is); (case c4 => k_is); (case k4 => k_is); (case e4 => rfl); (case u4 => k_is); (case v4t => rfl); (case n4 => first | kernel_rfl | rfl | with_unfolding_all rfl); (case a5 => k_is); (case l5 => k_is); (case c5 => k_is); (case k5 => k_is); (case a6 => k_is); (case l6 => k_is); (case c6 => k_is); (case k6 => k_is); (case a7 => k_is); (case l7 => k_is); (case c7 => k_is); (case k7 => k_is); (case a8 => k_is); (case l8 => k_is); (case c8 => k_is); (case k8 => k_is); (case a9 => k_is); (case l9 => k_is); (case c9 => k_is); (case k9 => k_is); (case e9 => rfl); (case u9 => k_is); (case v9t => rfl); (case n9 => first | kernel_rfl | rfl | with_unfolding_all rfl); (case a10 => k_is); (case l10 => k_is); (case c10 => k_is); (case k10 => k_is); (case a11 => k_is); (case l11 => k_is); (case c11 => k_is); (case k11 => k_is); (case e11 => rfl); (case u11 => k_is); (case v11t => rfl); (case n11 => first | kernel_rfl | rfl | with_unfolding_all rfl); (case a12 => k_is); (case l12 => k_is); (case c12 => k_is); (case k12 => k_is); (case a13 => k_is); (case l13 => k_is); (case c13 => k_is); (case k13 => k_is); (case e13 => rfl); (case u13 => k_is); (case v13t => rfl); (case n13 => first | kernel_rfl | rfl | with_unfolding_all rfl); (case a14 => k_is); (case l14 => k_is); (case c14 => k_is); (case k14 => k_is); (case a15 => k_is); (case l15 => k_is); (case c15 => k_is); (case k15 => k_is); (case e15 => rfl); (case u15 => k_is); (case v15t => rfl); (case n15 => first | kernel_rfl | rfl | with_unfolding_all rfl); (case a16 => k_is); (case l16 => k_is); (case c16 => k_is); (case k16 => k_is); (case a17 => k_is); (case l17 => k_is); (case c17 => k_is); (case k17 => k_is); (case a18 => k_is); (case l18 => k_is); (case c18 => k_is); (case k18 => k_is); (case a19 => k_is); (case l19 => k_is); (case c19 => k_is); (case k19 => k_is); (case a20 => k_is); (case l20 => k_is); (case c20 => k_is); (case k20 => k_is); (case a21 => k_is); (case l21 => k_is); (case c21 => k_is); (case k21 => k_is); (case a22 => k_is); (case l22 => k_is); (case c22 => k_is); (case k22 => k_is); (case a23 => k_is); (case l23 => k_is); (case c23 => k_is); (case k23 => k_is); (case a24 => k_is); (case l24 => k_is); (case c24 => k_is); (case k24 => k_is); (case a25 => k_is); (case l25 => k_is); (case c25 => k_is); (case k25 => k_is); (case a26 => k_is); (case l26 => k_is); (case c26 => k_is); (case k26 => k_is); (case a27 => k_is); (case l27 => k_is); (case c27 => k_is); (case k27 => k_is); (case a28 => k_is); (case l28 => k_is); (case c28 => k_is); (case k28 => k_is); (case a29 => k_is); (case l29 => k_is); (case c29 => k_is); (case k29 => k_is); (case a30 => k_is); (case l30 => k_is); (case c30 => k_is); (case k30 => k_is); (case k1a => k_is); (case k2a => k_is); (case k2b => k_is); (case k2c => first | rfl | decide +kernel); (case k2d => k_is); (case k2e => k_is); (case k2f => k_is); (case k2g => k_is); (case k2h => k_is); (case k2i => k_is); (case k2j => k_is); (case k2k => k_is); (case k2l => k_is); (case k2m => k_is); (case k2n => k_is); (case k2o => k_is); (case k2p => first | k_is | rfl | decide +kernel | kernel_rfl); (case k2q => first | k_is | rfl | decide +kernel | kernel_rfl); (case k2r => first | k_is | rfl | decide +kernel | kernel_rfl); (case k2u => first | k_is | rfl | decide +kernel | kernel_rfl); (case k2s0 => k_is); (case k2s1 => k_is); (case k2v => first | k_is | rfl | decide +kernel | kernel_rfl); (case k2w => first | k_is | rfl | decide +kernel | kernel_rfl); (case k2x => first | k_is | rfl | decide +kernel | kernel_rfl); (case k2y => first | k_is | rfl | decide +kernel | kernel_rfl); (case k2z0 => first | k_is | rfl | decide +kernel | kernel_rfl); (case k2z1 => first | k_is | rfl | decide +kernel | kernel_rfl); (case k2z2 => first | k_is | rfl | decide +kernel | kernel_rfl); (case k2z3 => first | k_is | rfl | decide +kernel | kernel_rfl); (case k2z4 => first | k_is | rfl | decide +kernel | kernel_rfl); (case k2z5 => first | k_is | rfl | decide +kernel | kernel_rfl); (case k2z6 => first | k_is | rfl | decide +kernel | kernel_rfl); (case k2z7 => first | k_is | rfl | decide +kernel | kernel_rfl); (case k2z8 => first | k_is | rfl | decide +kernel | kernel_rfl); (case k2z9 => first | k_is | rfl | decide +kernel | kernel_rfl); (case k3a => k_is); (case k4a => k_is); (case k5a => k_is); (case k6a => k_is); (case k7a => k_is); (case k8a => k_is); (case k8b => k_is); (case k8c => first | rfl | decide +kernel); (case k8d => k_is); (case k8e => k_is); (case k8f => k_is); (case k8g => k_is); (case k8h => k_is); (case k8i => k_is); (case k8j => k_is); (case k8k => k_is); (case k8l => k_is); (case k8m => k_is); (case k8n => k_is); (case k8o => k_is); (case k8p => first | k_is | rfl | decide +kernel | kernel_rfl); (case k8q => first | k_is | rfl | decide +kernel | kernel_rfl); (case k8r => first | k_is | rfl | decide +kernel | kernel_rfl); (case k8s0 => k_is); (case k8v => first | k_is | rfl | decide +kernel | kernel_rfl); (case k8w => first | k_is | rfl | decide +kernel | kernel_rfl); (case k8x => first | k_is | rfl | decide +kernel | kernel_rfl); (case k8y => first | k_is | rfl | decide +kernel | kernel_rfl); (case k8z0 => first | k_is | rfl | decide +kernel | kernel_rfl); (case k8z1 => first | k_is | rfl | decide +kernel | kernel_rfl); (case k8z2 => first | k_is | rfl | decide +kernel | kernel_rfl); (case k8z3 => first | k_is | rfl | decide +kernel | kernel_rfl); (case k8z4 => first | k_is | rfl | decide +kernel | kernel_rfl); (case k8z5 => first | k_is | rfl | decide +kernel | kernel_rfl); (case k8z6 => first | k_is | rfl | decide +kernel | kernel_rfl); (case k8z7 => first | k_is | rfl | decide +kernel | kernel_rfl); (case k8z8 => first | k_is | rfl | decide +kernel | kernel_rfl); (case k8z9 => first | k_is | rfl | decide +kernel | kernel_rfl); (case k9a => k_is); (case k10a => k_is); (case k11a => k_is); (case v1 => k_is); (case z1 => k_is); (case z2 => k_is); (case z3 => k_is); (case z4 => k_is); (case z5 => k_is); (case z6 => k_is); (case z7 => k_is); (case z8 => k_is); (case z9 => k_is); (case z10 => k_is); (case z11 => k_is); (case z12 => k_is); (case z13 => k_is); (case z14 => k_is); (case r4 => rfl); (case r9 => rfl); (case r11 => rfl); (case r13 => rfl); (case r15 => rfl); (case x9_4 => decide); (case x9_11 => decide); (case x9_13 => decide); (case x9_15 => decide)
