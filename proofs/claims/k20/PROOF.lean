import PyProof.Rows.All
import Wide.All
import OpenK.AllK
import Wide.FinOn
import HandS.ForMost
import HandS.IsInst
import HandS.TupLe
import HandS.Flow
import HandS.GenList
import HandS.AnyAll
import HandS.EndTab
import HandS.Walk
import HandS.TupAny
import HandS.Rev
import HandS.Zip
import HandS.More
import KE.KeyNested
import KE.KDictKeyed
import KE.LtData
import KE.SortKeyHeap
import HandS.SortKw
import HandS.Keys
import KE.KDictWalk
import KE.KDictSum
import HandS.DictComp
import HandS.ExcInit
import HandS.ExcField
import HandS.ExcIs
import HandS.ExcOwn
import HandS.WordsExc
import PyProof.NeKinds
import HandS.Replace
import HandS.Text
import HandS.Strs
import PySem.Challenge.RW_cardsback_k20_visits_answer_several
import HandS.SetKeys
import HandS.TupSets
import KE.SortCalls
import PyProof.Rows.SortKeyStr
import HandS.DictTup
import HandS.Conv
import KE.DataMinMax
import HandS.Style
set_option Elab.async false
set_option linter.all false
set_option maxRecDepth 100000
/-! My own words for these laws: the tap, kept heaps, repr of flat things. -/
namespace My
open PySem PySem.Spec PyProof.Rows L2
/-! ### heaps -/
/-- all but t is as it was -/
def Kp (t : Addr) (H H' : Hp) : Prop := ∀ b o, b ≠ t → H b = some o → H' b = some o
theorem Kp.refl (t : Addr) (H : Hp) : Kp t H H := fun _ _ _ h => h
theorem Kp.trans {t : Addr} {H H1 H2 : Hp} (a : Kp t H H1) (b : Kp t H1 H2) : Kp t H H2 := fun c o n h => b c o n (a c o n h)
theorem Kp.own {t : Addr} {H H1 : Hp} {o : HO} (a : Kp t H H1) : Kp t H (upd H1 t o) := fun b x n h => by rw [upd_ne n]; exact a b x n h
theorem Kp.new {t p : Addr} {H H1 : Hp} {o : HO} (a : Kp t H H1) (hp : H1 p = none) : Kp t H (upd H1 p o) := fun b x n h => by
  have h1 := a b x n h
  rw [upd_ne (ne_of_none h1 hp)]
  exact h1
theorem Kp.of_same {t : Addr} {H H1 : Hp} (a : Same H H1) : Kp t H H1 := fun b o _ h => a b o h
theorem same_upd {H : Hp} {p : Addr} {o : HO} (h : H p = none) : Same H (upd H p o) := fun b x e => by
  rw [upd_ne (ne_of_none e h)]
  exact e
theorem upd_upd' {H : Hp} {p : Addr} {a b : HO} : upd (upd H p a) p b = upd H p b := by
  funext x
  unfold upd
  by_cases h : x = p <;> simp [h]
theorem upd_comm' {H : Hp} {p r : Addr} {a b : HO} (n : p ≠ r) : upd (upd H p a) r b = upd (upd H r b) p a := by
  funext x
  unfold upd
  by_cases h : x = p
  · by_cases k : x = r
    · exact absurd (h.symm.trans k) n
    · simp [h, n]
  · by_cases k : x = r
    · simp [k, n.symm]
    · simp [h, k]
theorem upd_free {H : Hp} {p x : Addr} {o : HO} (e : upd H p o x = none) : x ≠ p ∧ H x = none := by
  by_cases h : x = p
  · rw [h, upd_same] at e
    cases e
  · rw [upd_ne h] at e
    exact ⟨h, e⟩
theorem sz {n : Nat} (h : n ≤ 1000) : n ≤ sizeLine := Nat.le_of_lt (small1000 h)
theorem tYesT {σ : L2.St} {H : Hp} {A B : Hp → Prop} (h : A H) : tYes σ H (fun b H3 => if b = true then A H3 else B H3) := by
  show if true = true then A H else B H
  exact iteT h
/-! ### the tap -/
def kt (c s r n : V) : List (Key × V) := [(.inr "cells", c), (.inr "spot", s), (.inr "rest", r), (.inr "calls", n)]
theorem kt_cells (c s r n : V) : valV (kt c s r n) (.inr "cells") = some c := rfl
theorem kt_spot (c s r n : V) : valV (kt c s r n) (.inr "spot") = some s := rfl
theorem kt_rest (c s r n : V) : valV (kt c s r n) (.inr "rest") = some r := rfl
theorem kt_calls (c s r n : V) : valV (kt c s r n) (.inr "calls") = some n := rfl
theorem put_spot (c s r n v : V) : putK (kt c s r n) (.inr "spot") v = kt c v r n := rfl
theorem put_rest (c s r n v : V) : putK (kt c s r n) (.inr "rest") v = kt c s v n := rfl
theorem put_calls (c s r n v : V) : putK (kt c s r n) (.inr "calls") v = kt c s r v := rfl
theorem kt_len (c s r n : V) : (kt c s r n).length < sizeLine := small1000 (by show 4 ≤ 1000; decide)
theorem g_cells {H : Hp} {t : Addr} {c s r n : V} (h : H t = some (.dK (kt c s r n))) : DGet H t (.str "cells") (some c) := DGet.k (k := .inr "cells") h
theorem g_spot {H : Hp} {t : Addr} {c s r n : V} (h : H t = some (.dK (kt c s r n))) : DGet H t (.str "spot") (some s) := DGet.k (k := .inr "spot") h
theorem g_rest {H : Hp} {t : Addr} {c s r n : V} (h : H t = some (.dK (kt c s r n))) : DGet H t (.str "rest") (some r) := DGet.k (k := .inr "rest") h
theorem g_calls {H : Hp} {t : Addr} {c s r n : V} (h : H t = some (.dK (kt c s r n))) : DGet H t (.str "calls") (some n) := DGet.k (k := .inr "calls") h
theorem p_spot {H : Hp} {t : Addr} {c s r n v : V} (h : H t = some (.dK (kt c s r n))) : DPut H t (.str "spot") v (upd H t (.dK (kt c v r n))) := DPut.k (k := .inr "spot") h (kt_len _ _ _ _)
theorem p_rest {H : Hp} {t : Addr} {c s r n v : V} (h : H t = some (.dK (kt c s r n))) : DPut H t (.str "rest") v (upd H t (.dK (kt c s v n))) := DPut.k (k := .inr "rest") h (kt_len _ _ _ _)
theorem p_calls {H : Hp} {t : Addr} {c s r n v : V} (h : H t = some (.dK (kt c s r n))) : DPut H t (.str "calls") v (upd H t (.dK (kt c s r v))) := DPut.k (k := .inr "calls") h (kt_len _ _ _ _)
/-- a tap at t that was asked at most n times -/
def Tap (H : Hp) (t : Addr) (n : Nat) : Prop := ∃ (c : Addr) (ns : List Int) (sp re ca : Int),
  H t = some (.dK (kt (.ref c) (.int sp) (.int re) (.int ca))) ∧ H c = some (.lst (ns.map V.int)) ∧ ns.length ≤ 63 ∧ 0 ≤ sp ∧ 0 ≤ re ∧ 0 ≤ ca ∧ ca ≤ n
theorem Tap.mono {H : Hp} {t : Addr} {n m : Nat} (h : Tap H t n) (le : n ≤ m) : Tap H t m := by
  obtain ⟨c, ns, sp, re, ca, h1, h2, h3, h4, h5, h6, h7⟩ := h
  exact ⟨c, ns, sp, re, ca, h1, h2, h3, h4, h5, h6, by omega⟩
theorem Tap.same {H H' : Hp} {t : Addr} {n : Nat} (h : Tap H t n) (s : Same H H') : Tap H' t n := by
  obtain ⟨c, ns, sp, re, ca, h1, h2, h3⟩ := h
  exact ⟨c, ns, sp, re, ca, s _ _ h1, s _ _ h2, h3⟩
theorem Tap.new {H : Hp} {t p : Addr} {o : HO} {n : Nat} (h : Tap H t n) (hp : H p = none) : Tap (upd H p o) t n := h.same (same_upd hp)
theorem Tap.ne {H : Hp} {t p : Addr} {n : Nat} (h : Tap H t n) (hp : H p = none) : p ≠ t := fun z => by
  obtain ⟨c, ns, sp, re, ca, h1, _⟩ := h
  rw [z, h1] at hp
  cases hp
theorem Tap.upd_other {H : Hp} {t p : Addr} {o o' : HO} {n : Nat} (h : Tap H t n) (hp : H p = some o) (h1 : ∀ x, o ≠ .dK x) (h2 : ∀ x : List Int, o ≠ .lst (x.map V.int)) : Tap (upd H p o') t n := by
  obtain ⟨c, ns, sp, re, ca, e1, e2, h3⟩ := h
  refine ⟨c, ns, sp, re, ca, ?_, ?_, h3⟩
  · rw [upd_ne]
    · exact e1
    · intro z
      rw [z, hp] at e1
      exact h1 _ (Option.some.inj e1)
  · rw [upd_ne]
    · exact e2
    · intro z
      rw [z, hp] at e2
      exact h2 _ (Option.some.inj e2)
/-- the promise of the tap's draw -/
def spTake : Sp := fun vs H Q _ => ∃ (t : Addr) (m : Int) (n : Nat), vs = [.ref t, .int m] ∧ 0 < m ∧ m < 1000000 ∧ Tap H t n ∧ n < 1000000 ∧
  ∀ v H', 0 ≤ v → v < m → Tap H' t (n + 1) → Kp t H H' → Q (.int v) H'
def spTap (K : PySem.W.Frag) : Sp := fun vs H Q _ => ∃ (a : Addr) (ns : List Int), vs = [.ref a] ∧ SqL K H a (ns.map V.int) ∧
  ∀ t H', Same H H' → H t = none → Tap H' t 0 → Q (.ref t) H'
theorem pow5 (x : Int) (h0 : 0 ≤ x) (h1 : x < 2 ^ 60) : CPow x 5 := ⟨by decide, by decide, by omega⟩
theorem pow5b (y c : Int) (h0 : 0 ≤ c) (h1 : c ≤ 1000000) : CPow (y % 2147483647 + 4099 * c * c) 5 := by
  have a : 0 ≤ 4099 * c * c := Int.mul_nonneg (by omega) h0
  have b : 4099 * c * c ≤ 4099000000 * 1000000 := Int.mul_le_mul (by omega) h1 h0 (by omega)
  exact pow5 _ (by omega) (by omega)
/-! ### repr of flat things -/
def showF : V → Str
  | .non => "None"
  | .bl b => if b then "True" else "False"
  | .int i => toString i
  | _ => ""
def smallV : V → Prop
  | .non => True
  | .bl _ => True
  | .int i => i.natAbs.log2 < 1920
  | _ => False
section
variable {X : Cx}
theorem call_reprF : CallR X (.builtin "repr") (fun xs H Q => ∃ v, xs = [v] ∧ smallV v ∧ Q (.str (showF v)) H) := by
  intro pins s σ H xs us Q I r h
  obtain ⟨v, rfl, hz, q⟩ := h
  obtain ⟨u, rfl, ru⟩ := vals1 r
  cases v with
  | non => cases ru; exact PySem.P.repr_of_none ⟨.str _, H, I.tok _, ⟨_, rfl⟩, q⟩
  | bl b => cases ru; exact PySem.P.repr_of_bool ⟨.str _, H, I.tok _, ⟨_, rfl⟩, q⟩
  | int i =>
    obtain ⟨t, rfl⟩ := ru
    exact PySem.P.repr_of_int hz ⟨.str _, H, I.tok _, ⟨_, rfl⟩, q⟩
  | _ => exact hz.elim
end
theorem small_nat {i : Int} (h0 : -1000000 < i) (h1 : i < 1000000) : i.natAbs.log2 < 1920 := by
  by_cases z : i.natAbs = 0
  · rw [z]; decide
  · refine Nat.lt_of_lt_of_le ((Nat.log2_lt z).mpr (show i.natAbs < 2 ^ 20 by omega)) (by decide)
end My

set_option Elab.async false
set_option linter.all false
set_option maxRecDepth 100000
set_option maxHeartbeats 2000000
/-! My own rule for all(..) and any(..) of a generator expression: the walked thing by PI, the element by PE, whatever it calls. -/
namespace GE
open PySem PySem.Spec PyProof.Rows L2 GenW
/-- where a generator expression's own frame runs -/
abbrev gctx (X : Cx) (A : Around) (s : Shared) (H : Hp) (scope : Scope) (cenv : Env) (fp : List Addr) : Cx :=
  { X with A := A, s_0 := s, H_0 := H, env := cenv, outer := X.stack, stack := cenv :: X.stack, ex := fp, fn := fun x => scope.names.lookup x == some .cell, pn := [], xe := fun _ _ => False }
/-- only the book of generators and the counts have changed -/
theorem inv_heap {X : Cx} {pins : List (Addr × Obj)} {σ : L2.St} {H : Hp} {s s' : Shared} (I : Inv X pins σ H s) (hh : s'.heap = s.heap) (ho : s'.os = s.os) (hb : AllBare s'.gens) : Inv X pins σ H s' :=
  ⟨I.ok, ho.trans I.os, hb, by rw [hh]; exact I.base, by rw [hh]; exact I.loc, by rw [hh]; exact I.cell, I.free, I.freeC, by rw [hh]; exact I.pin, by rw [hh]; exact I.hok, I.len⟩
theorem over_gen {A : Around} {elt tg iter : Expr} {ifs : List Expr} {scope : Scope} {pos : Pos} {it : Value} {env : Env} :
    A.over (.compLoop (.GeneratorExp elt [⟨tg, iter, ifs, 0⟩] scope pos) 0 it .none env) [] = A.deeper env := rfl
section
variable {X : Cx} {pins : List (Addr × Obj)} {σ : L2.St} {H : Hp} {s : Shared}
theorem gen_start {scope : Scope} {own : List (Str × Nat)} {fp : List Addr} {A : Around} {code itv : Value} {h' : Heap} {g' : Array GenState} {tk : Nat} {go : Obj}
    (I : Inv X pins σ H s) (ok : BlkOk X.N X.env.scope scope own) (hN : X.N.Nodup) (hcell : ∀ y ∈ scope.names, y.2 ≠ .cell) (hfp : ∀ b ∈ fp, FpOk X pins H b ∧ b < s.heap.objs.size)
    (hA : A.handled = none) (hF : A.frames = some (genEnv scope (cloFrom X.env.cells scope.names []) s.heap.objs.size code builtinsNs X.env :: X.stack))
    (hn : h'.Ns s.heap.objs.size (fun y => if y = ".0" then some itv else none)) (hk : ∀ b o, s.heap.get? b = some o → h'.get? b = some o)
    (hgo : ∀ v, go.data ≠ .cell v) (hga : (h'.push go).get? h'.objs.size = some go) (hsz : h'.objs.size = s.heap.objs.size + 1) (hb : AllBare g') :
    Inv (gctx X A s H scope (genEnv scope (cloFrom X.env.cells scope.names []) s.heap.objs.size code builtinsNs X.env) fp) [(h'.objs.size, go)] (wipe σ (own.map (·.2))) H
      { s with gens := g', toks := tk, heap := h'.push go } := by
  generalize hce : genEnv scope (cloFrom X.env.cells scope.names []) s.heap.objs.size code builtinsNs X.env = cenv at hF ⊢
  have eL : cenv.locals = s.heap.objs.size := by rw [← hce]; rfl
  have eC : cenv.cells = cloFrom X.env.cells scope.names [] := by rw [← hce]; rfl
  have eS : cenv.scope = scope := by rw [← hce]; rfl
  have kp : ∀ b o, s.heap.get? b = some o → (h'.push go).get? b = some o := fun b o e => Heap.get?_push_of_some _ (hk b o e)
  have got : ∀ y ∈ scope.names, y.2 = .free → ∃ c, X.env.cells.lookup y.1 = some c := fun y hy e => by
    rcases ok.free y hy e with z | z
    · exact I.ok.has _ (.inl z)
    · exact I.ok.has _ (.inr z)
  have inX : ∀ {y c}, cenv.cells.lookup y = some c → X.env.cells.lookup y = some c ∧ c < s.heap.objs.size := fun {y c} e => by
    rw [eC] at e
    rcases cloFrom_mem (PySem.mem_of_lookup e) with z | ⟨z, q⟩
    · cases z
    · obtain ⟨d, hd⟩ := got _ z rfl
      rw [hd] at q
      have q : c = d := q
      subst q
      obtain ⟨v, hv⟩ := I.cell _ _ hd
      exact ⟨hd, hv.lt⟩
  have has : ∀ {y}, scope.names.lookup y = some .free → ∃ c, cenv.cells.lookup y = some c := fun {y} hl => by
    obtain ⟨c, e⟩ := mem_lookup (cloFrom_has (cells := X.env.cells) (acc := []) (PySem.mem_of_lookup hl))
    exact ⟨c, by rw [eC]; exact e⟩
  have okG : (gctx X A s H scope cenv fp).Ok := by
    refine ⟨I.ok.mod, ?_, ?_, ?_, ?_, ?_, ?_, ?_, fun _ => hA, hF, .inr ⟨rfl, ?_⟩, fun b hb => ⟨?_, ?_⟩, I.bs, Nat.le_trans I.ok.bsz I.sz, ?_, ?_, I.stack, I.stkFree⟩
    · show cenv.scope.kind = _
      rw [eS]; exact ok.kind
    · show cenv.globals = _
      rw [← hce]; exact I.ok.glob
    · show cenv.builtins = _
      rw [← hce]; rfl
    · show s.heap.objs.size ≤ cenv.locals
      rw [eL]; exact Nat.le_refl _
    · intro y z c e1 e2
      exact I.ok.inj y z c (inX e1).1 (inX e2).1
    · intro y hy
      have hy : cenv.scope.names.lookup y = some .cell ∨ cenv.scope.names.lookup y = some .free := hy
      rw [eS] at hy
      rcases hy with z | z
      · exact absurd rfl (hcell _ (PySem.mem_of_lookup z))
      · exact has z
    · intro y c z _
      have z : (scope.names.lookup y == some NameKind.cell) = true := z
      have z : scope.names.lookup y = some .cell := by simpa using z
      exact absurd rfl (hcell _ (PySem.mem_of_lookup z))
    · show cenv.frame = some cenv.locals
      rw [← hce]; rfl
    · show b ≠ cenv.locals
      rw [eL]; exact Nat.ne_of_lt (hfp b hb).2
    · intro y c e z
      exact (hfp b hb).1.2.2.2.2.1 y c (inX e).1 z
    · intro b o e hb
      rcases (hfp b hb).1.2.2.2.1 with z | z
      · exact I.ok.noex b o e z
      · exact absurd (Nat.lt_of_lt_of_le (Heap.lt_size e) (Nat.le_trans I.ok.bsz z)) (Nat.lt_irrefl _)
    · intro b hb z
      rcases List.mem_cons.mp (I.stkSub b z) with q | q
      · exact (hfp b hb).1.2.1 q
      · exact (hfp b hb).1.2.2.1 q
  refine ⟨okG, rfl, hb, Un.kept kp, ⟨fun y => if y = ".0" then some itv else none, ?_, fun i y v e1 e2 e3 => ?_⟩, fun y c e => ?_, ?_, fun y c e => ?_, fun p hp => ?_, I.hok.kept kp, ?_⟩
  · show Heap.Ns _ cenv.locals _
    rw [eL]; exact hn.keeps fun b o e => Heap.get?_push_of_some _ e
  · obtain ⟨e2, hne⟩ := wipe_some e2
    have e3 : Vis cenv.scope y := e3
    rw [eS] at e3
    have no : ∀ k, scope.names.lookup y = some k → k = .local ∨ k = .cell → False := fun k hl hk => by
      rcases ok.own _ (PySem.mem_of_lookup hl) hk with z | z
      · obtain ⟨p, hp, ep⟩ := List.mem_map.mp z
        have q := ok.ix p hp
        have ep : p.1 = y := ep
        rw [ep] at q
        exact hne (List.mem_map.mpr ⟨p, hp, nodup_ix hN q e1⟩)
      · exact z (List.mem_of_getElem? e1)
    have fr : scope.names.lookup y = some .free := by
      rcases e3 with z | z | z
      · exact (no _ z (.inl rfl)).elim
      · exact (no _ z (.inr rfl)).elim
      · exact z
    obtain ⟨c, hc⟩ := has fr
    have kinds := ok.free _ (PySem.mem_of_lookup fr) rfl
    obtain ⟨m, _, hl⟩ := I.loc
    obtain ⟨u, ru, look⟩ := hl i y v e1 e2 (kinds.elim (fun z => .inr (.inl z)) fun z => .inr (.inr z))
    refine ⟨u, ru, .inr ⟨.inr ?_, c, hc, ?_⟩⟩
    · show cenv.scope.names.lookup y = _
      rw [eS]; exact fr
    · rcases look with ⟨z, _⟩ | ⟨_, c2, hc2, z⟩
      · have z : X.env.scope.names.lookup y = some .local := z
        rcases kinds with q | q <;> rw [show X.env.scope.names.lookup y = _ from q] at z <;> cases z
      · rw [(inX hc).1] at hc2
        cases hc2
        exact z.keeps kp
  · obtain ⟨v, hv⟩ := I.cell y c (inX e).1
    exact ⟨v, hv.keeps kp⟩
  · show H cenv.locals = none
    rw [eL]; exact I.hok.fresh (Nat.le_refl _)
  · exact I.freeC y c (inX e).1
  · have hp : p = (h'.objs.size, go) := by simpa using hp
    subst hp
    refine ⟨hga, I.hok.fresh (by omega), ?_, fun z => ?_, hgo⟩
    · show h'.objs.size ≠ cenv.locals
      rw [eL]; omega
    · rcases List.mem_cons.mp (I.stkSub _ z) with q | q
      · have q : h'.objs.size = X.env.locals := q
        have z2 := I.lt
        rw [← q, hsz] at z2
        exact absurd z2 (Nat.not_lt.mpr (Nat.le_succ _))
      · exact I.nofs (by omega) q
  · rw [wipe_length]; exact I.len
/-- what a generator expression hands out, and its end, by what the def's reading wants: Qt at its end, Qs where a truth like st is handed out -/
def GR (Y : Cx) (pn : List (Addr × Obj)) (Qt : Hp → Prop) : GenEnd := fun _ _ r s1 =>
  ((r = .ok (.ret .none) ∨ r = .ok .next) ∧ ∃ σ' H', Inv Y pn σ' H' s1 ∧ Qt H') ∨ ∃ e, r = .error e ∧ (fun (_ : Value) (_ : Shared) => False) e s1
def GY (Y : Cx) (pn : List (Addr × Obj)) (st : Bool) (Qs : Hp → Prop) : Protocol := fun _ _ v s1 kap =>
  ∃ c σ' H', v = .bool c ∧ Inv Y pn σ' H' s1 ∧ (c = st → Qs H') ∧ (c ≠ st → ∀ s2 : Shared, s2.heap = s1.heap → s2.os = s1.os → AllBare s2.gens → kap (.send .none) s2)
/-- one turn's reading -/
def Step (J : It) (g : TG) (tt : TT) (te : TE) (vs : List Nat) (σ : L2.St) (st : Bool) (Qt Qs : Hp → Prop) (W : Nat → Nat → Hp → Prop) (i m : Nat) (H : Hp) : Prop :=
  (J.stop i H ∧ Qt H) ∨ (J.go i H ∧ ∃ Nx : Hp → Prop, (∀ H', Nx H' → ∃ m', m' < m ∧ W (i + 1) m' H') ∧ ∀ x H', J.yld i H x H' → g x (wipe σ vs) H' fun σ2 H2 => wipe σ2 vs = wipe σ vs ∧ tt σ2 H2 fun b H3 =>
    if b = true then te σ2 H3 fun y H4 => ∃ c, y = .bl c ∧ (c = st → Qs H4) ∧ (c ≠ st → Nx H4) else Nx H3)
theorem wpF {α : Type} {M : Model} {A : Around} {t : Sem α} {Q Q' : α → Shared → Prop} {E : Value → Shared → Prop} {s : Shared} (h : wpAny M A t Q (fun _ _ => False) s) (k : ∀ a s', Q a s' → Q' a s') : wpAny M A t Q' E s :=
  wpAny_mono h k fun _ _ z => z.elim
theorem seg_turns {A0 : Around} {s3 : Shared} {H3 : Hp} {scope : Scope} {cenv : Env} {fp : List Addr} {pn : List (Addr × Obj)} {it : Addr} {J : It} {tn : Nat → Heap → Prop} {elt tg iter : Expr} {ifs : List Expr} {pos : Pos} {vs : List Nat}
    {g : TG} {tt : TT} {te : TE} {st : Bool} {Qt Qs : Hp → Prop} {W : Nat → Nat → Hp → Prop} (hc : X.calm = true) (hco : cenv.scope.isCoroutine = false) (hpn : ∀ p ∈ pn, p.1 ∉ fp)
    (T : Turn X.prog X.w X.K tg J fp it tn) (pg : PG (gctx X (A0.deeper cenv) s3 H3 scope cenv fp) tg g) (pt : PTs (gctx X (A0.deeper cenv) s3 H3 scope cenv fp) ifs tt) (pe : PE (gctx X (A0.deeper cenv) s3 H3 scope cenv fp) elt te)
    (turn : ∀ i m H', W i m H' → Step J g tt te vs σ st Qt Qs W i m H') :
    ∀ (m n : Nat), m < n → ∀ (i : Nat) (s0 s1 : Shared) (H' : Hp), Inv (gctx X (A0.deeper cenv) s3 H3 scope cenv fp) pn (wipe σ vs) H' s1 → tn i s1.heap → (∀ b ∈ fp, H' b = none) → W i m H' →
      Seg (model X.prog X.w) A0 (GR (gctx X (A0.deeper cenv) s3 H3 scope cenv fp) pn Qt) (GY (gctx X (A0.deeper cenv) s3 H3 scope cenv fp) pn st Qs) n s0
        (.compLoop (.GeneratorExp elt [⟨tg, iter, ifs, 0⟩] scope pos) 0 (.ref it) .none cenv) ((model X.prog X.w).den (.compLoop (.GeneratorExp elt [⟨tg, iter, ifs, 0⟩] scope pos) 0 (.ref it) .none cenv)) [] s1 := by
  intro m
  induction m using Nat.strongRecOn with
  | ind m ih =>
    intro n hmn i s0 s1 H1 I1 t1 f1 w1
    have own : ∀ {pl : List (Addr × Obj)} {σ' : L2.St} {H' : Hp} {s' : Shared}, (∀ p ∈ pl, p.1 ∉ fp) → Inv (gctx X (A0.deeper cenv) s3 H3 scope cenv fp) pl σ' H' s' → (∀ b ∈ fp, H' b = none) → ∀ b ∈ fp, FpOk (gctx X (A0.deeper cenv) s3 H3 scope cenv fp) pl H' b :=
      fun {pl σ' H' s'} hpl I' hn b hb => ⟨hn b hb, (I'.ok.exf b hb).1, I'.ok.exfs b hb, .inl hb, fun x c e => (I'.ok.exf b hb).2 x c e, fun p hp z => hpl p (by simpa using hp) (by rw [z]; exact hb)⟩
    show Seg _ A0 _ _ _ s0 _ ((compTurn (.GeneratorExp elt [⟨tg, iter, ifs, 0⟩] scope pos) 0 (.ref it) .none cenv).onRaise (leaving cenv)) [] s1
    rw [compTurn_gen]
    rw [Sem.onRaise_eq_wrap]
    refine seg_bind_wrap (wpAny_standAt ?_)
    rcases turn i m H1 w1 with ⟨stop, qt⟩ | ⟨go, Nx, hNx, step⟩
    · refine seg_bind_wrap (wpF (T.done (gctx X (A0.deeper cenv) s3 H3 scope cenv fp) rfl rfl rfl hc i pn s1 _ H1 (fun _ _ => False) I1 (own hpn I1 f1) t1 stop) fun r s2 ⟨hr, I2⟩ => ?_)
      subst hr
      exact seg_end (.ok .next) (.inl ⟨.inr rfl, _, H1, I2, qt⟩)
    · refine seg_bind_wrap (wpF (T.item (gctx X (A0.deeper cenv) s3 H3 scope cenv fp) rfl rfl rfl hc i pn s1 _ H1 (fun _ _ => False) I1 (own hpn I1 f1) t1 go) fun r s2 ⟨u, hr, h2⟩ => ?_)
      subst hr
      refine seg_bind_wrap (wpF h2 fun _ s4 ⟨x, H4, I4, r4, y4, t4, f4⟩ => ?_)
      have P4 := I4.pinned (own hpn I4 f4) (T.obj _ _ t4)
      refine seg_bind_wrap (wpF (pg.run _ s4 _ H4 x u _ P4 r4 (step x H4 y4)) fun _ s5 ⟨σ5, H5, I5, w5, q5⟩ => ?_)
      refine seg_bind_wrap (wpF (pt.run _ s5 σ5 H5 _ I5 q5) fun b s6 ⟨H6, I6, q6⟩ => ?_)
      have back : ∀ {s' : Shared} {H' : Hp}, Inv (gctx X (A0.deeper cenv) s3 H3 scope cenv fp) (pn ++ pinsAt fp s4.heap) σ5 H' s' →
          Inv (gctx X (A0.deeper cenv) s3 H3 scope cenv fp) pn (wipe σ vs) H' s' ∧ tn (i + 1) s'.heap ∧ ∀ b ∈ fp, H' b = none := fun {s' H'} I' => by
        have at' : ∀ b ∈ fp, ∀ o, s4.heap.get? b = some o → s'.heap.get? b = some o ∧ H' b = none := fun b hb o e =>
          let z := I'.pin (b, o) (List.mem_append_right _ (List.mem_append_right _ (mem_pinsAt hb e)))
          ⟨z.1, z.2.1⟩
        refine ⟨I'.unpinned.weak (by rw [← w5, wipe_length]) fun j v e => ?_, T.keep _ _ _ t4 fun b hb o e => (at' b hb o e).1, fun b hb => ?_⟩
        · rw [← w5] at e
          exact (wipe_some e).1
        · obtain ⟨o, e, _⟩ := T.obj _ _ t4 b hb
          exact (at' b hb o e).2
      cases b with
      | false =>
        have q6 : Nx H6 := by simpa using q6
        obtain ⟨m', hm, w'⟩ := hNx H6 q6
        obtain ⟨I7, t7, f7⟩ := back I6
        simp only [Bool.false_eq_true, if_false]
        exact seg_again rfl (ih m' hm n (by omega) (i + 1) s0 s6 H6 I7 t7 f7 w')
      | true =>
        rw [if_pos rfl] at q6
        simp only [if_true]
        have hy : ∀ v, yieldOut cenv v = yieldValue v := fun v => by
          unfold yieldOut
          simp [hco]
        simp only [hy]
        rw [Sem.bind_eq_wrap', Sem.bind_eq_wrap']
        rw [Sem.wrap_wrap, Sem.wrap_wrap]
        refine seg_wrap (wpF (pe.run _ s6 σ5 H6 _ I6 q6) fun v s7 ⟨yv, H7, I7, r7, c, ec, qs, qn⟩ => ?_)
        subst ec
        obtain rfl : v = Value.bool c := r7
        obtain ⟨I8, t8, f8⟩ := back I7
        obtain ⟨n, rfl⟩ : ∃ k, n = k + 1 := ⟨n - 1, by omega⟩
        refine seg_at (seg_yield rfl rfl rfl ⟨c, _, H7, rfl, I8, qs, fun hne s9 hh ho hb => ?_⟩)
        obtain ⟨m', hm, w'⟩ := hNx H7 (qn hne)
        exact seg_again rfl (ih m' hm n (by omega) (i + 1) s9 s9 H7 (inv_heap I8 hh ho hb) (by rw [hh]; exact t8) f8 w')
/-! ### all and any walk the generator -/
theorem all_walk {Y : Cx} {pn : List (Addr × Obj)} {Qt Qs : Hp → Prop} {A : Around} {R : Result → Shared → Prop} {a : Addr} {go : Obj} {g : Nat} (hh : A.handled = none) (hd : A.depth < recursionLimit)
    (hpa : (a, go) ∈ pn) (hgen : ∀ h : Heap, h.get? a = some go → h.IsGen a g)
    (eT : ∀ σ' H' s', Inv Y pn σ' H' s' → Qt H' → R (.ok (.ret (.bool true))) s') (eF : ∀ σ' H' s', Inv Y pn σ' H' s' → Qs H' → R (.ok (.ret (.bool false))) s') :
    ∀ (n : Nat) (s1 : Shared) (gs : GenState), s1.heap.IsGen a g → s1.heap.NoLimit → s1.gens[g]? = some gs →
      gs.Goes (model Y.prog Y.w) A.in1.in1 (GR Y pn Qt) (GY Y pn false Qs) n (.send .none) (s1.setGen g .running) → codeAny (model Y.prog Y.w) A (.builtin "all.loop" ⟨[.ref a], []⟩) R s1 := by
  intro n
  induction n with
  | zero =>
    intro s1 gs isg lim hgs goes
    refine codeAny_builtin F.entry_all_loop ?_
    rw [Around.under_plainId F.plain_all_loop _]
    show wpAny _ A.in1 (pyNext (.ref a) >>= _) _ _ s1
    refine wpAny_bind (next_genG (A := A.in1) hh lim hd isg hgs goes (fun v s2 gs' hb hv => ?_) (fun s2 hp h' hk => ?_) fun e s2 he => he.elim)
    · obtain ⟨c, σ', H', rfl, I2, q1, q2⟩ := hv
      have I3 : Inv Y pn σ' H' (s2.setGen g gs') := inv_heap I2 rfl rfl (allBare_setGen I2.bare hb)
      refine wpAny_bind (wpAny_holding (wpAny_truthy_bool ?_))
      refine wpAny_bind (wpAny_letGo ?_)
      cases c with
      | true => exact (q2 (by decide) _ rfl rfl I2.bare).elim
      | false =>
        simp only [Bool.false_eq_true, if_false]
        exact wpAny_bind (wpAny_rule (wpAny_pure (eF σ' H' _ I3 (q1 rfl))))
    · obtain ⟨σ', H', I2, q⟩ := hp
      have I3 : Inv Y pn σ' H' (s2.setGen g .finished) := inv_heap I2 rfl rfl (allBare_setGen I2.bare rfl)
      exact wpAny_bind (wpAny_rule (wpAny_pure (eT σ' H' _ (I3.kept (t' := s2.toks) hk) q)))
  | succ n ih =>
    intro s1 gs isg lim hgs goes
    have hgl : g < s1.gens.size := (Array.getElem?_eq_some_iff.mp hgs).1
    refine codeAny_builtin F.entry_all_loop ?_
    rw [Around.under_plainId F.plain_all_loop _]
    show wpAny _ A.in1 (pyNext (.ref a) >>= _) _ _ s1
    refine wpAny_bind (wpAny_gsz (n := g + 1) hgl (next_genG (A := A.in1) hh lim hd isg hgs goes (fun v s2 gs' hb hv => ?_) (fun s2 hp h' hk => ?_) fun e s2 he => he.elim))
    · intro hsz
      obtain ⟨c, σ', H', rfl, I2, q1, q2⟩ := hv
      have I3 : Inv Y pn σ' H' (s2.setGen g gs') := inv_heap I2 rfl rfl (allBare_setGen I2.bare hb)
      refine wpAny_bind (wpAny_holding (wpAny_truthy_bool ?_))
      refine wpAny_bind (wpAny_letGo ?_)
      cases c with
      | true =>
        simp only [if_true]
        have hg2 : g < s2.gens.size := by
          have z : (s2.setGen g gs').gens.size = s2.gens.size := setGen_size _ _ _
          have hsz : g + 1 ≤ (s2.setGen g gs').gens.size := hsz
          omega
        refine wpAny_pure ⟨plainId_quiet F.plain_all_loop _, ih _ gs' (hgen _ (I3.pin (a, go) (List.mem_append_right _ hpa)).1) I3.nolimit (setGen_at hg2) ?_⟩
        exact q2 (by decide) _ rfl rfl (allBare_setGen (s := s2.setGen g gs') I3.bare rfl)
      | false =>
        simp only [Bool.false_eq_true, if_false]
        exact wpAny_bind (wpAny_rule (wpAny_pure (eF σ' H' _ I3 (q1 rfl))))
    · intro _
      obtain ⟨σ', H', I2, q⟩ := hp
      have I3 : Inv Y pn σ' H' (s2.setGen g .finished) := inv_heap I2 rfl rfl (allBare_setGen I2.bare rfl)
      exact wpAny_bind (wpAny_rule (wpAny_pure (eT σ' H' _ (I3.kept (t' := s2.toks) hk) q)))
theorem any_walk {Y : Cx} {pn : List (Addr × Obj)} {Qt Qs : Hp → Prop} {A : Around} {R : Result → Shared → Prop} {a : Addr} {go : Obj} {g : Nat} (hh : A.handled = none) (hd : A.depth < recursionLimit)
    (hpa : (a, go) ∈ pn) (hgen : ∀ h : Heap, h.get? a = some go → h.IsGen a g)
    (eT : ∀ σ' H' s', Inv Y pn σ' H' s' → Qt H' → R (.ok (.ret (.bool false))) s') (eF : ∀ σ' H' s', Inv Y pn σ' H' s' → Qs H' → R (.ok (.ret (.bool true))) s') :
    ∀ (n : Nat) (s1 : Shared) (gs : GenState), s1.heap.IsGen a g → s1.heap.NoLimit → s1.gens[g]? = some gs →
      gs.Goes (model Y.prog Y.w) A.in1.in1 (GR Y pn Qt) (GY Y pn true Qs) n (.send .none) (s1.setGen g .running) → codeAny (model Y.prog Y.w) A (.builtin "any.loop" ⟨[.ref a], []⟩) R s1 := by
  intro n
  induction n with
  | zero =>
    intro s1 gs isg lim hgs goes
    refine codeAny_builtin F.entry_any_loop ?_
    rw [Around.under_plainId F.plain_any_loop _]
    show wpAny _ A.in1 (pyNext (.ref a) >>= _) _ _ s1
    refine wpAny_bind (next_genG (A := A.in1) hh lim hd isg hgs goes (fun v s2 gs' hb hv => ?_) (fun s2 hp h' hk => ?_) fun e s2 he => he.elim)
    · obtain ⟨c, σ', H', rfl, I2, q1, q2⟩ := hv
      have I3 : Inv Y pn σ' H' (s2.setGen g gs') := inv_heap I2 rfl rfl (allBare_setGen I2.bare hb)
      refine wpAny_bind (wpAny_holding (wpAny_truthy_bool ?_))
      refine wpAny_bind (wpAny_letGo ?_)
      cases c with
      | false => exact (q2 (by decide) _ rfl rfl I2.bare).elim
      | true =>
        simp only [if_true]
        exact wpAny_bind (wpAny_rule (wpAny_pure (eF σ' H' _ I3 (q1 rfl))))
    · obtain ⟨σ', H', I2, q⟩ := hp
      have I3 : Inv Y pn σ' H' (s2.setGen g .finished) := inv_heap I2 rfl rfl (allBare_setGen I2.bare rfl)
      exact wpAny_bind (wpAny_rule (wpAny_pure (eT σ' H' _ (I3.kept (t' := s2.toks) hk) q)))
  | succ n ih =>
    intro s1 gs isg lim hgs goes
    have hgl : g < s1.gens.size := (Array.getElem?_eq_some_iff.mp hgs).1
    refine codeAny_builtin F.entry_any_loop ?_
    rw [Around.under_plainId F.plain_any_loop _]
    show wpAny _ A.in1 (pyNext (.ref a) >>= _) _ _ s1
    refine wpAny_bind (wpAny_gsz (n := g + 1) hgl (next_genG (A := A.in1) hh lim hd isg hgs goes (fun v s2 gs' hb hv => ?_) (fun s2 hp h' hk => ?_) fun e s2 he => he.elim))
    · intro hsz
      obtain ⟨c, σ', H', rfl, I2, q1, q2⟩ := hv
      have I3 : Inv Y pn σ' H' (s2.setGen g gs') := inv_heap I2 rfl rfl (allBare_setGen I2.bare hb)
      refine wpAny_bind (wpAny_holding (wpAny_truthy_bool ?_))
      refine wpAny_bind (wpAny_letGo ?_)
      cases c with
      | false =>
        simp only [Bool.false_eq_true, if_false]
        have hg2 : g < s2.gens.size := by
          have z : (s2.setGen g gs').gens.size = s2.gens.size := setGen_size _ _ _
          have hsz : g + 1 ≤ (s2.setGen g gs').gens.size := hsz
          omega
        refine wpAny_pure ⟨plainId_quiet F.plain_any_loop _, ih _ gs' (hgen _ (I3.pin (a, go) (List.mem_append_right _ hpa)).1) I3.nolimit (setGen_at hg2) ?_⟩
        exact q2 (by decide) _ rfl rfl (allBare_setGen (s := s2.setGen g gs') I3.bare rfl)
      | true =>
        simp only [if_true]
        exact wpAny_bind (wpAny_rule (wpAny_pure (eF σ' H' _ I3 (q1 rfl))))
    · intro _
      obtain ⟨σ', H', I2, q⟩ := hp
      have I3 : Inv Y pn σ' H' (s2.setGen g .finished) := inv_heap I2 rfl rfl (allBare_setGen I2.bare rfl)
      exact wpAny_bind (wpAny_rule (wpAny_pure (eT σ' H' _ (I3.kept (t' := s2.toks) hk) q)))
theorem seg_first {A0 : Around} {R : GenEnd} {Y : Protocol} {n : Nat} {s0 s1 : Shared} {elt tg iter : Expr} {ifs : List Expr} {scope : Scope} {pos : Pos} {it : Addr} {cenv : Env} {P : Program} {w : World}
    (self : ∀ (A : Around) (Q : Value → Shared → Prop) (E : Value → Shared → Prop), Q (.ref it) s1 → wpAny (model P w) A (pyIter (.ref it)) Q E s1)
    (loop : Seg (model P w) A0 R Y n s0 (.compLoop (.GeneratorExp elt [⟨tg, iter, ifs, 0⟩] scope pos) 0 (.ref it) .none cenv) ((model P w).den (.compLoop (.GeneratorExp elt [⟨tg, iter, ifs, 0⟩] scope pos) 0 (.ref it) .none cenv)) [] s1) :
    Seg (model P w) A0 R Y n s0 (.compStart (.GeneratorExp elt [⟨tg, iter, ifs, 0⟩] scope pos) 0 (.ref it) .none cenv) ((model P w).den (.compStart (.GeneratorExp elt [⟨tg, iter, ifs, 0⟩] scope pos) 0 (.ref it) .none cenv)) [] s1 := by
  show Seg _ A0 _ _ _ s0 _ ((compStart (.GeneratorExp elt [⟨tg, iter, ifs, 0⟩] scope pos) 0 (.ref it) .none cenv).onRaise (leaving cenv)) [] s1
  unfold compStart
  rw [Sem.onRaise_eq_wrap]
  show Seg _ A0 _ _ _ s0 _ ((ask >>= _).wrap _ _ _ _) [] s1
  refine seg_bind_wrap (wpAny_askSetting ?_)
  split
  · exact seg_again rfl loop
  · first
      | exact seg_bind_wrap (wpAny_rule (seg_bind_wrap (wpAny_standAt (seg_bind_wrap (self _ _ _ (seg_again rfl loop))))))
      | (refine seg_bind_wrap (wpAny_rule ?_); show Seg _ A0 _ _ _ s0 _ ((standAt iter.pos >>= _).wrap _ _ _ _) [] s1; exact seg_bind_wrap (wpAny_standAt (seg_bind_wrap (self _ _ _ (seg_again rfl loop)))))
/-- all(elt for tg in iter if ..), any(..): st is the truth at which it stops; P the table of the def's code -/
def tAG (P : Addr) (st : Bool) (wi : TI) (g : TG) (tt : TT) (te : TE) (vs : List Nat) : TE := fun σ H Q => wi σ H fun J H1 => GxR.TabG H1 P ∧ ∀ H2, GxR.Tabbed P H1 H2 →
  ∃ W : Nat → Nat → Hp → Prop, (∃ m, W 0 m H2) ∧ ∀ i m H', W i m H' → Step J g tt te vs σ st (Q (.bl (!st))) (Q (.bl st)) W i m H'
/-- a generator that stands ready -/
def Made (X : Cx) (pins : List (Addr × Obj)) (σ : L2.St) (st : Bool) (Qt Qs : Hp → Prop) (u : Value) (s5 : Shared) : Prop :=
  ∃ (a : Addr) (Y : Cx) (pn : List (Addr × Obj)) (go : Obj) (g n : Nat) (gs : GenState), u = .ref a ∧ Y.prog = X.prog ∧ Y.w = X.w ∧ (a, go) ∈ pn ∧ (∀ h : Heap, h.get? a = some go → h.IsGen a g) ∧ s5.heap.IsGen a g ∧ s5.heap.NoLimit ∧ s5.gens[g]? = some gs ∧
    gs.Goes (model X.prog X.w) X.A.in1.in1 (GR Y pn Qt) (GY Y pn st Qs) n (.send .none) (s5.setGen g .running) ∧ ∀ σ' H' s', Inv Y pn σ' H' s' → Inv X pins σ H' s'
structure GSc (N : List Str) (sc scope : Scope) (own : List (Str × Nat)) : Prop where
  blk : BlkOk N sc scope own
  co : scope.isCoroutine = false
  cell : ∀ y ∈ scope.names, y.2 ≠ .cell
  dot : scope.names.lookup (".0" : Str) = some NameKind.local
theorem gen_make {c P : Addr} {elt tg iter : Expr} {ifs : List Expr} {gpos : Pos} {scope : Scope} {own : List (Str × Nat)} {st : Bool} {wi : TI} {g : TG} {tt : TT} {te : TE} {k : Nat} {Q : VK}
    (hc : X.calm = true) (hN : X.N.Nodup) (hr : Room (k + 1) X.A) (TB : GxR.TabB X.base X.mg c P) (hcode : X.env.code = .ref c) (S : GSc X.N X.env.scope scope own) (hi : PI X tg iter wi)
    (hg : ∀ (A : Around) (s : Shared) (H : Hp) (C : Addr) (code : Value) (fp : List Addr), Room k A → PG (gctx X A s H scope (genEnv scope (cloFrom X.env.cells scope.names []) C code builtinsNs X.env) fp) tg g)
    (ht : ∀ (A : Around) (s : Shared) (H : Hp) (C : Addr) (code : Value) (fp : List Addr), Room k A → PTs (gctx X A s H scope (genEnv scope (cloFrom X.env.cells scope.names []) C code builtinsNs X.env) fp) ifs tt)
    (he : ∀ (A : Around) (s : Shared) (H : Hp) (C : Addr) (code : Value) (fp : List Addr), Room k A → PE (gctx X A s H scope (genEnv scope (cloFrom X.env.cells scope.names []) C code builtinsNs X.env) fp) elt te)
    (hs : ∀ v, genFold iter X.env v = pure v) (I : Inv X pins σ H s) (h : tAG P st wi g tt te (own.map (·.2)) σ H Q) :
    wpAny (model X.prog X.w) X.A (eval (.GeneratorExp elt [⟨tg, iter, ifs, 0⟩] scope gpos) X.env) (Made X pins σ st (Q (.bl (!st))) (Q (.bl st))) X.xe s := by
  have hfree : ∀ y ∈ scope.names, y.2 = .free → ∃ c, X.env.cells.lookup y.1 = some c := fun y hy e => by
    rcases S.blk.free y hy e with z | z
    · exact I.ok.has _ (.inl z)
    · exact I.ok.has _ (.inr z)
  refine wpAny_GeneratorExp_make S.co (closure_ok hfree) S.cell S.dot S.blk.kind (by have := hr.dp; omega) ?_ hs
  refine thn (hi.run pins s σ H _ I h) fun xv s1 hx => thn hx fun itv s2 h2 => ?_
  obtain ⟨it, fp, tn, J, H1, rfl, I2, T, t2, f2, ⟨ps, hP, htr⟩, q⟩ := h2
  have oP : s2.heap.get? P = some { cls := .none, data := .fields ps } := I2.hok P _ hP
  have cd : PySem.W.CodeHd s2.heap c P := TB.code.keeps I2.bk
  refine ⟨I2.nolimit, ?_⟩
  have nP : ∀ b ∈ fp, b ≠ P := fun b hb z => by
    have q := (f2 b hb).1
    rw [z, hP] at q
    cases q
  have rest : ∀ (code : Value) (h3 : Heap) (tk : Nat) (ps' : Array Value), Heap.ExtBut P s2.heap h3 → h3.get? P = some { cls := .none, data := .fields ps' } → (∃ more, ps' = ps ++ more) → TriplesOk ps'.toList →
      wpAny (model X.prog X.w) X.A (builtinsFor X.env.globals X.env.builtins) (fun bi s4 =>
        ∀ h', h'.Ns s4.heap.objs.size (fun y => if y = ".0" then some (.ref it) else none) → Heap.SameBut s4.heap.objs.size (s4.heap.push { cls := .type "frame", data := .dict #[] }) h' →
          Made X pins σ st (Q (.bl (!st))) (Q (.bl st)) (.ref h'.objs.size) { s4 with
            gens := s4.gens.push (.fresh (.compStart (.GeneratorExp elt [⟨tg, iter, ifs, 0⟩] scope gpos) 0 (.ref it) .none (genEnv scope (cloFrom X.env.cells scope.names []) s4.heap.objs.size code bi X.env))),
            toks := s4.toks + 1 + 1 + 1,
            heap := h'.push { cls := .type "generator", data := .fields #[.int s4.gens.size 0, .str "<genexpr>" (s4.toks + 1), .str (X.env.qual ++ "<genexpr>") (s4.toks + 1 + 1)] } }) X.xe { s2 with heap := h3, toks := tk } := by
    intro code h3 tk ps' hx hP3 hmore htr3
    obtain ⟨bm, ob, b1, b2, b3, b4, b5, b6, b7, b8⟩ := TB.bm
    refine wpAny_builtinsFor (m := X.mg) ?_ b1 b2 (hx _ _ b4 (I2.bk _ _ b5)) b6 b7 b8 ?_
    · rw [I2.ok.glob]
      exact (I2.mod.glob.keeps I2.bk).extBut hx TB.gP
    obtain ⟨more, rfl⟩ := hmore
    have I3 : Inv X pins σ (upd H1 P (.tbl (ps ++ more))) { s2 with heap := h3, toks := tk } := GxR.inv_tab (more := more) (h' := h3) (g' := s2.gens) (d' := s2.drawn) (t' := tk) I2 hP hx hP3 I2.bare
    have tab : GxR.Tabbed P H1 (upd H1 P (.tbl (ps ++ more))) := ⟨⟨_, upd_same, htr3⟩, fun b hb => upd_ne hb⟩
    obtain ⟨W, ⟨m0, w0⟩, turn⟩ := q _ tab
    have t3 : tn 0 h3 := T.keep _ _ _ t2 fun b hb o e => hx b o (nP b hb) e
    have f3 : ∀ b ∈ fp, FpOk X pins (upd H1 P (.tbl (ps ++ more))) b ∧ b < h3.objs.size := fun b hb => by
      refine ⟨⟨?_, (f2 b hb).2⟩, ?_⟩
      · rw [upd_ne (nP b hb)]
        exact (f2 b hb).1
      · obtain ⟨o, e, _⟩ := T.obj _ _ t3 b hb
        exact Heap.lt_size e
    generalize upd H1 P (.tbl (ps ++ more)) = H3 at I3 w0 f3
    intro h' hn' hs'
    generalize hs4 : ({ s2 with heap := h3, toks := tk } : Shared) = s4 at I3 hn' hs' ⊢
    have e4 : s4.heap = h3 := by rw [← hs4]
    rw [← e4] at t3 f3
    have hsz : h'.objs.size = s4.heap.objs.size + 1 := by rw [hs'.1, Heap.size_push]
    have hk : ∀ b o, s4.heap.get? b = some o → h'.get? b = some o := fun b o e => by
      rw [hs'.2 b (Nat.ne_of_lt (Heap.lt_size e))]
      exact Heap.get?_push_of_some _ e
    generalize hgo : ({ cls := .type "generator", data := .fields #[.int s4.gens.size 0, .str "<genexpr>" (s4.toks + 1), .str (X.env.qual ++ "<genexpr>") (s4.toks + 1 + 1)] } : Obj) = go
    have isg : ∀ hh : Heap, hh.get? h'.objs.size = some go → hh.IsGen h'.objs.size s4.gens.size := fun hh e => ⟨go, _, _, e, by rw [← hgo], by rw [← hgo], by rw [← hgo]⟩
    have hga : (h'.push go).get? h'.objs.size = some go := Heap.get?_push_size _ (by rw [← hgo]; rfl)
    have rmA : Room k (X.A.in1.in1.deeper (genEnv scope (cloFrom X.env.cells scope.names []) s4.heap.objs.size code builtinsNs X.env)) := by
      refine ⟨hr.hd, ?_, ?_⟩
      · have := hr.dp
        show X.A.depth + 1 + 3 * k + 5 < _
        omega
      · have := hr.un
        show X.A.units + 1 + 1 + 3 + 16 * k + 200 < _
        omega
    have bare : AllBare (s4.gens.push (.fresh (.compStart (.GeneratorExp elt [⟨tg, iter, ifs, 0⟩] scope gpos) 0 (.ref it) .none (genEnv scope (cloFrom X.env.cells scope.names []) s4.heap.objs.size code builtinsNs X.env)))) := I3.bare.push rfl
    have J := gen_start (A := X.A.in1.in1.deeper (genEnv scope (cloFrom X.env.cells scope.names []) s4.heap.objs.size code builtinsNs X.env)) (code := code) (go := go) (tk := s4.toks + 1 + 1 + 1) I3 S.blk hN S.cell f3 hr.hd
      (by show X.A.frames.map _ = _; rw [I3.ok.frames]; rfl) hn' hk (fun v z => by rw [← hgo] at z; cases z) hga hsz bare
    have pg := hg _ s4 H3 s4.heap.objs.size code fp rmA
    have pt := ht _ s4 H3 s4.heap.objs.size code fp rmA
    have pe := he _ s4 H3 s4.heap.objs.size code fp rmA
    have hco : (genEnv scope (cloFrom X.env.cells scope.names []) s4.heap.objs.size code builtinsNs X.env).scope.isCoroutine = false := S.co
    generalize genEnv scope (cloFrom X.env.cells scope.names []) s4.heap.objs.size code builtinsNs X.env = cenv at J pg pt pe rmA bare hco ⊢
    have out : ∀ p ∈ [(h'.objs.size, go)], p.1 ∉ fp := fun p hp z => by
      rw [List.mem_singleton.mp hp] at z
      have := (f3 _ z).2
      have z3 : h'.objs.size < s4.heap.objs.size := this
      omega
    have kp5 : ∀ b o, s4.heap.get? b = some o → (h'.push go).get? b = some o := fun b o e => Heap.get?_push_of_some _ (hk b o e)
    refine ⟨h'.objs.size, gctx X (X.A.in1.in1.deeper cenv) s4 H3 scope cenv fp, [(h'.objs.size, go)], go, s4.gens.size, m0 + 1, _, rfl, rfl, rfl, List.mem_singleton.mpr rfl, isg, isg _ hga, I3.nolimit.keeps kp5, Array.getElem?_push_size .., ⟨rfl, ?_⟩, fun σ' H' s' I' => ?_⟩
    · refine seg_first (fun A Q E hq => T.self A 0 _ Q E (T.keep _ _ _ t3 fun b _ o e => kp5 b o e) hq) ?_
      exact seg_turns hc hco out T pg pt pe turn m0 (m0 + 1) (Nat.lt_succ_self _) 0 _ _ H3 (inv_heap J rfl rfl (allBare_setGen (s := { s4 with gens := _, toks := _, heap := _ }) bare rfl)) (T.keep _ _ _ t3 fun b _ o e => kp5 b o e) (fun b hb => (f3 b hb).1.1) w0
    · exact I3.call' (ch := fp) I'.os I'.base I'.hok I'.bare fun b hb => ⟨(f3 b hb).1.2.2.2.1, (f3 b hb).1.2.1, (f3 b hb).1.2.2.2.2.1, (f3 b hb).1.2.2.2.2.2⟩
  cases hf : codeAmong gpos ps.toList with
  | none =>
    refine wpAny_genexprCodeX hcode (cd.code oP htr) (cd.tab oP) hf fun c' h' tk hx hge hlt hco' _ htab' _ => ?_
    obtain ⟨o1, v1, f1, tf, fl, t1, inF, tx, t0, op, _, _, _, _, _, _, _, _, _, htr', _⟩ := hco'
    exact rest _ h' tk _ hx htab'.2 ⟨_, rfl⟩ htr'
  | some cv =>
    refine wpAny_genexprCode_hit hcode (cd.code oP htr) hf ?_
    exact rest cv s2.heap s2.toks ps (Heap.ExtBut.refl _ _) oP ⟨#[], by simp⟩ htr
/-- THE RULE: all(elt for tg in iter if ..) -/
theorem pe_allG {c P : Addr} {elt tg iter : Expr} {ifs : List Expr} {p pos gpos : Pos} {scope : Scope} {own : List (Str × Nat)} {wi : TI} {g : TG} {tt : TT} {te : TE} {k : Nat}
    (hc : X.calm = true) (hN : X.N.Nodup) (hr : Room (k + 1) X.A) (hgl : Gl X "all") (hm : X.mg "all" = none) (TB : GxR.TabB X.base X.mg c P) (hcode : X.env.code = .ref c) (S : GSc X.N X.env.scope scope own) (hi : PI X tg iter wi)
    (hg : ∀ (A : Around) (s : Shared) (H : Hp) (C : Addr) (code : Value) (fp : List Addr), Room k A → PG (gctx X A s H scope (genEnv scope (cloFrom X.env.cells scope.names []) C code builtinsNs X.env) fp) tg g)
    (ht : ∀ (A : Around) (s : Shared) (H : Hp) (C : Addr) (code : Value) (fp : List Addr), Room k A → PTs (gctx X A s H scope (genEnv scope (cloFrom X.env.cells scope.names []) C code builtinsNs X.env) fp) ifs tt)
    (he : ∀ (A : Around) (s : Shared) (H : Hp) (C : Addr) (code : Value) (fp : List Addr), Room k A → PE (gctx X A s H scope (genEnv scope (cloFrom X.env.cells scope.names []) C code builtinsNs X.env) fp) elt te)
    (hs : ∀ v, genFold iter X.env v = pure v := by intro _; rfl) (hb : bootBuiltins "all" = some (.builtin "all") := by decide +kernel)
    (hse : starEach [.GeneratorExp elt [⟨tg, iter, ifs, 0⟩] scope gpos] X.env = (false, eval (.GeneratorExp elt [⟨tg, iter, ifs, 0⟩] scope gpos) X.env) :: starEach [] X.env := by rfl) :
    PE X (.Call (.Name "all" p) [.GeneratorExp elt [⟨tg, iter, ifs, 0⟩] scope gpos] [] pos) (tAG P false wi g tt te (own.map (·.2))) := by
  refine ⟨fun pins s σ H Q I h => ?_⟩
  refine wpAny_Call_Name_kw (ld_blt I hgl hm hb (PyProof.Rows.callWith_builtin1 ?_ hse (by rfl)))
  rw [hse]
  show wpAny _ _ (spliced ((false, eval (.GeneratorExp elt [⟨tg, iter, ifs, 0⟩] scope gpos) X.env) :: backTo pos (starEach [] X.env))) _ _ s
  refine Calls.spliced_cons (thn (gen_make hc hN hr TB hcode S hi hg ht he hs I h) fun u s5 hu => ?_)
  obtain ⟨a, Y, pn, go, gi, n, gs, rfl, eP, eW, hpa, hgen, isg, lim, hgs, goes, back⟩ := hu
  refine Calls.spliced_nil (PySem.call_function_tree F.kind_all F.plain_all F.entry_all (F.args_all1 _) ?_)
  unfold Builtin.«all»
  refine wpAny_bind (m := oneArg "all" _) (wpAny_pure (wpAny_bind (wpAny_pyIter_gen isg ?_)))
  rw [← eP, ← eW] at goes ⊢
  exact wpAny_pure ⟨plainId_quiet F.plain_all_loop _, all_walk hr.hd (by have := hr.dp; omega) hpa hgen
    (fun σ' H' s' J q => ⟨.bl true, H', back σ' H' s' J, rfl, q⟩) (fun σ' H' s' J q => ⟨.bl false, H', back σ' H' s' J, rfl, q⟩) n s5 gs isg lim hgs goes⟩
/-- THE RULE: any(elt for tg in iter if ..) -/
theorem pe_anyG {c P : Addr} {elt tg iter : Expr} {ifs : List Expr} {p pos gpos : Pos} {scope : Scope} {own : List (Str × Nat)} {wi : TI} {g : TG} {tt : TT} {te : TE} {k : Nat}
    (hc : X.calm = true) (hN : X.N.Nodup) (hr : Room (k + 1) X.A) (hgl : Gl X "any") (hm : X.mg "any" = none) (TB : GxR.TabB X.base X.mg c P) (hcode : X.env.code = .ref c) (S : GSc X.N X.env.scope scope own) (hi : PI X tg iter wi)
    (hg : ∀ (A : Around) (s : Shared) (H : Hp) (C : Addr) (code : Value) (fp : List Addr), Room k A → PG (gctx X A s H scope (genEnv scope (cloFrom X.env.cells scope.names []) C code builtinsNs X.env) fp) tg g)
    (ht : ∀ (A : Around) (s : Shared) (H : Hp) (C : Addr) (code : Value) (fp : List Addr), Room k A → PTs (gctx X A s H scope (genEnv scope (cloFrom X.env.cells scope.names []) C code builtinsNs X.env) fp) ifs tt)
    (he : ∀ (A : Around) (s : Shared) (H : Hp) (C : Addr) (code : Value) (fp : List Addr), Room k A → PE (gctx X A s H scope (genEnv scope (cloFrom X.env.cells scope.names []) C code builtinsNs X.env) fp) elt te)
    (hs : ∀ v, genFold iter X.env v = pure v := by intro _; rfl) (hb : bootBuiltins "any" = some (.builtin "any") := by decide +kernel)
    (hse : starEach [.GeneratorExp elt [⟨tg, iter, ifs, 0⟩] scope gpos] X.env = (false, eval (.GeneratorExp elt [⟨tg, iter, ifs, 0⟩] scope gpos) X.env) :: starEach [] X.env := by rfl) :
    PE X (.Call (.Name "any" p) [.GeneratorExp elt [⟨tg, iter, ifs, 0⟩] scope gpos] [] pos) (tAG P true wi g tt te (own.map (·.2))) := by
  refine ⟨fun pins s σ H Q I h => ?_⟩
  refine wpAny_Call_Name_kw (ld_blt I hgl hm hb (PyProof.Rows.callWith_builtin1 ?_ hse (by rfl)))
  rw [hse]
  show wpAny _ _ (spliced ((false, eval (.GeneratorExp elt [⟨tg, iter, ifs, 0⟩] scope gpos) X.env) :: backTo pos (starEach [] X.env))) _ _ s
  refine Calls.spliced_cons (thn (gen_make hc hN hr TB hcode S hi hg ht he hs I h) fun u s5 hu => ?_)
  obtain ⟨a, Y, pn, go, gi, n, gs, rfl, eP, eW, hpa, hgen, isg, lim, hgs, goes, back⟩ := hu
  refine Calls.spliced_nil (PySem.call_function_tree F.kind_any F.plain_any F.entry_any (F.args_any1 _) ?_)
  unfold Builtin.«any»
  refine wpAny_bind (m := oneArg "any" _) (wpAny_pure (wpAny_bind (wpAny_pyIter_gen isg ?_)))
  rw [← eP, ← eW] at goes ⊢
  exact wpAny_pure ⟨plainId_quiet F.plain_any_loop _, any_walk hr.hd (by have := hr.dp; omega) hpa hgen
    (fun σ' H' s' J q => ⟨.bl false, H', back σ' H' s' J, rfl, q⟩) (fun σ' H' s' J q => ⟨.bl true, H', back σ' H' s' J, rfl, q⟩) n s5 gs isg lim hgs goes⟩
end
section
variable {J : It} {n : Nat} {G : Hp → Prop} {Y : Nat → Hp → V → Hp → Prop}
/-- a walk's turns, by what holds between two of them -/
theorem ag_it (w : Walk J n G Y) {g : TG} {tt : TT} {te : TE} {vs : List Nat} {σ : L2.St} {H2 : Hp} {st : Bool} {Qt Qs : Hp → Prop} (Pv : Nat → Hp → Prop) (h0 : Pv 0 H2) (hG : ∀ i H, i ≤ n → Pv i H → G H)
    (hs : ∀ i x H H', i < n → Pv i H → Y i H x H' → g x (wipe σ vs) H' fun σ2 H2 => wipe σ2 vs = wipe σ vs ∧ tt σ2 H2 fun b H3 =>
      if b = true then te σ2 H3 fun y H4 => ∃ c, y = .bl c ∧ (c = st → Qs H4) ∧ (c ≠ st → Pv (i + 1) H4) else Pv (i + 1) H3) (hd : ∀ H, Pv n H → Qt H) :
    ∃ W : Nat → Nat → Hp → Prop, (∃ m, W 0 m H2) ∧ ∀ i m H', W i m H' → Step J g tt te vs σ st Qt Qs W i m H' := by
  refine ⟨fun i m H => m = n - i ∧ i ≤ n ∧ Pv i H, ⟨n, by simp, Nat.zero_le _, h0⟩, ?_⟩
  rintro i m H ⟨rfl, hi, p⟩
  have q := hG i H hi p
  by_cases hlt : i < n
  · exact .inr ⟨w.goes i H hlt q, Pv (i + 1), fun H' p' => ⟨n - (i + 1), by omega, rfl, hlt, p'⟩, fun x H' y => hs i x H H' hlt p (w.yields i H x H' hlt q y)⟩
  · have e : i = n := by omega
    subst e
    exact .inl ⟨w.stops H q, hd H p⟩
end
/-! ### a def whose code has a table; the end -/
structure FunC (K : PySem.W.Frag) (x qual : Str) (st : Stmt) (f : Addr) (fd : FuncData) (c : Addr) : Prop where
  ex : ∃ (oc : Value) (od : Option Addr) (kV doc pm : Value) (an : Option Addr) (ct : Value) (osl : Array (Option Value)),
    fd = PySem.W.fnOf x qual (defArgs st) (defBody st) (defScope st) .none kV doc pm an (.ref c) ct ∧ K.lookup f = some ⟨oc, od, .func fd, osl⟩ ∧ PySem.W.codeIn K (.ref c) qual = true
  kp : PySem.W.keepIn K (.ref f) = true
theorem FunC.toFun {K : PySem.W.Frag} {x qual : Str} {st : Stmt} {f : Addr} {fd : FuncData} {c : Addr} (F : FunC K x qual st f fd c) : Fun K x qual st f fd := by
  obtain ⟨oc, od, kV, doc, pm, an, ct, osl, h1, h2, h3⟩ := F.ex
  exact ⟨⟨oc, od, kV, doc, pm, an, _, ct, osl, h1, h2, h3⟩, F.kp⟩
theorem FunC.ok {P : Program} {w : World} {K : PySem.W.Frag} {mg : Str → Option Value} {base : Heap} {x qual : Str} {st : Stmt} {f : Addr} {fd : FuncData} {c : Addr} {N ps : List Str} {k : Nat} {sp : Sp} (F : FunC K x qual st f fd c) (S : FnScope N ps (defScope st))
    (len : ∀ vs H Q E, sp vs H Q E → vs.length = ps.length)
    (hbody : ∀ (A : Around) (outer : List Env) (s : Shared) (H : Hp) (vs : List V) (Q : VK) (E : XK), Room k (A.deeper (envOfC qual (defScope st) s.heap.objs.size f (.ref c))) → sp vs H Q E →
      ∃ t, PSs (cxOf CX0 P w K mg base N qual (defScope st) f (.ref c) A outer s H E).nox (defBody st) t ∧ t { nx := fun _ H' => Q .non H', rt := Q } (start N vs) H) : FnOk P w K mg base CX0 (k + 1) f fd ps sp := by
  obtain ⟨oc, od, kV, doc, pm, an, ct, osl, rfl, lk, hcd⟩ := F.ex
  refine fn_of lk hcd S len fun A outer s H vs Q E hr hsp => ?_
  obtain ⟨t, h, q⟩ := hbody A outer s H vs Q E hr hsp
  exact ⟨t, h.nox, q⟩
theorem funC_mk {K : PySem.W.Frag} {x qual : Str} {st : Stmt} {f c : Addr} {oc : Value} {od an : Option Addr} {osl : Array (Option Value)} {kV doc pm cdv ct : Value} (l : K.lookup f = some ⟨oc, od, .func (PySem.W.fnOf x qual (defArgs st) (defBody st) (defScope st) .none kV doc pm an cdv ct), osl⟩)
    (e : cdv = .ref c) (h : PySem.W.codeIn K cdv qual = true) (k : PySem.W.keepIn K (.ref f) = true) : FunC K x qual st f (PySem.W.fnOf x qual (defArgs st) (defBody st) (defScope st) .none kV doc pm an (.ref c) ct) c := by
  subst e
  exact ⟨⟨oc, od, kV, doc, pm, an, ct, osl, rfl, l, h⟩, k⟩
/-- what the top tells of the tables of its defs -/
def TabsIn (q : Program) (K : PySem.W.Frag) (h : Heap) : Prop := ∀ (x : Str) (d : DefRec) (c P : Addr), (recsOf q).find? (fun e => e.name == x) = some d → PySem.W.tabIn K x = some (c, P) →
  PySem.W.CodeHd h c P ∧ h.get? P = some { cls := .none, data := .fields #[] }
theorem walk_tabs {l : PySem.W.OpenLaw} {n k : Nat} {q : Program} {loose : List Str} {XP : (Str → Option Value) → Heap → Prop} {YP : World → Heap → Prop} {d : DefRec} {K : Params → PySem.W.Frag} {CX : World → CXT} {x : Str}
    (hn : l.most = some n) (hn2 : n ≤ sizeLine) (hdf : d.params.defaults = []) (hr : Room k callerA) (hY : ∀ (w : World) (h : Heap), YP w h → (K w.params).In h)
    (F : ∀ (w : World) (mg : Str → Option Value) (fa : Addr) (h : Heap), (K w.params).In h → h.Ns mainGlobals mg → mg d.name = some (.ref fa) → TabsIn q (K w.params) h → LamX.LawAtS l w (K w.params) (CX w) k n x mg fa h)
    (hCX : ∀ (w : World) (H : Hp) (s : Shared) (e : Value) (s' : Shared), CX w [] H s (fun _ _ _ => False) e s' → False) :
    PySem.W.WalkO q loose XP YP l.row.toRowW d [] (fun f vs => PySem.call f vs) := by
  refine Att.attach_callB hn hdf fun w s0 s1 mg mb fa o pm cd doc a vs ns G Y ho hd hcd hmg hobj hints hlen hbits hg => ?_
  have KX := hY w _ Y
  obtain ⟨fd, cs, sp, hT, nT, C, hb, hsp, hF⟩ := F w mg fa _ KX G.T.g hmg fun x d c P h1 h2 => PySem.W.tab_of G.T KX h1 h2
  exact LamX.law_callTs KX G.T.g G.T.b G.T.builtins G.T.nolimit hg hT nT C G.T.bmain hobj hints (Nat.le_trans hlen hn2) hr hF hb (fun H hH hS => hsp H a ns hlen hbits hH hS) fun H e s' => hCX w H s1 e s'
theorem tabIn_of {K : PySem.W.Frag} {x : Str} {f c P : Addr} {oc e1 : Value} {od dd : Option Addr} {fd : FuncData} {sl s2 : Array (Option Value)} {vs : Array Value} (a : PySem.W.nsIn K mainGlobals x = some (some (.ref f)))
    (l : K.lookup f = some ⟨oc, od, .func fd, sl⟩) (e : fd.code = .ref c) (k : K.lookup c = some ⟨e1, dd, .fields vs, s2⟩) (v : vs[11]? = some (.ref P)) : PySem.W.tabIn K x = some (c, P) := by
  unfold PySem.W.tabIn
  rw [a]
  simp only [l, e, k, v]
theorem tabB {base : Heap} {mg : Str → Option Value} {c P : Addr} (h : LamX.TabB base mg c P) : GxR.TabB base mg c P := ⟨h.code, h.bm, h.gP⟩
end GE

set_option Elab.async false
set_option linter.all false
set_option maxRecDepth 100000
set_option maxHeartbeats 2000000
namespace My
open PySem PySem.Spec PyProof.Rows L2
/-! ### tables -/
def Tbs (Ts : List Addr) (H : Hp) : Prop := ∀ P ∈ Ts, GxR.TabG H P
def Tk (Ts : List Addr) (H H' : Hp) : Prop := (∀ b, b ∉ Ts → H' b = H b) ∧ Tbs Ts H'
theorem Tk.refl {Ts : List Addr} {H : Hp} (h : Tbs Ts H) : Tk Ts H H := ⟨fun _ _ => rfl, h⟩
theorem Tk.trans {Ts : List Addr} {H H1 H2 : Hp} (a : Tk Ts H H1) (b : Tk Ts H1 H2) : Tk Ts H H2 := ⟨fun x hx => (b.1 x hx).trans (a.1 x hx), b.2⟩
theorem Tk.of {Ts : List Addr} {H H1 : Hp} {P : Addr} (h : Tbs Ts H) (hP : P ∈ Ts) (t : GxR.Tabbed P H H1) : Tk Ts H H1 := by
  refine ⟨fun b hb => t.2 b fun z => hb (by rw [z]; exact hP), fun b hb => ?_⟩
  by_cases z : b = P
  · rw [z]; exact t.1
  · obtain ⟨ps, e, q⟩ := h b hb
    exact ⟨ps, by rw [t.2 b z]; exact e, q⟩
theorem Tbs.out {Ts : List Addr} {H : Hp} {b : Addr} {o : HO} (h : Tbs Ts H) (e : H b = some o) (n : ∀ ps, o ≠ .tbl ps) : b ∉ Ts := fun hb => by
  obtain ⟨ps, q, _⟩ := h b hb
  rw [e] at q
  exact n ps (Option.some.inj q)
theorem Tk.at {Ts : List Addr} {H H' : Hp} {b : Addr} {o : HO} (t : Tk Ts H H') (h : Tbs Ts H) (e : H b = some o) (n : ∀ ps, o ≠ .tbl ps) : H' b = some o := by
  rw [t.1 b (h.out e n)]; exact e
theorem Tk.tup {Ts : List Addr} {H H' : Hp} {b : Addr} {xs : List V} (t : Tk Ts H H') (h : Tbs Ts H) (e : H b = some (.tup xs)) : H' b = some (.tup xs) := t.at h e fun ps z => by cases z
theorem Tbs.same {Ts : List Addr} {H H' : Hp} (h : Tbs Ts H) (s : Same H H') : Tbs Ts H' := fun b hb => let ⟨ps, e, q⟩ := h b hb; ⟨ps, s _ _ e, q⟩
theorem Tbs.new {Ts : List Addr} {H : Hp} {p : Addr} {o : HO} (h : Tbs Ts H) (hp : H p = none) : Tbs Ts (upd H p o) := h.same (same_upd hp)
theorem Tbs.kp {Ts : List Addr} {H H' : Hp} {t : Addr} {n : Nat} (h : Tbs Ts H) (hT : Tap H t n) (k : Kp t H H') : Tbs Ts H' := fun b hb => by
  obtain ⟨ps, e, q⟩ := h b hb
  refine ⟨ps, k _ _ (fun z => ?_) e, q⟩
  obtain ⟨_, _, _, _, _, e1, _⟩ := hT
  rw [z, e1] at e
  cases e
theorem Tap.tk {Ts : List Addr} {H H' : Hp} {t : Addr} {n : Nat} (hT : Tap H t n) (h : Tbs Ts H) (k : Tk Ts H H') : Tap H' t n := by
  obtain ⟨c, ns, sp, re, ca, h1, h2, h3⟩ := hT
  exact ⟨c, ns, sp, re, ca, k.at h h1 (fun ps z => by cases z), k.at h h2 (fun ps z => by cases z), h3⟩
/-! ### kinds of things -/
def Typed (H : Hp) : V → Prop
  | .non => True
  | .bl _ => True
  | .int _ => True
  | .str _ => True
  | .ref a => (∃ xs, H a = some (.tup xs)) ∨ (∃ xs, H a = some (.lst xs)) ∨ (∃ kvs, H a = some (.dK kvs))
  | _ => False
theorem Typed.of {H H' : Hp} {v : V} (h : Typed H v) (s : ∀ b o, H b = some o → (∀ ps, o ≠ .tbl ps) → v = .ref b → H' b = some o) : Typed H' v := by
  cases v with
  | ref a =>
    rcases h with ⟨xs, h⟩ | ⟨xs, h⟩ | ⟨xs, h⟩
    · exact .inl ⟨xs, s _ _ h (fun ps z => by cases z) rfl⟩
    · exact .inr (.inl ⟨xs, s _ _ h (fun ps z => by cases z) rfl⟩)
    · exact .inr (.inr ⟨xs, s _ _ h (fun ps z => by cases z) rfl⟩)
  | _ => exact h
theorem Typed.same {H H' : Hp} {v : V} (h : Typed H v) (s : Same H H') : Typed H' v := h.of fun b o e _ _ => s b o e
theorem Typed.tk {Ts : List Addr} {H H' : Hp} {v : V} (h : Typed H v) (t : Tk Ts H H') (hb : Tbs Ts H) : Typed H' v := h.of fun b o e n _ => t.at hb e n
/-- whether a thing is of a built-in kind -/
def kindB (H : Hp) (n : String) : V → Bool
  | .non => false
  | .bl _ => n == "bool" || n == "int"
  | .int _ => n == "int"
  | .str _ => n == "str"
  | .ref a => match H a with
    | some (.tup _) => n == "tuple"
    | some (.lst _) => n == "list"
    | some (.dK _) => n == "dict"
    | _ => false
  | _ => false
theorem ty_kind {K : PySem.W.Frag} {H : Hp} {v : V} {n : String} (hn : n = "int" ∨ n = "bool" ∨ n = "str" ∨ n = "tuple") (h : Typed H v) : ∃ t, TyX K H v t ∧ PySem.W.kitOne K t (.type n) = some (kindB H n v) := by
  cases v with
  | non => rcases hn with rfl | rfl | rfl | rfl <;> exact ⟨_, .base .non, kit_ty (r := false) (by decide +kernel)⟩
  | bl b =>
    rcases hn with rfl | rfl | rfl | rfl
    · exact ⟨_, .base (.bl b), kit_ty (r := true) (by decide +kernel)⟩
    · exact ⟨_, .base (.bl b), kit_ty (r := true) (by decide +kernel)⟩
    · exact ⟨_, .base (.bl b), kit_ty (r := false) (by decide +kernel)⟩
    · exact ⟨_, .base (.bl b), kit_ty (r := false) (by decide +kernel)⟩
  | int i =>
    rcases hn with rfl | rfl | rfl | rfl
    · exact ⟨_, .base (.int i), kit_ty (r := true) (by decide +kernel)⟩
    · exact ⟨_, .base (.int i), kit_ty (r := false) (by decide +kernel)⟩
    · exact ⟨_, .base (.int i), kit_ty (r := false) (by decide +kernel)⟩
    · exact ⟨_, .base (.int i), kit_ty (r := false) (by decide +kernel)⟩
  | str x =>
    rcases hn with rfl | rfl | rfl | rfl
    · exact ⟨_, .base (.str x), kit_ty (r := false) (by decide +kernel)⟩
    · exact ⟨_, .base (.str x), kit_ty (r := false) (by decide +kernel)⟩
    · exact ⟨_, .base (.str x), kit_ty (r := true) (by decide +kernel)⟩
    · exact ⟨_, .base (.str x), kit_ty (r := false) (by decide +kernel)⟩
  | ref a =>
    rcases h with ⟨xs, h⟩ | ⟨xs, h⟩ | ⟨xs, h⟩
    · refine ⟨_, .base (.tup h), ?_⟩
      have e : kindB H n (.ref a) = (n == "tuple") := by simp only [kindB, h]
      rw [e]
      rcases hn with rfl | rfl | rfl | rfl <;> exact kit_ty (by decide +kernel)
    · refine ⟨_, .base (.lst h), ?_⟩
      have e : kindB H n (.ref a) = (n == "list") := by simp only [kindB, h]
      rw [e]
      rcases hn with rfl | rfl | rfl | rfl <;> exact kit_ty (by decide +kernel)
    · refine ⟨_, .base (.dK h), ?_⟩
      have e : kindB H n (.ref a) = (n == "dict") := by simp only [kindB, h]
      rw [e]
      rcases hn with rfl | rfl | rfl | rfl <;> exact kit_ty (by decide +kernel)
  | _ => exact h.elim
def isN : V → Bool
  | .int _ => true
  | _ => false
theorem isN_int {v : V} (h : isN v = true) : ∃ i, v = .int i := by
  cases v <;> first | exact ⟨_, rfl⟩ | exact Bool.noConfusion (show false = true from h)
theorem isN_kind {H : Hp} {v : V} (h : Typed H v) : isN v = (kindB H "int" v && !kindB H "bool" v) := by
  cases v with
  | ref a => rcases h with ⟨xs, h⟩ | ⟨xs, h⟩ | ⟨xs, h⟩ <;> simp [isN, kindB, h]
  | bl b => simp [isN, kindB]
  | int i => simp [isN, kindB]
  | _ => simp [isN, kindB]
def inW (v : V) (a b : Int) : Bool := match v with
  | .int i => decide (a ≤ i) && decide (i ≤ b)
  | _ => false
theorem inW_not {v : V} {a b : Int} (h : ¬ isN v = true) : inW v a b = false := by
  cases v <;> first | rfl | exact absurd rfl h
def spNum : Sp := fun vs H Q _ => ∃ v, vs = [v] ∧ Typed H v ∧ Q (.bl (isN v)) H
def spWithin : Sp := fun vs H Q _ => ∃ v a b, vs = [v, .int a, .int b] ∧ Typed H v ∧ Q (.bl (inW v a b)) H
/-- each is below the next -/
def risB : List Int → Bool
  | a :: b :: r => decide (a < b) && risB (b :: r)
  | _ => true
theorem ris_iff : ∀ ws : List Int, risB ws = true ↔ ∀ (k : Nat) (x y : Int), ws[k]? = some x → ws[k + 1]? = some y → x < y
  | [] => by simp [risB]
  | [a] => by simp [risB]
  | a :: b :: r => by
    rw [risB, Bool.and_eq_true, decide_eq_true_eq, ris_iff (b :: r)]
    constructor
    · rintro ⟨h, t⟩ k x y h1 h2
      cases k with
      | zero =>
        have e1 : a = x := Option.some.inj h1
        have e2 : b = y := Option.some.inj h2
        rw [← e1, ← e2]; exact h
      | succ k => exact t k x y h1 h2
    · intro t
      exact ⟨t 0 a b rfl rfl, fun k x y h1 h2 => t (k + 1) x y h1 h2⟩
/-! ### homes and names -/
def unI : V → Int
  | .int i => i
  | _ => 0
def homeV (xs : List V) : Bool := xs.all (fun x => inW x 0 6) && risB (xs.map unI)
def homeB (H : Hp) : V → Bool
  | .ref a => match H a with
    | some (.tup xs) => homeV xs
    | _ => false
  | _ => false
theorem map_unI : ∀ {xs : List V}, (∀ x ∈ xs, inW x 0 6 = true) → xs = (xs.map unI).map V.int
  | [], _ => rfl
  | x :: r, h => by
    have hx := h x List.mem_cons_self
    obtain ⟨i, rfl⟩ : ∃ i, x = .int i := by
      cases x <;> first | exact ⟨_, rfl⟩ | exact Bool.noConfusion (show false = true from hx)
    rw [List.map_cons, List.map_cons, ← map_unI fun y hy => h y (List.mem_cons_of_mem _ hy)]
    rfl
/-- a thing, and what is in it where it is a tuple -/
def Deep (H : Hp) (v : V) : Prop := Typed H v ∧ ∀ a xs, v = .ref a → H a = some (.tup xs) → xs.length ≤ 1000 ∧ ∀ x ∈ xs, Typed H x
theorem kind_tup {H : Hp} {v : V} (h : Typed H v) (k : kindB H "tuple" v = true) : ∃ a xs, v = .ref a ∧ H a = some (.tup xs) := by
  cases v with
  | ref a =>
    rcases h with ⟨xs, e⟩ | ⟨xs, e⟩ | ⟨xs, e⟩
    · exact ⟨a, xs, rfl, e⟩
    · simp [kindB, e] at k
    · simp [kindB, e] at k
  | _ => simp [kindB] at k
theorem not_tup {H : Hp} {v : V} (k : ¬ kindB H "tuple" v = true) : homeB H v = false := by
  cases v with
  | ref a =>
    show (match H a with | some (.tup xs) => homeV xs | _ => false) = false
    cases e : H a with
    | none => rfl
    | some o =>
      cases o with
      | tup xs => exact absurd (by simp [kindB, e]) k
      | _ => rfl
  | _ => rfl
def signOk (c : Nat) : Bool := decide (97 ≤ c) && decide (c ≤ 122)
theorem le_a (c : Nat) : (!decide (([c] : List Nat) < [97])) = decide (97 ≤ c) := by
  by_cases h : 97 ≤ c
  · simp [List.cons_lt_cons_iff, h]
  · simp [List.cons_lt_cons_iff, h]; omega
theorem le_z (c : Nat) : (!decide (([122] : List Nat) < [c])) = decide (c ≤ 122) := by
  by_cases h : c ≤ 122
  · simp [List.cons_lt_cons_iff, h]
  · simp [List.cons_lt_cons_iff, h]; omega
def nameB : V → Bool
  | .str z => (decide (1 ≤ z.length) && decide (z.length ≤ 8)) && z.cps.toList.all signOk
  | _ => false
/-- a text of few plain signs -/
def Plain (z : Str) : Prop := z.length ≤ 100 ∧ ∀ c ∈ z.cps.toList, c < 128
def PlainV : V → Prop
  | .str z => Plain z
  | _ => True
theorem kind_str {H : Hp} {v : V} (h : Typed H v) (k : kindB H "str" v = true) : ∃ z, v = .str z := by
  cases v with
  | str z => exact ⟨z, rfl⟩
  | ref a => rcases h with ⟨xs, e⟩ | ⟨xs, e⟩ | ⟨xs, e⟩ <;> simp [kindB, e] at k
  | _ => simp [kindB] at k
theorem not_str {H : Hp} {v : V} (k : ¬ kindB H "str" v = true) : nameB v = false := by
  cases v with
  | str z => exact absurd (by simp [kindB]) k
  | _ => rfl
theorem all_get {α : Type} {l : List α} {f : α → Bool} (h : ∀ (k : Nat) (x : α), l[k]? = some x → f x = true) : l.all f = true := by
  rw [List.all_eq_true]
  intro x hx
  obtain ⟨k, hk, e⟩ := List.getElem_of_mem hx
  exact h k x (by rw [List.getElem?_eq_getElem hk, e])
theorem all_not {α : Type} {l : List α} {f : α → Bool} {k : Nat} {x : α} (h : l[k]? = some x) (e : f x = false) : l.all f = false := by
  cases z : l.all f
  · rfl
  · rw [List.all_eq_true] at z
    rw [z x (List.mem_of_getElem? h)] at e
    cases e
/-! ### lists of signs compared -/
def sg (c : Nat) : Str := ⟨#[c]⟩
theorem dp_signs {K : PySem.W.Frag} {H : Hp} : ∀ cs : List Nat, DpAll K H (cs.map fun c => V.str (sg c)) (cs.map fun c => PyData.str (sg c))
  | [] => .nil
  | c :: r => .cons (.str _) (dp_signs r)
theorem lay_signs : ∀ {cs : List Nat}, (∀ c ∈ cs, c < 128) → PyData.canLayAll0 (cs.map fun c => PyData.str (sg c)) = true
  | [], _ => by simp [PyData.canLayAll0]
  | c :: r, h => by
    have h1 := h c List.mem_cons_self
    have h2 := lay_signs fun d hd => h d (List.mem_cons_of_mem _ hd)
    rw [List.map_cons, PyData.canLayAll0, h2, PyData.canLay0, Bool.and_true]
    simp [sg, PyData.strOk]
    omega
theorem depth_signs : ∀ cs : List Nat, PyData.depthAll (cs.map fun c => PyData.str (sg c)) = 0
  | [] => by simp [PyData.depthAll]
  | c :: r => by
    rw [List.map_cons, PyData.depthAll, depth_signs r]
    simp [PyData.depth]
theorem shaped_signs {cs : List Nat} (h : ∀ c ∈ cs, c < 128) : SeqAt.shaped (.list (cs.map fun c => PyData.str (sg c))) = true := by
  unfold SeqAt.shaped
  rw [Bool.and_eq_true, PyData.canLay0, PyData.depth, depth_signs]
  exact ⟨lay_signs h, by decide⟩
theorem eqv_signs (cs : List Nat) : PyData.eqv (.list (cs.map fun c => PyData.str (sg c))) (.list []) = cs.isEmpty := by
  cases cs with
  | nil => simp [PyData.eqv, PyData.eqvAll]
  | cons c r => simp [PyData.eqv, PyData.eqvAll]
def homeFrom (f : Int) : List V → Bool
  | [] => true
  | .int i :: r => if i ≤ f ∨ 6 < i then false else homeFrom i r
  | _ :: _ => false
theorem homeFrom_eq : ∀ (xs : List V) (f : Int), -1 ≤ f → homeFrom f xs = (xs.all (fun x => inW x 0 6) && risB (f :: xs.map unI))
  | [], f, _ => rfl
  | x :: r, f, hf => by
    rw [List.all_cons, List.map_cons]
    cases x with
    | int i =>
      rw [homeFrom, risB]
      by_cases h : i ≤ f ∨ 6 < i
      · rw [if_pos h]
        rcases h with h | h
        · have : decide (f < unI (.int i)) = false := decide_eq_false (show ¬ f < i by omega)
          rw [this]
          simp
        · have : inW (.int i) 0 6 = false := by
            show (decide (0 ≤ i) && decide (i ≤ 6)) = false
            rw [decide_eq_false (show ¬ i ≤ 6 by omega), Bool.and_false]
          rw [this]
          simp
      · rw [if_neg h, homeFrom_eq r i (by omega)]
        have h1 : inW (.int i) 0 6 = true := by
          show (decide (0 ≤ i) && decide (i ≤ 6)) = true
          rw [decide_eq_true (show 0 ≤ i by omega), decide_eq_true (show i ≤ 6 by omega)]
          rfl
        have h2 : decide (f < unI (.int i)) = true := decide_eq_true (show f < i by omega)
        rw [h1, h2, Bool.true_and, Bool.true_and]
        rfl
    | _ => rfl
theorem homeV_from (xs : List V) : homeV xs = homeFrom (-1) xs := by
  rw [homeFrom_eq xs (-1) (by omega), homeV]
  cases xs with
  | nil => rfl
  | cons x r =>
    rw [List.all_cons, List.map_cons, risB]
    cases h : inW x 0 6
    · simp
    · have : decide ((-1 : Int) < unI x) = true := by
        cases x <;> first | exact Bool.noConfusion (show false = true from h) | skip
        rename_i i
        have h : (decide (0 ≤ i) && decide (i ≤ 6)) = true := h
        rw [Bool.and_eq_true, decide_eq_true_eq] at h
        exact decide_eq_true (show -1 < i by omega)
      simp [this]
theorem letters_eq : (Str.ofString "abcdefghijklmnopqrstuvwxyz").cps.toList = List.range' 97 26 := by decide +kernel
theorem in_letters (c : Nat) : decide (c ∈ (Str.ofString "abcdefghijklmnopqrstuvwxyz").cps.toList) = signOk c := by
  rw [letters_eq, signOk, ← Bool.decide_and]
  refine decide_eq_decide.mpr ?_
  rw [List.mem_range'_1]
  omega
theorem take_filter {α : Type} {l : List α} {i : Nat} {c : α} (f : α → Bool) (h : l[i]? = some c) : (l.take (i + 1)).filter f = (l.take i).filter f ++ (if f c = true then [c] else []) := by
  rw [List.take_add_one, h, List.filter_append]
  congr 1
  by_cases e : f c = true
  · simp [e]
  · simp [e]
theorem filter_empty {l : List Nat} : (l.filter fun c => !signOk c).isEmpty = l.all signOk := by
  induction l with
  | nil => rfl
  | cons c r ih =>
    rw [List.filter_cons, List.all_cons]
    cases e : signOk c
    · simp
    · simpa using ih
/-! ### plain texts -/
theorem Plain.app {a b : Str} {n m : Nat} (ha : a.length ≤ n) (hb : b.length ≤ m) (h : n + m ≤ 100) (ca : ∀ c ∈ a.cps.toList, c < 128) (cb : ∀ c ∈ b.cps.toList, c < 128) : Plain (a ++ b) := by
  refine ⟨?_, fun c hc => ?_⟩
  · rw [PySem.Str.length_append]; omega
  · rw [PySem.Str.cps_append, Array.toList_append] at hc
    rcases List.mem_append.mp hc with z | z
    · exact ca c z
    · exact cb c z
theorem app_chars {a b : Str} (ca : ∀ c ∈ a.cps.toList, c < 128) (cb : ∀ c ∈ b.cps.toList, c < 128) : ∀ c ∈ (a ++ b).cps.toList, c < 128 := fun c hc => by
  rw [PySem.Str.cps_append, Array.toList_append] at hc
  rcases List.mem_append.mp hc with z | z
  · exact ca c z
  · exact cb c z
theorem cut_chars {z : Str} (h : ∀ c ∈ z.cps.toList, c < 128) (lo hi : Option Int) : ∀ c ∈ (cutS z lo hi).cps.toList, c < 128 := fun c hc => by
  unfold cutS at hc
  rw [List.toList_toArray] at hc
  exact h c (List.mem_of_mem_drop (List.mem_of_mem_take hc))
theorem one_sign {c : Nat} (h : c < 128) : ∀ d ∈ (⟨#[c]⟩ : Str).cps.toList, d < 128 := fun d hd => by
  have hd : d ∈ [c] := hd
  rw [List.mem_singleton.mp hd]
  exact h
/-! ### tuples put together, cut -/
theorem cat_in {K : PySem.W.Frag} {a b : Addr} {xs ys : List V} {H : Hp} {Q : VK} (ha : H a = some (.tup xs)) (hb : H b = some (.tup ys)) (hl : xs.length + ys.length ≤ 1000)
    (k : ∀ r H', Same H H' → H' r = some (.tup (xs ++ ys)) → Q (.ref r) H') : rCatA K (.ref a) (.ref b) H Q := by
  refine ⟨a, b, xs, ys, rfl, rfl, .inl (.inl ha), .inl (.inl hb), sz hl, fun e => ?_, fun _ e => ?_, fun _ _ p np => ?_⟩
  · subst e
    exact k b H (Same.refl _) hb
  · subst e
    exact k a H (Same.refl _) (by rw [List.append_nil]; exact ha)
  · exact k p _ (same_upd np) upd_same
theorem cut_all (xs : List V) {lo hi : Option Int} (h1 : HT.sIx xs.length 0 lo = 0) (h2 : HT.sIx xs.length xs.length hi = xs.length) : cutV xs lo hi = xs := by
  unfold cutV
  rw [h1, h2, List.drop_zero, Nat.sub_zero, List.take_length]
theorem sl_in {K : PySem.W.Frag} {a : Addr} {xs : List V} {lo hi : Option Int} {H : Hp} {Q : VK} (ha : H a = some (.tup xs)) (k : ∀ r H', Same H H' → H' r = some (.tup (cutV xs lo hi)) → Q (.ref r) H') : rSlA K (.ref a) lo hi H Q := by
  refine ⟨a, xs, rfl, .inl (.inl ha), fun e => k a H (Same.refl _) ?_, fun _ p np => k p _ (same_upd np) upd_same⟩
  rw [cut_all xs e.1 e.2]
  exact ha
theorem cut_mem {xs : List V} {lo hi : Option Int} {x : V} (h : x ∈ cutV xs lo hi) : x ∈ xs := List.mem_of_mem_drop (List.mem_of_mem_take h)
theorem cut_len (xs : List V) (lo hi : Option Int) : (cutV xs lo hi).length ≤ xs.length := by
  unfold cutV
  rw [List.length_take, List.length_drop]
  omega
theorem deep_tup {H : Hp} {r : Addr} {xs : List V} (e : H r = some (.tup xs)) (hl : xs.length ≤ 1000) (hx : ∀ x ∈ xs, Typed H x) : Deep H (.ref r) := by
  refine ⟨.inl ⟨xs, e⟩, fun a ys h1 h2 => ?_⟩
  cases h1
  rw [e] at h2
  cases h2
  exact ⟨hl, hx⟩
theorem deep_flat {H : Hp} {v : V} (h : Typed H v) (n : ∀ a, v ≠ .ref a) : Deep H v := ⟨h, fun a _ e => absurd e (n a)⟩
theorem deep_lst {H : Hp} {r : Addr} {xs : List V} (e : H r = some (.lst xs)) : Deep H (.ref r) := ⟨.inr (.inl ⟨xs, e⟩), fun a ys h1 h2 => by
  cases h1
  rw [e] at h2
  cases h2⟩
theorem deep_dic {H : Hp} {r : Addr} {kvs : List (Key × V)} (e : H r = some (.dK kvs)) : Deep H (.ref r) := ⟨.inr (.inr ⟨kvs, e⟩), fun a ys h1 h2 => by
  cases h1
  rw [e] at h2
  cases h2⟩
theorem Deep.of {H H' : Hp} {v : V} (h : Deep H v) (s : ∀ b o, H b = some o → (∀ ps, o ≠ .tbl ps) → H' b = some o) : Deep H' v := by
  refine ⟨h.1.of fun b o e n _ => s b o e n, fun a xs e1 e2 => ?_⟩
  subst e1
  rcases h.1 with ⟨ys, e⟩ | ⟨ys, e⟩ | ⟨ys, e⟩
  · have e3 := s a _ e fun ps z => by cases z
    rw [e2] at e3
    cases e3
    exact ⟨(h.2 a _ rfl e).1, fun x hx => ((h.2 a _ rfl e).2 x hx).of fun b o e n _ => s b o e n⟩
  · have e3 := s a _ e fun ps z => by cases z
    rw [e2] at e3
    cases e3
  · have e3 := s a _ e fun ps z => by cases z
    rw [e2] at e3
    cases e3
theorem ty_ints {H : Hp} {ws : List Int} : ∀ x ∈ ws.map V.int, Typed H x := fun x hx => by
  obtain ⟨i, _, rfl⟩ := List.mem_map.mp hx
  exact True.intro
theorem dp_ints {K : PySem.W.Frag} {H : Hp} : ∀ ns : List Int, DpAll K H (ns.map V.int) (ns.map PyData.int)
  | [] => .nil
  | n :: r => .cons (.int n) (dp_ints r)
theorem shaped_tints (ns : List Int) : SeqAt.shaped (.tuple (ns.map PyData.int)) = true := by
  have h1 := PySem.W.depthAll_ints ns
  unfold SeqAt.shaped
  rw [Bool.and_eq_true]
  refine ⟨by simp only [PyData.canLay0]; exact PySem.W.canLayAll0_ints ns, decide_eq_true ?_⟩
  simp only [PyData.depth]
  omega
theorem eqv_tints (ns : List Int) : PyData.eqv (.tuple (ns.map PyData.int)) (.tuple []) = ns.isEmpty := by
  cases ns with
  | nil => simp [PyData.eqv, PyData.eqvAll]
  | cons n r => simp [PyData.eqv, PyData.eqvAll]
theorem atI_int {α : Type} {xs : List α} {i : Int} {v : α} (h0 : 0 ≤ i) (h : xs[i.toNat]? = some v) : atI xs i = some v := by
  obtain ⟨j, rfl⟩ := Int.eq_ofNat_of_zero_le h0
  exact atI_nat h
theorem np_in {σ : L2.St} {H : Hp} {Q : Option Int → Hp → Prop} (h : Q none H) : tNoPart σ H Q := h
/-- a tuple that the top has written -/
def KT (K : PySem.W.Frag) (a : Addr) (xs : List V) : Prop := ∃ (o : Obj) (its : Array Value) (n : Nat), K.lookup a = some o ∧ o.cls = .type "tuple" ∧ o.data = .seq its n ∧ its.size ≤ sizeLine ∧ Vals xs its.toList
end My

set_option Elab.async false
set_option linter.all false
set_option maxRecDepth 100000
set_option maxHeartbeats 2000000
/-! x in a tuple of texts, whatever x is -/
namespace My
open PySem PySem.Spec PyProof.Rows L2 PySem.SeqAt
theorem str_declines_dict (b : Str) (u : Tok) (l : Addr) (o : Obj) (es : Array DictEntry) (n : Nat) (hd : o.data = .dict es n) :
    Meets (Builtin.«str.__eq__» ⟨[.str b u, .ref l], []⟩) (fun _ R s => s.heap.get? l = some o ∧ R (.ok (.ret .notImplemented)) s) := by
  obtain ⟨cls, dd, data, sl⟩ := o
  simp only at hd
  subst hd
  refine .of_wp fun prog w A R s h => ?_
  obtain ⟨hp, g, d, tk, os⟩ := s
  obtain ⟨hl, h⟩ := h
  wp_walk using wpAny_loadPart' hl, wpAny_load hl
  exact ⟨_, rfl, h⟩
theorem dict_declines_str (b : Str) (u : Tok) (l : Addr) (o : Obj) (es : Array DictEntry) (n : Nat) (hc : o.cls = .type "dict") (hd : o.data = .dict es n) :
    Meets (Builtin.«dict.__eq__» ⟨[.ref l, .str b u], []⟩) (fun _ R s => s.heap.get? l = some o ∧ R (.ok (.ret .notImplemented)) s) := by
  obtain ⟨cls, dd, data, sl⟩ := o
  simp only at hd hc
  subst hd hc
  refine .of_wp fun prog w A R s h => ?_
  obtain ⟨hp, g, d, tk, os⟩ := s
  obtain ⟨hl, h⟩ := h
  wp_walk using wpAny_loadPart' hl, wpAny_load hl
  refine wpAny_of_eq (show isSubtype (.type "str") (.type "dict") = pure false by rw [isSubtype_type]; kernel_rfl) ?_
  rw [if_pos (by decide)]
  exact wpAny_bind (wpAny_rule (wpAny_pure ⟨_, rfl, h⟩))
section
variable {A : Around} {s : Shared}
theorem eq_str_dict {l : Addr} {o : Obj} {es : Array DictEntry} {n : Nat} (b : Str) (u : Tok) (ho : s.heap.get? l = some o) (hc : o.cls = .type "dict") (hd : o.data = .dict es n) (hu : A.units < cLine) : EqAt A s (.str b u) (.ref l) false := fun prog w E Q h => by
  unfold eqBool
  refine wpAny_holding (wpAny_ite_split (fun hab => absurd (eq_of_beq hab) nofun) fun _ => ?_)
  refine wpAny_bind (rc_eq_decline_or (k := false) (typeIs_str s b u) ⟨_, ho, hc⟩ (by decide) F.sub_dict_str F.slot_str_eq F.slot_dict_eq_refl
    (fun _ hq => call_meets F.slot_str_eq (typeIs_str s b u) F.entry_str_eq (F.args_str_eq_2 _ _) (str_declines_dict b u l o es n hd) ⟨ho, hq⟩)
    (fun _ hq => call_meets F.slot_dict_eq_refl ⟨_, ho, hc⟩ F.entry_dict_eq (F.args_dict_eq_2 _ _) (dict_declines_str b u l o es n hc hd) ⟨ho, hq⟩)
    (fun _ hq => wpAny_of_eq (rfl : isSame (.str b u) (.ref l) = pure false) hq) (.inr hu) (wpAny_truthy_bool h))
end
def strIn (zs : List Str) : V → Bool
  | .str z => zs.any (fun y => y == z)
  | _ => false
def eqS (x : V) : Value → Bool
  | .str y _ => (match x with | .str z => y == z | _ => false)
  | _ => false
section
variable {X : Cx}
theorem eqAt_typed {pins : List (Addr × Obj)} {σ : L2.St} {H : Hp} {s : Shared} {x : V} {v : Value} {A : Around} (I : Inv X pins σ H s) (hx : Typed H x) (rx : RelV x v) (hu : A.units < cLine) (y : Str) (t : Tok) : EqAt A s (.str y t) v (eqS x (.str y t)) := by
  cases x with
  | non => cases rx; exact EqAt.str_none y t
  | bl b => cases rx; exact EqAt.str_bool y t b
  | int i => obtain ⟨u, rfl⟩ := rx; exact EqAt.str_int y t i u
  | str z => obtain ⟨u, rfl⟩ := rx; exact EqAt.str_str y t z u
  | ref a =>
    obtain rfl : v = Value.ref a := rx
    rcases hx with ⟨xs, e⟩ | ⟨xs, e⟩ | ⟨kvs, e⟩
    · obtain ⟨_, its, _, p⟩ := (show ObjOk X.prog X.w H s.heap a (.tup xs) from I.hok a _ e)
      exact EqAt.str_tuple y t p hu
    · obtain ⟨_, its, n, _, p⟩ := (show ObjOk X.prog X.w H s.heap a (.lst xs) from I.hok a _ e)
      exact EqAt.str_list (items := its.toArray) y t ⟨_, p, rfl, n, rfl⟩ hu
    · obtain ⟨_, _, ws, _, o, es, ep, ho, hex, hd, _⟩ := (show ObjOk X.prog X.w H s.heap a (.dK kvs) from I.hok a _ e)
      exact eq_str_dict y t ho hex.1 hd hu
  | _ => exact hx.elim
theorem any_eqS {x : V} : ∀ {zs : List Str} {us : List Value}, Vals (zs.map V.str) us → us.any (eqS x) = strIn zs x
  | [], _, .nil => by cases x <;> rfl
  | z :: zs, _, .cons r t => by
    obtain ⟨k, rfl⟩ := (show ∃ k, _ = Value.str z k from r)
    rw [List.any_cons, any_eqS t]
    cases x with
    | str y => simp [eqS, strIn]
    | _ => simp [eqS, strIn]
def rInS (K : PySem.W.Frag) (neg : Bool) : R2 := fun x y H Q => ∃ (p : Addr) (zs : List Str), y = .ref p ∧ SqT K H p (zs.map V.str) ∧ Typed H x ∧ Q (.bl (if neg then !strIn zs x else strIn zs x)) H
theorem op_notIn_strs (hu : X.A.units + 1 < cLine) : OpR X (compareOp .NotIn) (rInS X.K true) := by
  intro pins s σ H x y v u Q I rx ry h
  obtain ⟨p, zs, rfl, hq, hx, q⟩ := h
  cases ry
  obtain ⟨its, r, pl, hz⟩ := I.tuple hq
  refine notIn_tupleAt (eqS x) pl (fun w hw => ?_) ⟨.bl _, H, I, rfl, ?_⟩
  · have hw : w ∈ its := by simpa using hw
    obtain ⟨z, t, rfl⟩ : ∃ z t, w = Value.str z t := by
      clear q hx rx pl hz
      have key : ∀ {zs : List Str} {us : List Value}, Vals (zs.map V.str) us → w ∈ us → ∃ z t, w = Value.str z t := by
        intro zs
        induction zs with
        | nil => intro us r hw; cases r; cases hw
        | cons z zs ih =>
          intro us r hw
          cases r with
          | cons r t =>
            rcases List.mem_cons.mp hw with e | e
            · obtain ⟨k, e2⟩ := (show ∃ k, _ = Value.str z k from r)
              exact ⟨z, k, e.trans e2⟩
            · exact ih t e
      exact key r hw
    exact eqAt_typed I hx rx hu z t
  · rw [show its.toArray.any (eqS x) = its.any (eqS x) by simp, any_eqS r]
    exact q
end
end My

set_option Elab.async false
set_option linter.all false
set_option maxRecDepth 100000
set_option maxHeartbeats 2000000
/-! PAGES: their forms, told by lists; heaps that grow beside tables -/
namespace My
open PySem PySem.Spec PyProof.Rows L2
/-! ### heaps that grow -/
def Gk (Ts : List Addr) (H H' : Hp) : Prop := (∀ b o, H b = some o → (∀ ps, o ≠ .tbl ps) → H' b = some o) ∧ Tbs Ts H'
theorem Gk.refl {Ts : List Addr} {H : Hp} (h : Tbs Ts H) : Gk Ts H H := ⟨fun _ _ e _ => e, h⟩
theorem Gk.trans {Ts : List Addr} {H H1 H2 : Hp} (a : Gk Ts H H1) (b : Gk Ts H1 H2) : Gk Ts H H2 := ⟨fun x o e n => b.1 x o (a.1 x o e n) n, b.2⟩
theorem Tk.gk {Ts : List Addr} {H H' : Hp} (t : Tk Ts H H') (h : Tbs Ts H) : Gk Ts H H' := ⟨fun _ _ e n => t.at h e n, t.2⟩
theorem Gk.of_same {Ts : List Addr} {H H' : Hp} (s : Same H H') (h : Tbs Ts H) : Gk Ts H H' := ⟨fun _ _ e _ => s _ _ e, h.same s⟩
theorem Gk.new {Ts : List Addr} {H : Hp} {p : Addr} {o : HO} (h : Tbs Ts H) (hp : H p = none) : Gk Ts H (upd H p o) := .of_same (same_upd hp) h
theorem Gk.tup {Ts : List Addr} {H H' : Hp} {b : Addr} {xs : List V} (t : Gk Ts H H') (e : H b = some (.tup xs)) : H' b = some (.tup xs) := t.1 _ _ e fun ps z => by cases z
theorem Deep.gk {Ts : List Addr} {H H' : Hp} {v : V} (h : Deep H v) (g : Gk Ts H H') : Deep H' v := h.of g.1
theorem Typed.gk {Ts : List Addr} {H H' : Hp} {v : V} (h : Typed H v) (g : Gk Ts H H') : Typed H' v := h.of fun b o e n _ => g.1 b o e n
theorem Tap.gk {Ts : List Addr} {H H' : Hp} {t : Addr} {n : Nat} (hT : Tap H t n) (k : Gk Ts H H') : Tap H' t n := by
  obtain ⟨c, ns, sp, re, ca, h1, h2, h3⟩ := hT
  exact ⟨c, ns, sp, re, ca, k.1 _ _ h1 (fun ps z => by cases z), k.1 _ _ h2 (fun ps z => by cases z), h3⟩
theorem homeB_gk {Ts : List Addr} {H H' : Hp} {v : V} (h : Typed H v) (g : Gk Ts H H') : homeB H' v = homeB H v := by
  cases v with
  | ref a =>
    rcases h with ⟨xs, e⟩ | ⟨xs, e⟩ | ⟨xs, e⟩
    · simp only [homeB, e, g.1 _ _ e (fun ps z => by cases z)]
    · simp only [homeB, e, g.1 _ _ e (fun ps z => by cases z)]
    · simp only [homeB, e, g.1 _ _ e (fun ps z => by cases z)]
  | _ => rfl
/-! ### the walk of a zip of two tuples -/
theorem walk_zipT {K : PySem.W.Frag} {a b : Addr} {xs ys : List V} {n : Nat} (hn : n = min xs.length ys.length) : Walk (RZ.ItzT K a b) n (fun H => SqT K H a xs ∧ SqT K H b ys) (YPair (fun i => xs[i]?) (fun i => ys[i]?)) := by
  subst hn
  refine ⟨fun i _ hi q => ?_, fun _ q => ⟨xs, ys, q.1, q.2, by omega⟩, fun i H v H' _ q y => ?_⟩
  · have h1 : i < xs.length := by omega
    have h2 : i < ys.length := by omega
    exact ⟨xs, ys, xs[i], ys[i], q.1, q.2, by simp [h1], by simp [h2]⟩
  · obtain ⟨T, x, z, h1, h2, h3, h4, h5⟩ := y
    exact ⟨T, x, z, h1, h2, h3, h4 xs q.1, h5 ys q.2⟩
/-! ### forms -/
def kinds : List Str := ["house", "part", "join", "home", "mourn", "ahead", "card", "visit"]
def formsOf (k : Str) : Option (List Str) :=
  if k = "house" then some ["name", "home"] else if k = "part" then some ["name", "name", "home"] else if k = "join" then some ["name", "name"]
  else if k = "home" then some ["name", "home"] else if k = "mourn" then some ["name", "many"] else if k = "ahead" then some ["name", "name"]
  else if k = "card" then some ["name", "name"] else if k = "visit" then some ["name", "name"] else none
def fitB (H : Hp) (f : Str) (v : V) : Bool := if f = "name" then nameB v else if f = "home" then homeB H v else inW v 1 60
theorem fitB_gk {Ts : List Addr} {H H' : Hp} {f : Str} {v : V} (h : Typed H v) (g : Gk Ts H H') : fitB H' f v = fitB H f v := by
  unfold fitB
  rw [homeB_gk h g]
/-- all parts fit their forms -/
def fitsB (H : Hp) (fs : List Str) (r : List V) : Bool := (fs.zip r).all fun p => fitB H p.1 p.2
/-- the parts whose form is a name -/
def namesB (fs : List Str) (r : List V) : List V := ((fs.zip r).filter fun p => decide (p.1 = ("name" : Str))).map (·.2)
def formV (H : Hp) : List V → Bool
  | .str k :: d :: r => match formsOf k with
    | some fs => inW d 0 9999 && (decide (r.length = fs.length) && fitsB H fs r)
    | none => false
  | _ => false
def formB (H : Hp) : V → Bool
  | .ref a => match H a with
    | some (.tup xs) => formV H xs
    | _ => false
  | _ => false
def namesV : List V → List V
  | .str k :: _ :: r => namesB ((formsOf k).getD []) r
  | _ => []
def unlike : List V → Bool
  | [_] => true
  | a :: b :: _ => !decide (a = b)
  | _ => true
def pageB (H : Hp) : V → Bool
  | .ref a => match H a with
    | some (.tup xs) => formV H xs && unlike (namesV xs)
    | _ => false
  | _ => false
/-- a thing, what is in it where it is a tuple, and in these -/
def Pgd (H : Hp) (v : V) : Prop := Typed H v ∧ ∀ a xs, v = .ref a → H a = some (.tup xs) → xs.length ≤ 100 ∧ ∀ x ∈ xs, Deep H x ∧ PlainV x
theorem not_tupF {H : Hp} {v : V} (k : ¬ kindB H "tuple" v = true) : formB H v = false ∧ pageB H v = false := by
  cases v with
  | ref a =>
    constructor
    · show (match H a with | some (.tup xs) => formV H xs | _ => false) = false
      cases e : H a with
      | none => rfl
      | some o =>
        cases o with
        | tup xs => exact absurd (by simp [kindB, e]) k
        | _ => rfl
    · show (match H a with | some (.tup xs) => formV H xs && unlike (namesV xs) | _ => false) = false
      cases e : H a with
      | none => rfl
      | some o =>
        cases o with
        | tup xs => exact absurd (by simp [kindB, e]) k
        | _ => rfl
  | _ => exact ⟨rfl, rfl⟩
theorem form_short {H : Hp} {xs : List V} (h : xs.length < 2) : formV H xs = false := by
  match xs, h with
  | [], _ => rfl
  | [x], _ => cases x <;> rfl
theorem kinds_iff {k : Str} : kinds.any (fun y => y == k) = (formsOf k).isSome := by
  unfold kinds formsOf
  by_cases h1 : k = "house"
  · subst h1; decide
  by_cases h2 : k = "part"
  · subst h2; decide
  by_cases h3 : k = "join"
  · subst h3; decide
  by_cases h4 : k = "home"
  · subst h4; decide
  by_cases h5 : k = "mourn"
  · subst h5; decide
  by_cases h6 : k = "ahead"
  · subst h6; decide
  by_cases h7 : k = "card"
  · subst h7; decide
  by_cases h8 : k = "visit"
  · subst h8; decide
  have f : ∀ {a : Str}, ¬ k = a → (a == k) = false := fun h => beq_eq_false_iff_ne.mpr fun z => h z.symm
  simp only [List.any_cons, List.any_nil, f h1, f h2, f h3, f h4, f h5, f h6, f h7, f h8, if_neg h1, if_neg h2, if_neg h3, if_neg h4, if_neg h5, if_neg h6, if_neg h7, if_neg h8]
  rfl
theorem form_kind {H : Hp} {x d : V} {r : List V} (h : strIn kinds x = false) : formV H (x :: d :: r) = false := by
  cases x with
  | str k =>
    have h : kinds.any (fun y => y == k) = false := h
    rw [kinds_iff] at h
    show (match formsOf k with | some fs => _ | none => false) = false
    cases e : formsOf k with
    | none => rfl
    | some fs => rw [e] at h; cases h
  | _ => rfl
theorem kind_in {x : V} (h : strIn kinds x = true) : ∃ k fs, x = .str k ∧ formsOf k = some fs := by
  cases x with
  | str k =>
    have h : kinds.any (fun y => y == k) = true := h
    rw [kinds_iff] at h
    cases e : formsOf k with
    | none => rw [e] at h; cases h
    | some fs => exact ⟨k, fs, rfl, e⟩
  | _ => cases h
theorem forms_len {k : Str} {fs : List Str} (h : formsOf k = some fs) : 2 ≤ fs.length ∧ fs.length ≤ 3 := by
  unfold formsOf at h
  repeat (split at h; · cases h; decide)
  cases h
theorem cut2 (x d : V) (r : List V) : cutV (x :: d :: r) (some 2) none = r := by
  unfold cutV
  rw [show HT.sIx (x :: d :: r).length 0 (some 2) = min 2 (x :: d :: r).length from HT.sIx_nat _ _ 2, HT.sIx_none]
  have : min 2 (x :: d :: r).length = 2 := by simp
  rw [this]
  simp
theorem Pgd.of {H H' : Hp} {v : V} (h : Pgd H v) (s : ∀ b o, H b = some o → (∀ ps, o ≠ .tbl ps) → H' b = some o) : Pgd H' v := by
  refine ⟨h.1.of fun b o e n _ => s b o e n, fun a xs e1 e2 => ?_⟩
  subst e1
  rcases h.1 with ⟨ys, e⟩ | ⟨ys, e⟩ | ⟨ys, e⟩
  · have e3 := s a _ e fun ps z => by cases z
    rw [e2] at e3
    cases e3
    exact ⟨(h.2 a _ rfl e).1, fun x hx => ⟨((h.2 a _ rfl e).2 x hx).1.of s, ((h.2 a _ rfl e).2 x hx).2⟩⟩
  · have e3 := s a _ e fun ps z => by cases z
    rw [e2] at e3
    cases e3
  · have e3 := s a _ e fun ps z => by cases z
    rw [e2] at e3
    cases e3
theorem Pgd.gk {Ts : List Addr} {H H' : Hp} {v : V} (h : Pgd H v) (g : Gk Ts H H') : Pgd H' v := h.of g.1
theorem fits_get {H : Hp} {fs : List Str} {r : List V} (h : ∀ (k : Nat) (f : Str) (x : V), fs[k]? = some f → r[k]? = some x → fitB H f x = true) : fitsB H fs r = true :=
  all_get fun k p e => by
    rw [List.getElem?_zip_eq_some] at e
    exact h k p.1 p.2 e.1 e.2
theorem fits_not {H : Hp} {fs : List Str} {r : List V} {k : Nat} {f : Str} {x : V} (h1 : fs[k]? = some f) (h2 : r[k]? = some x) (e : fitB H f x = false) : fitsB H fs r = false :=
  all_not (k := k) (x := (f, x)) (List.getElem?_zip_eq_some.mpr ⟨h1, h2⟩) e
theorem str_at {fs : List Str} {i : Nat} {x : V} (h : (fs.map V.str)[i]? = some x) : ∃ f, x = .str f ∧ fs[i]? = some f := by
  rw [List.getElem?_map] at h
  cases e : fs[i]? with
  | none => rw [e] at h; cases h
  | some f => rw [e] at h; cases h; exact ⟨f, rfl, rfl⟩
theorem names_take {fs : List Str} {r : List V} {i : Nat} {f : Str} {x : V} (h1 : fs[i]? = some f) (h2 : r[i]? = some x) :
    ((((fs.zip r).take (i + 1)).filter fun p => decide (p.1 = ("name" : Str))).map (·.2)) = ((((fs.zip r).take i).filter fun p => decide (p.1 = ("name" : Str))).map (·.2)) ++ (if f = "name" then [x] else []) := by
  rw [take_filter (c := (f, x)) _ (List.getElem?_zip_eq_some.mpr ⟨h1, h2⟩), List.map_append]
  congr 1
  by_cases e : f = "name"
  · subst e; simp
  · simp [e]
theorem sz' {n : Nat} (h : n ≤ 3) : n < sizeLine := small1000 (by omega)
theorem page_form {H : Hp} {v : V} (h : formB H v = false) : pageB H v = false := by
  cases v with
  | ref a =>
    have h : (match H a with | some (.tup xs) => formV H xs | _ => false) = false := h
    show (match H a with | some (.tup xs) => formV H xs && unlike (namesV xs) | _ => false) = false
    cases e : H a with
    | none => rfl
    | some o =>
      rw [e] at h
      cases o with
      | tup xs =>
        have h : formV H xs = false := h
        show (formV H xs && _) = false
        rw [h, Bool.false_and]
      | _ => rfl
  | _ => rfl
theorem form_inv {H : Hp} {v : V} (h : formB H v = true) : ∃ a k d r fs, v = .ref a ∧ H a = some (.tup (.str k :: d :: r)) ∧ formsOf k = some fs ∧ r.length = fs.length ∧ fitsB H fs r = true := by
  cases v with
  | ref a =>
    have h : (match H a with | some (.tup xs) => formV H xs | _ => false) = true := h
    cases e : H a with
    | none => rw [e] at h; cases h
    | some o =>
      rw [e] at h
      cases o with
      | tup xs =>
        have h : formV H xs = true := h
        match xs, h with
        | .str k :: d :: r, h =>
          have h : (match formsOf k with | some fs => inW d 0 9999 && (decide (r.length = fs.length) && fitsB H fs r) | none => false) = true := h
          cases e2 : formsOf k with
          | none => rw [e2] at h; cases h
          | some fs =>
            rw [e2] at h
            have h : (inW d 0 9999 && (decide (r.length = fs.length) && fitsB H fs r)) = true := h
            rw [Bool.and_eq_true, Bool.and_eq_true, decide_eq_true_eq] at h
            exact ⟨a, k, d, r, fs, rfl, e, e2, h.2.1, h.2.2⟩
      | _ => cases h
  | _ => cases h
theorem forms_cases {k : Str} {fs : List Str} (h : formsOf k = some fs) : fs = [("name" : Str), "home"] ∨ fs = [("name" : Str), "name", "home"] ∨ fs = [("name" : Str), "name"] ∨ fs = [("name" : Str), "many"] := by
  unfold formsOf at h
  repeat' split at h
  all_goals first | (cases h; simp; done) | cases h
theorem fit_name {H : Hp} {v : V} (h : fitB H "name" v = true) : nameB v = true := h
theorem name_str {v : V} (h : nameB v = true) : ∃ z, v = .str z := by
  cases v <;> first | exact ⟨_, rfl⟩ | cases h
theorem names_cases {H : Hp} {k : Str} {fs : List Str} {r : List V} (h : formsOf k = some fs) (hl : r.length = fs.length) (hf : fitsB H fs r = true) : (∃ x, namesB fs r = [.str x]) ∨ (∃ x y, namesB fs r = [.str x, .str y]) := by
  rcases forms_cases h with rfl | rfl | rfl | rfl
  · match r, hl with
    | [x, y], _ =>
      have hf : (fitB H "name" x && (fitB H "home" y && true)) = true := hf
      rw [Bool.and_eq_true] at hf
      obtain ⟨z, rfl⟩ := name_str (fit_name hf.1)
      exact .inl ⟨z, rfl⟩
  · match r, hl with
    | [x, y, u], _ =>
      have hf : (fitB H "name" x && (fitB H "name" y && (fitB H "home" u && true))) = true := hf
      rw [Bool.and_eq_true, Bool.and_eq_true] at hf
      obtain ⟨z, rfl⟩ := name_str (fit_name hf.1)
      obtain ⟨z2, rfl⟩ := name_str (fit_name hf.2.1)
      exact .inr ⟨z, z2, rfl⟩
  · match r, hl with
    | [x, y], _ =>
      have hf : (fitB H "name" x && (fitB H "name" y && true)) = true := hf
      rw [Bool.and_eq_true, Bool.and_eq_true] at hf
      obtain ⟨z, rfl⟩ := name_str (fit_name hf.1)
      obtain ⟨z2, rfl⟩ := name_str (fit_name hf.2.1)
      exact .inr ⟨z, z2, rfl⟩
  · match r, hl with
    | [x, y], _ =>
      have hf : (fitB H "name" x && (fitB H "many" y && true)) = true := hf
      rw [Bool.and_eq_true] at hf
      obtain ⟨z, rfl⟩ := name_str (fit_name hf.1)
      exact .inl ⟨z, rfl⟩
end My

set_option Elab.async false
set_option linter.all false
set_option maxRecDepth 100000
set_option maxHeartbeats 2000000
/-! Promises of defs that are called while nothing is being shown (no repr is under way): the text that repr tells is then the thing's own. -/
namespace GU
open PySem PySem.Spec PyProof.Rows L2
/-- as FnOk, where no repr is under way -/
structure FnG (P : Program) (w : World) (K : PySem.W.Frag) (mg : Str → Option Value) (base : Heap) (CX : CXT) (k : Nat) (f : Addr) (fd : FuncData) (ps : List Str) (sp : Sp) : Prop where
  len : ∀ vs H Q E, sp vs H Q E → vs.length = ps.length
  go : ∀ (A : Around), A.guards = some [] → ∀ (outer : List Env) (s : Shared) (H : Hp) (args : Args) (us : List Value) (vs : List V) (Q : VK) (E : XK),
    Room k A → Env0 P w K mg base A outer s H → BindsTo s fd args (ps.zip us) → Vals vs us → sp vs H Q E → codeAny (model P w) A (.call (.ref f) args) (CR CX outer P w H s Q E) s
section
variable {P : Program} {w : World} {K : PySem.W.Frag} {mg : Str → Option Value} {base : Heap} {CX : CXT} {k : Nat} {f : Addr} {fd : FuncData} {ps : List Str} {sp : Sp}
theorem FnG.of (F : FnOk P w K mg base CX k f fd ps sp) : FnG P w K mg base CX k f fd ps sp :=
  ⟨F.len, fun A _ outer s H args us vs Q E => F.run A outer s H args us vs Q E⟩
/-- a def by its body -/
theorem fnG_of {N : List Str} {name qual : Str} {params : Arguments} {body : List Stmt} {scope : Scope} {dV kV doc pm cdv ct oc : Value} {an od : Option Addr} {osl : Array (Option Value)}
    (look : K.lookup f = some ⟨oc, od, .func (PySem.W.fnOf name qual params body scope dV kV doc pm an cdv ct), osl⟩) (code : PySem.W.codeIn K cdv qual = true) (S : FnScope N ps scope)
    (len : ∀ vs H Q E, sp vs H Q E → vs.length = ps.length)
    (hbody : ∀ (A : Around) (outer : List Env) (s : Shared) (H : Hp) (vs : List V) (Q : VK) (E : XK), A.guards = some [] → Room k (A.deeper (envOfC qual scope s.heap.objs.size f cdv)) → sp vs H Q E →
      ∃ t, PSs (cxOf CX P w K mg base N qual scope f cdv A outer s H E) body t ∧ t { nx := fun _ H' => Q .non H', rt := Q } (start N vs) H) :
    FnG P w K mg base CX (k + 1) f (PySem.W.fnOf name qual params body scope dV kV doc pm an cdv ct) ps sp := by
  refine ⟨len, ?_⟩
  intro A gd outer s H args us vs Q E room env bind rel want
  obtain ⟨t, runs, reads⟩ := hbody A outer s H vs Q E gd (room.deeper _) want
  have stays : ∀ b o, base.get? b = some o → s.heap.get? b = some o := fun b o e => (env.bs b o e).1
  have inK := env.mod.kin.keeps stays
  have kinds : ∀ y ∈ ps.zip us, scope.names.lookup y.1 = some .local ∨ (scope.names.lookup y.1 = some .cell ∧ ((cellsFrom (s.heap.objs.size + 1) scope.names []).lookup y.1).isSome = true) := by
    rintro ⟨n, v⟩ hy
    refine (S.par n (List.of_mem_zip hy).1).imp id fun c => ⟨c, PySem.W.cellsFrom_some _ _ _ (.inl c)⟩
  refine codeAny_call_function room.depth (inK _ _ look) rfl S.co S.gen rfl (PySem.W.codeRec_of inK code) (bind _ _ _ _ ?_)
  refine wpAny_newFunctionEnv_cells S.kind kinds ?_
  rintro env2 rfl s1 x
  refine ⟨(env.mod.nolimit.keeps stays).keeps x.toInCall.keep, codeAny_func ?_⟩
  refine wpAny_mono (runs.run [] s1 (start N vs) H _ (inv_start S room.hd env (len _ _ _ _ want) rel x) reads) ?_ fun _ _ h => h
  intro fl s' hs
  cases fl with
  | brk => exact let ⟨_, _, _, q⟩ := hs; q.elim
  | cont => exact let ⟨_, _, _, q⟩ := hs; q.elim
  | next => exact let ⟨_, H', J, q⟩ := hs; ⟨V.non, H', J.os, J.bare, J.base, J.hok, rfl, q⟩
  | ret u => exact let ⟨v, _, H', J, rv, q⟩ := hs; ⟨v, H', J.os, J.bare, J.base, J.hok, rv, q⟩
end
section
variable {P : Program} {w : World} {K : PySem.W.Frag} {mg : Str → Option Value} {base : Heap} {k : Nat} {f : Addr} {fd : FuncData} {ps N : List Str} {sp : Sp} {x qual : Str} {st : Stmt}
theorem okG (F : Fun K x qual st f fd) (S : FnScope N ps (defScope st)) (len : ∀ vs H Q E, sp vs H Q E → vs.length = ps.length)
    (hbody : ∀ (cdv : Value) (A : Around) (outer : List Env) (s : Shared) (H : Hp) (vs : List V) (Q : VK) (E : XK), A.guards = some [] → Room k (A.deeper (envOfC qual (defScope st) s.heap.objs.size f cdv)) → sp vs H Q E →
      ∃ t, PSs (cxOf CX0 P w K mg base N qual (defScope st) f cdv A outer s H E).nox (defBody st) t ∧ t { nx := fun _ H' => Q .non H', rt := Q } (start N vs) H) : FnG P w K mg base CX0 (k + 1) f fd ps sp := by
  obtain ⟨oc, od, kV, doc, pm, an, cdv, ct, osl, rfl, lk, hcd⟩ := F.ex
  refine fnG_of lk hcd S len fun A outer s H vs Q E gd hr hsp => ?_
  obtain ⟨t, h, q⟩ := hbody cdv A outer s H vs Q E gd hr hsp
  exact ⟨t, h.nox, q⟩
theorem okGC {c : Addr} (F : GE.FunC K x qual st f fd c) (S : FnScope N ps (defScope st)) (len : ∀ vs H Q E, sp vs H Q E → vs.length = ps.length)
    (hbody : ∀ (A : Around) (outer : List Env) (s : Shared) (H : Hp) (vs : List V) (Q : VK) (E : XK), A.guards = some [] → Room k (A.deeper (envOfC qual (defScope st) s.heap.objs.size f (.ref c))) → sp vs H Q E →
      ∃ t, PSs (cxOf CX0 P w K mg base N qual (defScope st) f (.ref c) A outer s H E).nox (defBody st) t ∧ t { nx := fun _ H' => Q .non H', rt := Q } (start N vs) H) : FnG P w K mg base CX0 (k + 1) f fd ps sp := by
  obtain ⟨oc, od, kV, doc, pm, an, ct, osl, rfl, lk, hcd⟩ := F.ex
  refine fnG_of lk hcd S len fun A outer s H vs Q E gd hr hsp => ?_
  obtain ⟨t, h, q⟩ := hbody A outer s H vs Q E gd hr hsp
  exact ⟨t, h.nox, q⟩
end
section
variable {X : Cx} {CX : CXT} {k : Nat} {f : Addr} {fd : FuncData} {ps : List Str} {sp : Sp} {dvs : List V} {ds : List Value} {E : XK} {x : Str} {p pos : Pos} {e : Expr} {es : List Expr} {t : TA}
/-- f(..) -/
theorem pe_callG (F : FnG X.prog X.w X.K X.mg X.base CX k f fd ps sp) (gd : X.A.guards = some []) (hr : Room k X.A) (hg : Gl X x) (hm : X.mg x = some (.ref f)) (hk : PySem.W.keepIn X.K (.ref f) = true) (hb : Binds X.K fd ps ds) (hd : Vals dvs ds) (hx : Passes CX X E)
    (ha : PA X (e :: es) t) (hdb : (x == ("__debug__" : Str)) = false := by decide) (he : starEach (e :: es) X.env = (false, eval e X.env) :: starEach es X.env := by rfl) (hpl : (backTo pos (starEach es X.env)).any (·.1) = false := by rfl) :
    PE X (.Call (.Name x p) (e :: es) [] pos) (tCall sp dvs E t) := by
  constructor
  intro pins s σ H Q I h
  have args := ha.run pos pins s σ H _ I h
  refine wpAny_Call_Name_kw (ld_glob I hg hm (PySem.W.callWith_K (h₀ := X.base) I.ok.mod.kin hk (thn args ?_) he hpl) hdb)
  rintro us s1 ⟨vs, H1, J, r, q⟩
  refine ⟨J.kIn, wpAny_call (codeAny_mono (F.go X.A gd X.stack s1 H1 ⟨us, []⟩ (us ++ ds) (vs ++ dvs) Q E hr J.env0 (hb s1 us J.kIn ?_) (r.append hd) q) ?_)⟩
  · rw [← (r.append hd).length]
    exact F.len _ _ _ _ q
  · intro res s2 hq
    match res, hq with
    | .error e, hq => exact hx pins σ H1 s1 e s2 J hq
    | .ok (.ret u), hq => exact J.after hq
end
end GU
/-! ### repr of things -/
namespace GU
open PySem PySem.Spec PyProof.Rows L2
mutual
def Sh : PyData → Prop
  | .none => True
  | .bool _ => True
  | .int i => i.natAbs.log2 < 1920
  | .str x => ∀ c ∈ x.cps.toList, c < 16 ^ 8
  | .list xs => ShAll xs
  | .tuple xs => ShAll xs
  | .dict _ => False
def ShAll : List PyData → Prop
  | [] => True
  | x :: xs => Sh x ∧ ShAll xs
end
mutual
def cost : PyData → Nat
  | .none => 4
  | .bool _ => 5
  | .int _ => 1921
  | .str x => 10 * x.length + 4
  | .list xs => costAll xs + 3
  | .tuple xs => costAll xs + 3
  | .dict _ => 0
def costAll : List PyData → Nat
  | [] => 0
  | x :: xs => cost x + 2 + costAll xs
end
mutual
theorem sh_ok : ∀ {d : PyData}, Sh d → d.showable = true ∧ d.hasDict = false ∧ d.shown.length ≤ cost d
  | .none, _ => ⟨rfl, rfl, by decide +kernel⟩
  | .bool b, _ => ⟨rfl, rfl, by cases b <;> decide +kernel⟩
  | .int i, h => ⟨decide_eq_true h, rfl, int_text_len_1921 h⟩
  | .str x, h => ⟨rfl, rfl, Nat.le_trans (StrLaws.reprText_len x h) (Nat.add_le_add_left (by decide) _)⟩
  | .list xs, h => by
    obtain ⟨a, b, c⟩ := shAll_ok (xs := xs) h
    refine ⟨by rw [PyData.showable]; exact a, by rw [PyData.hasDict]; exact b, ?_⟩
    rw [PyData.shown, cost]
    exact Nat.le_trans (listText_len_le _) (by omega)
  | .tuple xs, h => by
    obtain ⟨a, b, c⟩ := shAll_ok (xs := xs) h
    refine ⟨by rw [PyData.showable]; exact a, by rw [PyData.hasDict]; exact b, ?_⟩
    rw [PyData.shown, cost]
    exact Nat.le_trans (tupleText_len_le _) (by omega)
  | .dict _, h => h.elim
theorem shAll_ok : ∀ {xs : List PyData}, ShAll xs → PyData.showableAll xs = true ∧ PyData.hasDictAll xs = false ∧ ((PyData.shownAll xs).map (·.length)).sum + 2 * (PyData.shownAll xs).length ≤ costAll xs
  | [], _ => ⟨rfl, rfl, Nat.le_refl _⟩
  | x :: xs, h => by
    obtain ⟨a1, b1, c1⟩ := sh_ok h.1
    obtain ⟨a2, b2, c2⟩ := shAll_ok h.2
    refine ⟨by rw [PyData.showableAll, a1, a2]; rfl, by rw [PyData.hasDictAll, b1, b2]; rfl, ?_⟩
    rw [PyData.shownAll, costAll, List.map_cons, List.sum_cons, List.length_cons]
    omega
end
section
variable {X : Cx} {k : Nat}
/-- repr of any thing of numbers, truths, texts, None, lists and tuples -/
theorem call_reprD (gd : X.A.guards = some []) (hr : Room k X.A) : CallR X (.builtin "repr") (fun xs H Q => ∃ v d, xs = [v] ∧ Dp X.K H v d ∧ Sh d ∧ d.depth ≤ 50 ∧ cost d ≤ sizeLine ∧ Q (.str d.shown) H) := by
  intro pins s σ H xs us Q I r h
  obtain ⟨v, d, rfl, dp, sh, deep, fits, q⟩ := h
  obtain ⟨u, rfl, ru⟩ := vals1 r
  obtain ⟨a, b, c⟩ := sh_ok sh
  have hu := hr.un
  cases dp with
  | non => cases ru; exact PySem.P.repr_of_none ⟨.str _, H, I.tok _, ⟨_, rfl⟩, q⟩
  | bl x => cases ru; exact PySem.P.repr_of_bool ⟨.str _, H, I.tok _, ⟨_, rfl⟩, q⟩
  | int i =>
    obtain ⟨t, rfl⟩ := ru
    exact PySem.P.repr_of_int sh ⟨.str _, H, I.tok _, ⟨_, rfl⟩, q⟩
  | str x =>
    obtain ⟨t, rfl⟩ := ru
    exact PySem.P.repr_of_str ⟨.str _, H, I.tok _, ⟨_, rfl⟩, q⟩ (Nat.le_trans c fits)
  | lst h1 h2 =>
    obtain ⟨as, rd⟩ := Dp.reads I _ _ _ (.lst h1 h2) ru
    cases ru
    exact repr_of_reads' rd a (PyData.noDict_hsm b) gd (by omega) (fun _ _ e => e) (fun h' u tk kp => ⟨.str _, H, I.turnedL (ch := []) (h' := h') (t' := tk) (fun b o _ e => kp b o e) (fun b hb => by cases hb), ⟨_, rfl⟩, q⟩) (Nat.le_trans c fits)
  | tup h1 h2 =>
    obtain ⟨as, rd⟩ := Dp.reads I _ _ _ (.tup h1 h2) ru
    cases ru
    exact repr_of_reads' rd a (PyData.noDict_hsm b) gd (by omega) (fun _ _ e => e) (fun h' u tk kp => ⟨.str _, H, I.turnedL (ch := []) (h' := h') (t' := tk) (fun b o _ e => kp b o e) (fun b hb => by cases hb), ⟨_, rfl⟩, q⟩) (Nat.le_trans c fits)
end
end GU

set_option Elab.async false
set_option linter.all false
set_option maxRecDepth 100000
set_option maxHeartbeats 2000000
/-! Numbers, texts, None and tuples of these, to any depth, as data (NestedKey): what stays, ==, in, <. -/
namespace My
open PySem PySem.Spec PyProof.Rows L2 PySem.SeqAt
mutual
inductive Nk (H : Hp) : V → NestedKey → Prop
  | non : Nk H .non .none
  | int (i : Int) : Nk H (.int i) (.num i)
  | str (z : Str) : Nk H (.str z) (.text z)
  | tup {a : Addr} {xs : List V} {ks : List NestedKey} : H a = some (.tup xs) → NkAll H xs ks → Nk H (.ref a) (.tup ks)
inductive NkAll (H : Hp) : List V → List NestedKey → Prop
  | nil : NkAll H [] []
  | cons {x : V} {k : NestedKey} {xs : List V} {ks : List NestedKey} : Nk H x k → NkAll H xs ks → NkAll H (x :: xs) (k :: ks)
end
/-- all tuples stay -/
def Tups (H H' : Hp) : Prop := ∀ b xs, H b = some (.tup xs) → H' b = some (.tup xs)
theorem Tups.refl (H : Hp) : Tups H H := fun _ _ e => e
theorem Tups.trans {H H1 H2 : Hp} (a : Tups H H1) (b : Tups H1 H2) : Tups H H2 := fun c xs e => b c xs (a c xs e)
theorem Tups.same {H H' : Hp} (s : Same H H') : Tups H H' := fun b xs e => s b _ e
theorem Tups.gk {Ts : List Addr} {H H' : Hp} (g : Gk Ts H H') : Tups H H' := fun b xs e => g.tup e
theorem Tups.kp {t : Addr} {H H' : Hp} {n : Nat} (hT : Tap H t n) (k : Kp t H H') : Tups H H' := fun b xs e => k b _ (fun z => by
  obtain ⟨_, _, _, _, _, e1, _⟩ := hT
  rw [z, e1] at e
  cases e) e
mutual
theorem Nk.at {H H' : Hp} (t : Tups H H') : ∀ {k : NestedKey} {v : V}, Nk H v k → Nk H' v k
  | .none, _, .non => .non
  | .num _, _, .int i => .int i
  | .text _, _, .str z => .str z
  | .tup _, _, .tup e h => .tup (t _ _ e) (NkAll.at t h)
theorem NkAll.at {H H' : Hp} (t : Tups H H') : ∀ {ks : List NestedKey} {xs : List V}, NkAll H xs ks → NkAll H' xs ks
  | [], _, .nil => .nil
  | _ :: _, _, .cons h r => .cons (h.at t) (r.at t)
end
mutual
theorem Nk.inj {H : Hp} : ∀ {k k' : NestedKey} {v : V}, Nk H v k → Nk H v k' → k = k'
  | .none, _, _, .non, h => by cases h; rfl
  | .num _, _, _, .int i, h => by cases h; rfl
  | .text _, _, _, .str z, h => by cases h; rfl
  | .tup _, _, _, .tup e a, h => by
    cases h with
    | tup e2 b =>
      rw [e] at e2
      cases e2
      rw [NkAll.inj a b]
theorem NkAll.inj {H : Hp} : ∀ {ks ks' : List NestedKey} {xs : List V}, NkAll H xs ks → NkAll H xs ks' → ks = ks'
  | [], _, _, .nil, h => by cases h; rfl
  | _ :: _, _, _, .cons a r, h => by
    cases h with
    | cons b t => rw [Nk.inj a b, NkAll.inj r t]
end
mutual
theorem Nk.dp {K : PySem.W.Frag} {H : Hp} : ∀ {k : NestedKey} {v : V}, Nk H v k → Dp K H v k.data
  | .none, _, .non => .non
  | .num _, _, .int i => .int i
  | .text _, _, .str z => .str z
  | .tup _, _, .tup e h => .tup (.inl (.inl e)) (NkAll.dp h)
theorem NkAll.dp {K : PySem.W.Frag} {H : Hp} : ∀ {ks : List NestedKey} {xs : List V}, NkAll H xs ks → DpAll K H xs (NestedKey.datas ks)
  | [], _, .nil => .nil
  | _ :: _, _, .cons h r => .cons h.dp r.dp
end
theorem NkAll.length {H : Hp} : ∀ {ks : List NestedKey} {xs : List V}, NkAll H xs ks → xs.length = ks.length
  | [], _, .nil => rfl
  | _ :: _, _, .cons _ r => congrArg (· + 1) r.length
theorem NkAll.get {H : Hp} : ∀ {ks : List NestedKey} {xs : List V} {i : Nat} {x : V}, NkAll H xs ks → xs[i]? = some x → ∃ k, ks[i]? = some k ∧ Nk H x k
  | [], _, _, _, .nil, e => by simp at e
  | k :: _, _, 0, _, .cons h _, e => ⟨k, rfl, by cases e; exact h⟩
  | _ :: _, _, i + 1, _, .cons _ r, e => r.get (i := i) (by simpa using e)
theorem NkAll.get' {H : Hp} : ∀ {ks : List NestedKey} {xs : List V} {i : Nat} {k : NestedKey}, NkAll H xs ks → ks[i]? = some k → ∃ x, xs[i]? = some x ∧ Nk H x k
  | [], _, _, _, .nil, e => by simp at e
  | _ :: _, x :: _, 0, _, .cons h _, e => ⟨x, rfl, by cases e; exact h⟩
  | _ :: _, _, i + 1, _, .cons _ r, e => r.get' (i := i) (by simpa using e)
theorem NkAll.app {H : Hp} : ∀ {ks ls : List NestedKey} {xs ys : List V}, NkAll H xs ks → NkAll H ys ls → NkAll H (xs ++ ys) (ks ++ ls)
  | [], _, _, _, .nil, h => h
  | _ :: _, _, _, _, .cons a r, h => .cons a (r.app h)
section
variable {X : Cx} {pins : List (Addr × Obj)} {σ : L2.St} {H : Hp} {s : Shared}
mutual
theorem Nk.is (I : Inv X pins σ H s) : ∀ {k : NestedKey} {v : V} {u : Value}, Nk H v k → RelV v u → NestedIs s.heap k u
  | .none, _, _, .non, r => by cases r; exact .none
  | .num _, _, _, .int i, r => by obtain ⟨t, rfl⟩ := r; exact .int i t
  | .text _, _, _, .str z, r => by obtain ⟨t, rfl⟩ := r; exact .text z t
  | .tup _, _, _, .tup e h, r => by
    cases r
    obtain ⟨_, its, rv, ⟨o, ho, hc, n, hd⟩⟩ := I.hok _ _ e
    exact .tup ho hc hd (NkAll.is I h (by simpa using rv))
theorem NkAll.is (I : Inv X pins σ H s) : ∀ {ks : List NestedKey} {xs : List V} {us : List Value}, NkAll H xs ks → Vals xs us → NestedAll s.heap ks us
  | [], _, _, .nil, r => by cases r; exact .nil
  | _ :: _, _, _, .cons a h, r => by
    cases r with
    | cons r1 r2 => exact .cons (a.is I r1) (h.is I r2)
end
end
/-! ### in -/
open Classical in
noncomputable def eqK (h : Heap) (k : NestedKey) (y : Value) : Bool := decide (NestedIs h k y)
theorem eqK_is {h : Heap} {k k' : NestedKey} {y : Value} (hy : NestedIs h k' y) : eqK h k y = decide (k' = k) := by
  unfold eqK
  by_cases e : k' = k
  · subst e
    rw [@decide_eq_true _ (Classical.propDecidable _) hy, decide_eq_true rfl]
  · rw [decide_eq_false e]
    exact @decide_eq_false _ (Classical.propDecidable _) fun z => e (NestedIs.inj _ _ _ hy z)
theorem any_eqK {h : Heap} {k : NestedKey} : ∀ {ks : List NestedKey} {us : List Value}, NestedAll h ks us → us.any (eqK h k) = decide (k ∈ ks)
  | [], _, .nil => rfl
  | k' :: ks, _, .cons a r => by
    rw [List.any_cons, any_eqK r, eqK_is a, Bool.eq_iff_iff]
    simp only [Bool.or_eq_true, decide_eq_true_eq, List.mem_cons]
    exact or_congr ⟨Eq.symm, Eq.symm⟩ Iff.rfl
theorem all_is {h : Heap} : ∀ {ks : List NestedKey} {us : List Value} {y : Value}, NestedAll h ks us → y ∈ us → ∃ k, k ∈ ks ∧ NestedIs h k y
  | [], _, _, .nil, e => by cases e
  | k :: _, _, _, .cons a r, e => by
    rcases List.mem_cons.mp e with e | e
    · exact ⟨k, .head _, e ▸ a⟩
    · obtain ⟨k2, h2, h3⟩ := all_is r e
      exact ⟨k2, .tail _ h2, h3⟩
def rInN (K : PySem.W.Frag) (neg : Bool) : R2 := fun x y H Q => ∃ (p : Addr) (xs : List V) (k : NestedKey) (ks : List NestedKey), y = .ref p ∧ (SqL K H p xs ∨ SqT K H p xs) ∧ Nk H x k ∧ NkAll H xs ks ∧ k.depth ≤ 50 ∧
  Q (.bl (if neg then !decide (k ∈ ks) else decide (k ∈ ks))) H
section
variable {X : Cx}
theorem in_run {pins : List (Addr × Obj)} {σ : L2.St} {H : Hp} {s : Shared} {its : List Value} {xs : List V} {ks : List NestedKey} {k : NestedKey} {x : V} {v : Value} (I : Inv X pins σ H s) (hu : X.A.units + 64 < cLine) (r : Vals xs its) (hx : Nk H x k) (rx : RelV x v) (hk : NkAll H xs ks) (hd : k.depth ≤ 50) :
    its.toArray.any (eqK s.heap k) = decide (k ∈ ks) ∧ ∀ y, y ∈ its.toArray → EqAt X.A.in1 s y v (eqK s.heap k y) := by
  have ha := hk.is I r
  refine ⟨by rw [show its.toArray.any (eqK s.heap k) = its.any (eqK s.heap k) by simp, any_eqK ha], fun y hy => ?_⟩
  obtain ⟨k', _, h'⟩ := all_is ha (by simpa using hy)
  rw [eqK_is h', NestedKey.decide_eq]
  exact eqAt_key k' k X.A.in1 s y v h' (hx.is I rx) (by show X.A.units + 1 + _ < _; omega)
theorem op_notInN (hu : X.A.units + 64 < cLine) : OpR X (compareOp .NotIn) (rInN X.K true) := by
  intro pins s σ H x y v u Q I rx ry h
  obtain ⟨p, xs, k, ks, rfl, hq, hx, hk, hd, q⟩ := h
  cases ry
  rcases hq with hq | hq
  · obtain ⟨its, r, pl, hz⟩ := I.list hq
    obtain ⟨e1, e2⟩ := in_run I hu r hx rx hk hd
    refine notIn_listAt (eqK s.heap k) pl.isList e2 ⟨.bl _, H, I, rfl, ?_⟩
    rw [e1]
    exact q
  · obtain ⟨its, r, pl, hz⟩ := I.tuple hq
    obtain ⟨e1, e2⟩ := in_run I hu r hx rx hk hd
    refine notIn_tupleAt (eqK s.heap k) pl e2 ⟨.bl _, H, I, rfl, ?_⟩
    rw [e1]
    exact q
theorem op_inN (hu : X.A.units + 64 < cLine) : OpR X (compareOp .In) (rInN X.K false) := by
  intro pins s σ H x y v u Q I rx ry h
  obtain ⟨p, xs, k, ks, rfl, hq, hx, hk, hd, q⟩ := h
  cases ry
  rcases hq with hq | hq
  · obtain ⟨its, r, pl, hz⟩ := I.list hq
    obtain ⟨e1, e2⟩ := in_run I hu r hx rx hk hd
    refine in_listAt (eqK s.heap k) pl.isList e2 ⟨.bl _, H, I, rfl, ?_⟩
    rw [e1]
    exact q
  · obtain ⟨its, r, pl, hz⟩ := I.tuple hq
    obtain ⟨e1, e2⟩ := in_run I hu r hx rx hk hd
    refine in_tupleAt (eqK s.heap k) pl e2 ⟨.bl _, H, I, rfl, ?_⟩
    rw [e1]
    exact q
end
end My

set_option Elab.async false
set_option linter.all false
set_option maxRecDepth 100000
set_option maxHeartbeats 2000000
/-! x < y of numbers, texts and tuples of these: the first place that differs decides, what stands behind it may be of any kinds. -/
namespace My
open PySem PySem.Spec PyProof.Rows L2 PySem.SeqAt
mutual
/-- what Python's x < y tells, where it tells anything -/
def ltK : NestedKey → NestedKey → Option Bool
  | .num a, .num b => some (decide (a < b))
  | .text x, .text y => some (decide (x.cps.toList < y.cps.toList))
  | .tup xs, .tup ys => ltAll xs ys
  | _, _ => none
def ltAll : List NestedKey → List NestedKey → Option Bool
  | [], [] => some false
  | [], _ :: _ => some true
  | _ :: _, [] => some false
  | x :: xs, y :: ys => if x = y then ltAll xs ys else ltK x y
end
mutual
/-- a value that is such a thing (a truth is none) -/
inductive Ns (h : Heap) : NestedKey → Value → Prop
  | none : Ns h .none .none
  | int (i : Int) (t : Tok) : Ns h (.num i) (.int i t)
  | text (x : Str) (t : Tok) : Ns h (.text x) (.str x t)
  | tup {a : Addr} {o : Obj} {vs : Array Value} {n : Nat} {ks : List NestedKey} : h.get? a = some o → o.cls = .type "tuple" → o.data = .seq vs n → NsAll h ks vs.toList → Ns h (.tup ks) (.ref a)
inductive NsAll (h : Heap) : List NestedKey → List Value → Prop
  | nil : NsAll h [] []
  | cons {k : NestedKey} {v : Value} {ks : List NestedKey} {vs : List Value} : Ns h k v → NsAll h ks vs → NsAll h (k :: ks) (v :: vs)
end
mutual
theorem Ns.is {h : Heap} : ∀ {k : NestedKey} {v : Value}, Ns h k v → NestedIs h k v
  | .none, _, .none => .none
  | .num _, _, .int i t => .int i t
  | .text _, _, .text x t => .text x t
  | .tup _, _, .tup e c d r => .tup e c d (NsAll.is r)
theorem NsAll.is {h : Heap} : ∀ {ks : List NestedKey} {vs : List Value}, NsAll h ks vs → NestedAll h ks vs
  | [], _, .nil => .nil
  | _ :: _, _, .cons a r => .cons a.is r.is
end
section
variable {X : Cx} {pins : List (Addr × Obj)} {σ : L2.St} {H : Hp} {s : Shared}
mutual
theorem Nk.ns (I : Inv X pins σ H s) : ∀ {k : NestedKey} {v : V} {u : Value}, Nk H v k → RelV v u → Ns s.heap k u
  | .none, _, _, .non, r => by cases r; exact .none
  | .num _, _, _, .int i, r => by obtain ⟨t, rfl⟩ := r; exact .int i t
  | .text _, _, _, .str z, r => by obtain ⟨t, rfl⟩ := r; exact .text z t
  | .tup _, _, _, .tup e h, r => by
    cases r
    obtain ⟨_, its, rv, ⟨o, ho, hc, n, hd⟩⟩ := I.hok _ _ e
    exact .tup ho hc hd (NkAll.ns I h (by simpa using rv))
theorem NkAll.ns (I : Inv X pins σ H s) : ∀ {ks : List NestedKey} {xs : List V} {us : List Value}, NkAll H xs ks → Vals xs us → NsAll s.heap ks us
  | [], _, _, .nil, r => by cases r; exact .nil
  | _ :: _, _, _, .cons a h, r => by
    cases r with
    | cons r1 r2 => exact .cons (a.ns I r1) (h.ns I r2)
end
end
theorem depth_mem : ∀ {xs : List NestedKey} {x : NestedKey}, x ∈ xs → x.depth ≤ NestedKey.depthAll xs
  | _ :: _, _, .head _ => by rw [NestedKey.depthAll]; omega
  | _ :: _, _, .tail _ h => by have := depth_mem h; rw [NestedKey.depthAll]; omega
section
open AutoSeq1 (wpAny_loadPart')
open MeetsSeq MeetsSeq2 MeetsSeq3 SeqRoads2
theorem tuple_ltK (l b : Addr) (items items2 : Array Value) (n n2 : Nat) (dd dd2 : Option Addr) (sl sl2 : Array (Option Value)) (xs ys : List NestedKey) (k : Bool) :
    Meets (Builtin.«tuple.__lt__» ⟨[.ref l, .ref b], []⟩) (fun A R s => s.heap.get? l = some ⟨.type "tuple", dd, .seq items n, sl⟩ ∧ s.heap.get? b = some ⟨.type "tuple", dd2, .seq items2 n2, sl2⟩ ∧
      NsAll s.heap xs items.toList ∧ NsAll s.heap ys items2.toList ∧ ltAll xs ys = some k ∧
      (∀ x ∈ xs, ∀ y u v, Ns s.heap x u → Ns s.heap y v → EqAt A.in1 s u v (decide (x = y))) ∧
      (∀ x ∈ xs, ∀ y u v c, Ns s.heap x u → Ns s.heap y v → ltK x y = some c → RcLt A.in1 s u v c) ∧ R (.ok (.ret (.bool k))) s) := by
  refine .of_wp fun prog w A R s h => ?_
  obtain ⟨hp, g, d, tk, os⟩ := s
  obtain ⟨hl, hb, h1, h2, hk, heq, hlt, h⟩ := h
  have f2 := AutoSeq1.sub_tuple_tuple
  wp_walk using wpAny_loadPart' hl, wpAny_loadPart' hb, wpAny_forIn_list _ (fun rest c s' => c.1 = none ∧ s' = ⟨hp, g, d, tk, os⟩ ∧ ∃ xs' ys' us vs, rest = List.zip us vs ∧ NsAll hp xs' us ∧ NsAll hp ys' vs ∧ (∀ x ∈ xs', x ∈ xs) ∧
    ltAll xs' ys' = some k ∧ us.length + items2.size = vs.length + items.size) _
  case turn =>
    rintro ⟨u, v⟩ rest c s' ⟨hc, rfl, xs', ys', us, vs, hz, a1, a2, sub, hk', hn⟩
    cases a1 with
    | nil => simp at hz
    | @cons x _ xs2 us2 p1 q1 =>
      cases a2 with
      | nil => simp at hz
      | @cons y _ ys2 vs2 p2 q2 =>
        rw [List.zip_cons_cons] at hz
        cases hz
        refine wpAny_bind (heq x (sub x (.head _)) y _ _ p1 p2 prog w _ _ ?_)
        by_cases e : x = y
        · rw [ltAll, if_pos e] at hk'
          rw [decide_eq_true e]
          wp_walk
          exact ⟨rfl, rfl, xs2, ys2, us2, vs2, rfl, q1, q2, fun z hz => sub z (.tail _ hz), hk', by simp only [List.length_cons] at hn; omega⟩
        · rw [ltAll, if_neg e] at hk'
          rw [decide_eq_false e, if_pos (by decide)]
          dsimp only
          refine wpAny_bind (wpAny_rule ?_)
          refine wpAny_bind (hlt x (sub x (.head _)) y _ _ k p1 p2 hk' prog w _ _ ?_)
          wp_walk
          exact ⟨_, rfl, h⟩
  case fin =>
    rintro ⟨c1, c2⟩ s' ⟨hc, rfl, xs', ys', us, vs, hz, a1, a2, sub, hk', hn⟩
    simp only at hc
    subst hc
    have fin : decide (items.size < items2.size) = k := by
      cases a1 with
      | nil =>
        cases a2 with
        | nil =>
          rw [ltAll] at hk'
          cases hk'
          simp only [List.length_nil] at hn
          exact decide_eq_false (by omega)
        | cons _ _ =>
          rw [ltAll] at hk'
          cases hk'
          simp only [List.length_nil, List.length_cons] at hn
          exact decide_eq_true (by omega)
      | cons _ _ =>
        cases a2 with
        | nil =>
          rw [ltAll] at hk'
          cases hk'
          simp only [List.length_nil, List.length_cons] at hn
          exact decide_eq_false (by omega)
        | cons _ _ => simp at hz
    wp_walk
    refine ⟨_, rfl, ?_⟩
    rw [← fin] at h
    simpa [Builtin.Tuple.tupleCompareSizes] using h
  case h => exact ⟨rfl, rfl, xs, ys, _, _, rfl, h1, h2, fun _ h => h, hk, by simp; omega⟩
theorem rcLt_num {A : Around} {s : Shared} {i j : Int} {t u : Tok} {k : Bool} (e : ltK (.num i) (.num j) = some k) : RcLt A s (.int i t) (.int j u) k := by
  rw [ltK] at e
  cases e
  exact fun prog w E Q h => PyProof.Rows.lt_int h
theorem rcLt_text {A : Around} {s : Shared} {x y : Str} {t u : Tok} {k : Bool} (e : ltK (.text x) (.text y) = some k) : RcLt A s (.str x t) (.str y u) k := by
  rw [ltK] at e
  cases e
  exact fun prog w E Q h => PySem.P.lt_str h
theorem rcLt_tup {A : Around} {s : Shared} {l b : Addr} {o o2 : Obj} {items items2 : Array Value} {n n2 : Nat} {xs ys : List NestedKey} {k : Bool} (ho : s.heap.get? l = some o) (hc : o.cls = .type "tuple") (hd : o.data = .seq items n) (r : NsAll s.heap xs items.toList)
    (ho2 : s.heap.get? b = some o2) (hc2 : o2.cls = .type "tuple") (hd2 : o2.data = .seq items2 n2) (r2 : NsAll s.heap ys items2.toList) (e : ltAll xs ys = some k) (hu : A.units + (NestedKey.depthAll xs + 1) < cLine)
    (ih : ∀ x ∈ xs, ∀ y u v c, Ns s.heap x u → Ns s.heap y v → ltK x y = some c → RcLt A.in1 s u v c) : RcLt A s (.ref l) (.ref b) k := fun prog w E Q h => by
  obtain ⟨cls, dd, data, sl⟩ := o
  obtain ⟨cls2, dd2, data2, sl2⟩ := o2
  simp only at hc hd hc2 hd2
  subst hc hd hc2 hd2
  refine richCompare_meets_room (op := .Lt) ⟨_, ho, rfl⟩ ⟨_, ho2, rfl⟩ F.slot_tuple_lt F.entry_tuple_lt (F.args_tuple_lt_2 _ _) (tuple_ltK l b items items2 n n2 dd dd2 sl sl2 xs ys k)
    ⟨ho, ho2, r, r2, e, fun x hx y u v p q => ?_, ih, (fun x => nomatch x), h⟩ (by omega)
  rw [NestedKey.decide_eq]
  have := depth_mem hx
  exact eqAt_key x y A.in1 s u v p.is q.is (by show A.units + 1 + min x.depth y.depth < cLine; omega)
end
end My

set_option Elab.async false
set_option linter.all false
set_option maxRecDepth 100000
set_option maxHeartbeats 2000000
namespace My
open PySem PySem.Spec PyProof.Rows L2 PySem.SeqAt
theorem depth_tup (xs : List NestedKey) : (NestedKey.tup xs).depth = NestedKey.depthAll xs + 1 := by rw [NestedKey.depth]
theorem rcLtN : ∀ (n : Nat) {x y : NestedKey} {A : Around} {s : Shared} {a b : Value} {k : Bool}, x.depth ≤ n → Ns s.heap x a → Ns s.heap y b → ltK x y = some k → A.units + n < cLine → RcLt A s a b k := by
  intro n
  induction n with
  | zero =>
    intro x y A s a b k hd p q e hu
    cases p with
    | none => cases q <;> simp [ltK] at e
    | int i t => cases q with
      | int j u => exact rcLt_num e
      | _ => simp [ltK] at e
    | text i t => cases q with
      | text j u => exact rcLt_text e
      | _ => simp [ltK] at e
    | tup _ _ _ _ => rw [depth_tup] at hd; omega
  | succ n ih =>
    intro x y A s a b k hd p q e hu
    cases p with
    | none => cases q <;> simp [ltK] at e
    | int i t => cases q with
      | int j u => exact rcLt_num e
      | _ => simp [ltK] at e
    | text i t => cases q with
      | text j u => exact rcLt_text e
      | _ => simp [ltK] at e
    | tup ho hc hdd r => cases q with
      | tup ho2 hc2 hd2 r2 =>
        rw [ltK] at e
        rw [depth_tup] at hd
        refine rcLt_tup ho hc hdd r ho2 hc2 hd2 r2 e (by omega) fun x hx y u v c p q ec => ?_
        have := depth_mem hx
        exact ih (by omega) p q ec (by show A.units + 1 + n < cLine; omega)
      | _ => simp [ltK] at e
def rLtN : R2 := fun x y H Q => ∃ (a b : NestedKey) (k : Bool), Nk H x a ∧ Nk H y b ∧ a.depth ≤ 50 ∧ ltK a b = some k ∧ Q (.bl k) H
theorem op_ltN {X : Cx} (hu : X.A.units + 64 < cLine) : OpR X (compareOp .Lt) rLtN := by
  intro pins s σ H x y v u Q I rx ry h
  obtain ⟨a, b, k, ha, hb, hd, e, q⟩ := h
  exact rcLtN 50 hd (ha.ns I rx) (hb.ns I ry) e (by omega) X.prog X.w _ _ ⟨.bl _, H, I, rfl, q⟩
end My

set_option Elab.async false
set_option linter.all false
set_option maxRecDepth 100000
set_option maxHeartbeats 2000000
/-! Sorting by keys that are tuples with a number first, the first place that differs decides. -/
namespace My
open PySem PySem.Spec PyProof.Rows L2 PySem.SeqAt PySem.W
abbrev toks (k : NestedKey) : List (Int ⊕ List Nat) := keyToks k.data
abbrev toksAll (ks : List NestedKey) : List (Int ⊕ List Nat) := keyToksAll (NestedKey.datas ks)
abbrev lexT (a b : List (Int ⊕ List Nat)) : Bool := PyProof.Rows.lexLt itemOrd a b
theorem toks_num (i : Int) : toks (.num i) = [.inl i] := by unfold toks; rw [NestedKey.data, keyToks]
theorem toks_text (x : Str) : toks (.text x) = [.inr x.cps.toList] := by unfold toks; rw [NestedKey.data, keyToks]
theorem toks_tup (ks : List NestedKey) : toks (.tup ks) = toksAll ks := by unfold toks toksAll; rw [NestedKey.data, keyToks]
theorem toksAll_nil : toksAll [] = [.inl 0] := by unfold toksAll; rw [NestedKey.datas, keyToksAll]
theorem toksAll_cons (k : NestedKey) (ks : List NestedKey) : toksAll (k :: ks) = .inl 1 :: (toks k ++ toksAll ks) := by unfold toks toksAll; rw [NestedKey.datas, keyToksAll]
theorem lexT_int {i j : Int} (ne : i ≠ j) (l m : List (Int ⊕ List Nat)) : lexT (.inl i :: l) (.inl j :: m) = decide (i < j) := by
  unfold lexT
  rw [lex_diff (O := itemOrd) (by intro z; cases z; exact ne rfl)]
  rfl
theorem lexT_str {x y : Str} (ne : x ≠ y) (l m : List (Int ⊕ List Nat)) : lexT (.inr x.cps.toList :: l) (.inr y.cps.toList :: m) = decide (x.cps.toList < y.cps.toList) := by
  have h1 := lex_atom (p := .inr x.cps.toList) (q := .inr y.cps.toList) (fun z => ne (str_of_cps (Sum.inr.inj z))) l m
  have h2 := dataLt_str x y
  unfold dataLt at h2
  simp only [keyToks] at h2
  exact h1.trans h2
mutual
theorem lex_key : ∀ (x y : NestedKey) (c : Bool) (l m : List (Int ⊕ List Nat)), x ≠ y → ltK x y = some c → lexT (toks x ++ l) (toks y ++ m) = c
  | .num i, .num j, c, l, m, ne, e => by
    rw [ltK] at e
    cases e
    rw [toks_num, toks_num]
    exact lexT_int (fun z => ne (by rw [z])) _ _
  | .text x, .text y, c, l, m, ne, e => by
    rw [ltK] at e
    cases e
    rw [toks_text, toks_text]
    exact lexT_str (fun z => ne (by rw [z])) _ _
  | .tup xs, .tup ys, c, l, m, ne, e => by
    rw [ltK] at e
    rw [toks_tup, toks_tup]
    exact lex_keys xs ys c l m (fun z => ne (by rw [z])) e
  | .none, y, c, l, m, ne, e => by cases y <;> simp [ltK] at e
  | .num i, .none, c, l, m, ne, e => by simp [ltK] at e
  | .num i, .text _, c, l, m, ne, e => by simp [ltK] at e
  | .num i, .tup _, c, l, m, ne, e => by simp [ltK] at e
  | .text i, .none, c, l, m, ne, e => by simp [ltK] at e
  | .text i, .num _, c, l, m, ne, e => by simp [ltK] at e
  | .text i, .tup _, c, l, m, ne, e => by simp [ltK] at e
  | .tup i, .none, c, l, m, ne, e => by simp [ltK] at e
  | .tup i, .num _, c, l, m, ne, e => by simp [ltK] at e
  | .tup i, .text _, c, l, m, ne, e => by simp [ltK] at e
theorem lex_keys : ∀ (xs ys : List NestedKey) (c : Bool) (l m : List (Int ⊕ List Nat)), xs ≠ ys → ltAll xs ys = some c → lexT (toksAll xs ++ l) (toksAll ys ++ m) = c
  | [], [], c, l, m, ne, e => absurd rfl ne
  | [], y :: ys, c, l, m, ne, e => by
    rw [ltAll] at e
    cases e
    rw [toksAll_nil, toksAll_cons]
    exact lexT_int (by decide) _ _
  | x :: xs, [], c, l, m, ne, e => by
    rw [ltAll] at e
    cases e
    rw [toksAll_nil, toksAll_cons]
    exact lexT_int (by decide) _ _
  | x :: xs, y :: ys, c, l, m, ne, e => by
    rw [ltAll] at e
    rw [toksAll_cons, toksAll_cons]
    show lexT (.inl 1 :: (toks x ++ toksAll xs ++ l)) (.inl 1 :: (toks y ++ toksAll ys ++ m)) = c
    unfold lexT
    rw [lex_self (O := itemOrd), List.append_assoc, List.append_assoc]
    by_cases h : x = y
    · rw [if_pos h] at e
      subst h
      rw [lex_pre]
      exact lex_keys xs ys c l m (fun z => ne (by rw [z])) e
    · rw [if_neg h] at e
      exact lex_key x y c _ _ h e
end
theorem ltAll_self : ∀ xs : List NestedKey, ltAll xs xs = some false
  | [] => by rw [ltAll]
  | x :: xs => by rw [ltAll, if_pos rfl, ltAll_self xs]
theorem lex_tup {xs ys : List NestedKey} {c : Bool} (e : ltAll xs ys = some c) : lexT (toks (.tup xs)) (toks (.tup ys)) = c := by
  rw [toks_tup, toks_tup]
  by_cases h : xs = ys
  · subst h
    rw [ltAll_self] at e
    cases e
    exact lex_irrefl _
  · have := lex_keys xs ys c [] [] h e
    rwa [List.append_nil, List.append_nil] at this
open Classical in
/-- the kind of keys that such things make in a heap -/
noncomputable def nkKind (h : Heap) (ks : List NestedKey) : PyProof.Rows.KeyKind where
  toKeyOrd := listOrd itemOrd
  keyOf v := if q : ∃ k, k ∈ ks ∧ Ns h k v then some (toks q.choose) else none
  dflt := ([] : List (Int ⊕ List Nat))
theorem nk_some {h : Heap} {ks : List NestedKey} {k : NestedKey} {v : Value} (hk : k ∈ ks) (hv : Ns h k v) : (nkKind h ks).keyOf v = some (toks k) := by
  have q : ∃ k, k ∈ ks ∧ Ns h k v := ⟨k, hk, hv⟩
  have e : (nkKind h ks).keyOf v = some (toks q.choose) := dif_pos q
  rw [e, NestedIs.inj _ _ _ q.choose_spec.2.is hv.is]
theorem nk_inv {h : Heap} {ks : List NestedKey} {v : Value} {t : List (Int ⊕ List Nat)} (e : (nkKind h ks).keyOf v = some t) : ∃ k, k ∈ ks ∧ Ns h k v ∧ t = toks k := by
  by_cases q : ∃ k, k ∈ ks ∧ Ns h k v
  · have e2 : (nkKind h ks).keyOf v = some (toks q.choose) := dif_pos q
    rw [e2] at e
    exact ⟨_, q.choose_spec.1, q.choose_spec.2, (Option.some.inj e).symm⟩
  · have e2 : (nkKind h ks).keyOf v = none := dif_neg q
    rw [e2] at e
    cases e
end My

set_option Elab.async false
set_option linter.all false
set_option maxRecDepth 100000
set_option maxHeartbeats 2000000
namespace My
open PySem PySem.Spec PyProof.Rows L2 PySem.SeqAt PySem.W
section
variable {prog : Program} {w : World} {A : Around} {E : Value → Shared → Prop} {s : Shared}
theorem one_ltN {f : Bool} {x y : NestedKey} {a b : Value} {c : Bool} {n : Nat} {Q : Bool → Shared → Prop} (hf : f = true → ∃ i, x = .num i) (p : Ns s.heap x a) (q : Ns s.heap y b) (e : ltK x y = some c) (hd : x.depth ≤ n) (hu : A.units + n < cLine) (hq : Q c s) :
    wpAny (model prog w) A (oneLt' f a b) Q E s := by
  cases f with
  | false =>
    rw [oneLt'_eq]
    simp only [Bool.false_eq_true, if_false]
    exact wpAny_bind (rcLtN n hd p q e hu prog w E _ (wpAny_truthy_bool hq))
  | true =>
    obtain ⟨i, rfl⟩ := hf rfl
    cases p
    cases q with
    | int j u =>
      rw [ltK] at e
      cases e
      exact oneLt_int hq
    | _ => simp [ltK] at e
theorem katLexN {b fin : Bool} {n : Nat} {Q : Bool → Shared → Prop} : ∀ (xs ys : List NestedKey) (i : Nat) (us vs : List Value) (c : Bool), NsAll s.heap xs us → NsAll s.heap ys vs → ltAll xs ys = some c → (∀ x ∈ xs, x.depth ≤ n) → A.units + n < cLine →
    (b = true → i = 0 → ∀ x r, xs = x :: r → ∃ j, x = .num j) → fin = decide (us.length < vs.length) → Q c s → KatLex prog w A b fin Q (us.zip vs) i s
  | [], [], i, _, _, c, .nil, .nil, e, _, _, _, hf, hq => by
    rw [ltAll] at e
    cases e
    subst hf
    exact kat_nil hq
  | [], y :: ys, i, _, _, c, .nil, .cons q qs, e, _, _, _, hf, hq => by
    rw [ltAll] at e
    cases e
    subst hf
    exact kat_nil (by simpa using hq)
  | x :: xs, [], i, _, _, c, .cons p ps, .nil, e, _, _, _, hf, hq => by
    rw [ltAll] at e
    cases e
    subst hf
    exact kat_nil (by simpa using hq)
  | x :: xs, y :: ys, i, _, _, c, .cons p ps, .cons q qs, e, hd, hu, hb, hf, hq => by
    rw [List.zip_cons_cons]
    have dx := hd x (.head _)
    refine kat_cons (eqAt_key x y A s _ _ p.is q.is (by omega) prog w _ _ ?_)
    rw [← NestedKey.decide_eq]
    rw [ltAll] at e
    by_cases h : x = y
    · rw [if_pos h] at e
      rw [decide_eq_true h]
      exact kat_yes (katLexN xs ys (i + 1) _ _ c ps qs e (fun z hz => hd z (.tail _ hz)) hu (fun _ hi => absurd hi (Nat.succ_ne_zero i)) (by rw [hf]; simp) hq)
    · rw [if_neg h] at e
      rw [decide_eq_false h]
      refine kat_no (one_ltN (n := n) (fun hb2 => ?_) p q e dx hu hq)
      rw [Bool.and_eq_true, beq_iff_eq] at hb2
      exact hb hb2.1 hb2.2 x xs rfl
theorem each_tups {h : Heap} : ∀ {vs : List Value} {ks : List NestedKey}, EachIs (fun v k => Ns h k v) vs ks → (∀ k ∈ ks, ∃ i r, k = .tup (.num i :: r)) → ∃ fs, KatTups h vs fs ∧ fs.length = vs.length ∧ ∀ f ∈ fs, ∃ i t, f = Value.int i t
  | _, _, .nil, _ => ⟨[], KatTups.nil, rfl, fun f hf => by cases hf⟩
  | _, _, .cons (b := k) p t, hk => by
    obtain ⟨fs, h1, h2, h3⟩ := each_tups t fun k hk2 => hk k (.tail _ hk2)
    obtain ⟨i, r, rfl⟩ := hk k (.head _)
    cases p with
    | @tup a o vs n _ ho hc hd hr =>
      cases q : vs.toList with
      | nil => rw [q] at hr; cases hr
      | cons f fr =>
        rw [q] at hr
        cases hr with
        | cons p1 p2 =>
          obtain ⟨u, rfl⟩ : ∃ u, f = Value.int i u := by cases p1; exact ⟨_, rfl⟩
          refine ⟨_ :: fs, KatTups.cons ho hc hd (by rw [← Array.getElem?_toList, q]; rfl) h1, by rw [List.length_cons, List.length_cons, h2], fun g hg => ?_⟩
          rcases List.mem_cons.mp hg with rfl | hg
          · exact ⟨_, _, rfl⟩
          · exact h3 g hg
theorem sortsN {vs : List Value} {ks : List NestedKey} {n : Nat} (e : EachIs (fun v k => Ns s.heap k v) vs ks) (hh : ∀ k ∈ ks, ∃ i r, k = .tup (.num i :: r)) (hc : ∀ k ∈ ks, ∀ k' ∈ ks, ∃ c, ltK k k' = some c) (hd : ∀ k ∈ ks, k.depth ≤ n) (hu : A.units + n < cLine) :
    SortsAt prog w A s (nkKind s.heap ks) vs := by
  refine ⟨fun v hv => ?_, tuples' ((Value.type "int") != Value.type "tuple"), ?_, fun h2 E Q hq => ?_⟩
  · obtain ⟨k, hk, p⟩ := e.left v hv
    exact ⟨_, nk_some hk p⟩
  · intro E x y a b Q ha hb hq
    obtain ⟨k, hk, p, rfl⟩ := nk_inv ha
    obtain ⟨k', hk', p', rfl⟩ := nk_inv hb
    obtain ⟨c, ec⟩ := hc k hk k' hk'
    have dk := hd k hk
    obtain ⟨i, r, rfl⟩ := hh k hk
    obtain ⟨i', r', rfl⟩ := hh k' hk'
    rw [depth_tup] at dk
    rw [ltK] at ec
    have hq : Q (lexT (toks (.tup (.num i :: r))) (toks (.tup (.num i' :: r')))) s := hq
    rw [lex_tup ec] at hq
    cases p with
    | tup h1 h2 h3 h4 =>
      cases p' with
      | tup k1 k2 k3 k4 =>
        refine kat_lt h1 h3 k1 k3 (katLexN (n := n) _ _ 0 _ _ c h4 k4 ec (fun x hx => ?_) hu (fun _ _ x r ex => ?_) (by simp) hq)
        · have := depth_mem hx
          omega
        · obtain ⟨rfl, rfl⟩ := List.cons.inj ex
          exact ⟨_, rfl⟩
  · obtain ⟨fs, t1, t2, t3⟩ := each_tups e hh
    refine kat_kind (T := Value.type "int") t1 (by omega) (fun f hf => ?_) (beq_self_eq_true _) hq
    obtain ⟨i, t, rfl⟩ := t3 f hf
    exact looks_reads (Reads.int i t)
end
end My

set_option Elab.async false
set_option linter.all false
set_option maxRecDepth 100000
set_option maxHeartbeats 2000000
/-! sorted(.., key=f), f a def of the text that tells a tuple of each item. -/
namespace My
open PySem PySem.Spec PyProof.Rows L2 PySem.SeqAt PySem.W
/-- a key's promise: F of the item's data, all else stays -/
def spKey (F : NestedKey → NestedKey) (C : NestedKey → Prop) : Sp := fun vs H Q _ => ∃ x k, vs = [x] ∧ Nk H x k ∧ C k ∧ ∀ v H', Same H H' → Nk H' v (F k) → Q v H'
/-- items with their data, by their keys -/
def leF (F : NestedKey → NestedKey) : V × NestedKey → V × NestedKey → Bool := sortLe (listOrd itemOrd) false fun b => toks (F b.2)
theorem zip_each : ∀ {xs : List V} {ks : List NestedKey} {vs : List Value}, Vals xs vs → xs.length = ks.length → EachIs (fun (v : Value) (b : V × NestedKey) => RelV b.1 v) vs (xs.zip ks)
  | [], [], _, .nil, _ => .nil
  | _ :: _, k :: ks, _, .cons r t, h => .cons r (zip_each t (by simpa using h))
theorem each_vals : ∀ {vs : List Value} {bs : List (V × NestedKey)}, EachIs (fun (v : Value) (b : V × NestedKey) => RelV b.1 v) vs bs → Vals (bs.map Prod.fst) vs
  | _, _, .nil => .nil
  | _, _, .cons r t => .cons r (each_vals t)
theorem each_snd {R : Value → NestedKey → Prop} : ∀ {vs : List Value} {xs : List V} {ks : List NestedKey}, EachIs R vs ks → xs.length = ks.length → EachIs (fun v (b : V × NestedKey) => R v b.2) vs (xs.zip ks)
  | _, [], [], .nil, _ => .nil
  | _, x :: xs, _ :: _, .cons r t, h => .cons r (each_snd t (by simpa using h))
section
variable {X : Cx} {pins : List (Addr × Obj)} {σ : L2.St} {H : Hp} {s : Shared} {f a : Addr} {fd : FuncData} {ps : List Str} {j n : Nat} {F : NestedKey → NestedKey} {C : NestedKey → Prop}
theorem Room.in2 {A : Around} (r : Room (j + 1) A) : Room j A.in1.in1 := ⟨r.hd, by have := r.dp; show A.depth + 3 * j + 5 < _; omega, by have := r.un; show A.units + 1 + 1 + 16 * j + 200 < _; omega⟩
/-- one call of the key, some objects of the sort's own pinned -/
theorem key_call (G : FnOk X.prog X.w X.K X.mg X.base CX0 j f fd ps (spKey F C)) (hr : Room (j + 1) X.A) (hb : Binds X.K fd ps []) (I : Inv X pins σ H s) {x : V} {v : Value} {k : NestedKey} (rv : RelV x v) (hx : Nk H x k) (hC : C k) {Q : Value → Shared → Prop} {E : Value → Shared → Prop}
    (h : ∀ u s' y H', Inv X pins σ H' s' → RelV y u → Same H H' → Nk H' y (F k) → Q u s') : wpAny (model X.prog X.w) X.A.in1.in1 (call (.ref f) [v]) Q E s := by
  have sp : spKey F C [x] H (fun y H' => Same H H' ∧ Nk H' y (F k)) E0 := ⟨x, k, rfl, hx, hC, fun y H' s1 n1 => ⟨s1, n1⟩⟩
  have hl : ([v] ++ ([] : List Value)).length = ps.length := by
    have := G.len _ _ _ _ sp
    simpa using this
  refine wpAny_call (codeAny_mono (G.run X.A.in1.in1 X.stack s H ⟨[v], []⟩ [v] [x] _ E0 (Room.in2 hr) I.env0.in1.in1 (hb s [v] I.kIn hl) (.cons rv .nil) sp) fun r s' hq => ?_)
  match r, hq with
  | .error e, hq => exact hq.elim
  | .ok (.ret u), hq =>
    obtain ⟨y, H', I', ry, s1, n1⟩ := I.after hq
    exact h u s' y H' I' ry s1 n1
end
end My

set_option Elab.async false
set_option linter.all false
set_option maxRecDepth 100000
set_option maxHeartbeats 2000000
namespace My
open PySem PySem.Spec PyProof.Rows L2 PySem.SeqAt PySem.W
theorem each_snocN {R : Value → NestedKey → Prop} {v : Value} {k : NestedKey} (h : R v k) : ∀ {vs : List Value} {ks : List NestedKey}, EachIs R vs ks → EachIs R (vs ++ [v]) (ks ++ [k])
  | _, _, .nil => .cons h .nil
  | _, _, .cons a t => .cons a (each_snocN h t)
section
variable {X : Cx} {pins : List (Addr × Obj)} {σ : L2.St} {H : Hp} {s : Shared} {f a : Addr} {fd : FuncData} {ps : List Str} {j n : Nat} {F : NestedKey → NestedKey} {C : NestedKey → Prop}
/-- a key's value, as it is known to the sort -/
def IsKey (H : Hp) (v : Value) (k : NestedKey) : Prop := ∃ x, Nk H x k ∧ RelV x v
theorem IsKey.at {H H' : Hp} {v : Value} {k : NestedKey} (h : IsKey H v k) (t : Tups H H') : IsKey H' v k := let ⟨x, a, b⟩ := h; ⟨x, a.at t, b⟩
theorem sort_keyG {xs : List V} {vs : List Value} {ks : List NestedKey} {P : PySem.Fin → Shared → Prop} {E : Value → Shared → Prop} (G : FnOk X.prog X.w X.K X.mg X.base CX0 j f fd ps (spKey F C)) (hr : Room (j + 1) X.A) (hb : Binds X.K fd ps [])
    (I : Inv X pins σ H s) (fa : FpOk X pins H a) (ho : s.heap.get? a = some (seqObj "list" vs.toArray n)) (rv : Vals xs vs) (hk : NkAll H xs ks) (hC : ∀ k ∈ ks, C k) (hS : ∀ (s' : Shared) (vs' : List Value), EachIs (fun v k => Ns s'.heap k v) vs' (ks.map F) → SortsAt X.prog X.w X.A.in1.in1 s' (nkKind s'.heap (ks.map F)) vs')
    (hz : vs.length ≤ sizeLine)
    (h : ∀ H' s', Same H H' → H' a = none → Inv X pins σ (upd H' a (.lst (((xs.zip ks).mergeSort (leF F)).map Prod.fst))) s' → P (.done (.ret .none)) s') :
    wpAny (model X.prog X.w) X.A.in1.in1 (ksk_tree a (.ref f) false) P E s := by
  have lk : xs.length = ks.length := hk.length
  have lv : xs.length = vs.length := rv.length
  unfold ksk_tree
  refine wpAny_bind (listItems_at ho rfl ?_)
  refine wpAny_bind (listUpdate_at ho rfl ?_ (by rw [List.size_toArray]; exact hz) (Nat.zero_le _))
  obtain ⟨e1, ho1⟩ : ∃ e1, (s.heap.update a (Obj.mapSeq fun _ => (#[] : Array Value))).get? a = some (seqObj "list" #[] e1) := ⟨_, get?_update_seq ho fun _ => #[]⟩
  have s1 := Heap.SameBut.update s.heap a (Obj.mapSeq fun _ => (#[] : Array Value))
  have I1 : Inv X pins σ H { s with heap := s.heap.update a (Obj.mapSeq fun _ => (#[] : Array Value)) } := I.turnedL (ch := [a]) (t' := s.toks) (fun b o hb e => (s1.2 b (fun z => hb (by simp [z]))).trans e) (fun b hb => by rw [List.mem_singleton.mp hb]; exact fa)
  generalize s.heap.update a (Obj.mapSeq fun _ => (#[] : Array Value)) = h1 at ho1 I1 ⊢
  refine wpAny_bind (seqEpoch_at ho1 rfl ?_)
  refine wpAny_bind (wpAny_newTuple ?_ (by show vs.length ≤ _; exact hz))
  refine wpAny_bind (wpAny_newList ?_ (Nat.zero_le _))
  refine wpAny_holding ?_
  show wpAny _ _ (ksk_rest a (.ref f) false vs.toArray e1 (.ref _)) _ _ { s with heap := (h1.push (seqObj "tuple" vs.toArray 0)).push (seqObj "list" #[] 0) }
  have I2 : Inv X pins σ H { s with heap := h1.push (seqObj "tuple" vs.toArray 0) } := I1.kept (t' := s.toks) fun b u e => Heap.get?_push_of_some _ e
  have I3 : Inv X pins σ H { s with heap := (h1.push (seqObj "tuple" vs.toArray 0)).push (seqObj "list" #[] 0) } := I2.kept (t' := s.toks) fun b u e => Heap.get?_push_of_some _ e
  have ho3 : ((h1.push (seqObj "tuple" vs.toArray 0)).push (seqObj "list" #[] 0)).get? a = some (seqObj "list" #[] e1) := Heap.get?_push_of_some _ (Heap.get?_push_of_some _ ho1)
  have hk3 : ((h1.push (seqObj "tuple" vs.toArray 0)).push (seqObj "list" #[] 0)).get? (h1.push (seqObj "tuple" vs.toArray 0)).objs.size = some (seqObj "list" #[] 0) := Heap.get?_push_size _ rfl
  have fk : FpOk X pins H (h1.push (seqObj "tuple" vs.toArray 0)).objs.size := I2.fpOk (Nat.le_refl _) (I2.hok.fresh (Nat.le_refl _))
  have hka : (h1.push (seqObj "tuple" vs.toArray 0)).objs.size ≠ a := fun z => by
    have := Heap.lt_size (Heap.get?_push_of_some (seqObj "tuple" vs.toArray 0) ho1)
    rw [← z] at this
    exact Nat.lt_irrefl _ this
  generalize (h1.push (seqObj "tuple" vs.toArray 0)).push (seqObj "list" #[] 0) = h3 at I3 ho3 hk3 ⊢
  generalize (h1.push (seqObj "tuple" vs.toArray 0)).objs.size = kS at hk3 fk hka ⊢
  clear I1 I2 ho1 s1
  unfold ksk_rest
  refine wpAny_bind (wpAny_rule ?_)
  rw [List.forIn_toArray]
  refine wpAny_bind (ksk_fold (fun i s' => ∃ H' kA e, Inv X pins σ H' s' ∧ Same H H' ∧ H' a = none ∧ H' kS = none ∧ s'.heap.get? kS = some (seqObj "list" kA e) ∧ s'.heap.get? a = some (seqObj "list" #[] e1) ∧ EachIs (IsKey H') kA.toList ((ks.map F).take i)) vs 0 _
    ⟨H, #[], 0, I3, Same.refl _, fa.1, fk.1, hk3, ho3, by rw [List.take_zero]; exact EachIs.nil⟩ ?step ?done)
  case step =>
    rintro i v s' hv ⟨H', kA, e, I', sm, na, nk, gk, ga, ek⟩
    simp only [Nat.zero_add] at ek ⊢
    have hi : i < vs.length := (List.getElem?_eq_some_iff.mp hv).1
    have hxi : xs[i]? = some xs[i] := List.getElem?_eq_getElem (by omega)
    obtain ⟨k, hki, nkx⟩ := hk.get hxi
    obtain ⟨v2, hv2, rx⟩ := rv.get hxi
    obtain rfl : v2 = v := Option.some.inj (hv2.symm.trans hv)
    have szA : kA.size ≤ vs.length := by
      have h1 := ek.length
      rw [Array.length_toList, List.length_take, List.length_map] at h1
      omega
    have Ip := I'.pinned (fp := [a, kS]) (fun b hb => by
      rcases List.mem_cons.mp hb with rfl | hb
      · exact ⟨na, fa.2⟩
      · rw [List.mem_singleton.mp hb]; exact ⟨nk, fk.2⟩) (fun b hb => by
      rcases List.mem_cons.mp hb with rfl | hb
      · exact ⟨_, ga, fun v z => by cases z⟩
      · rw [List.mem_singleton.mp hb]; exact ⟨_, gk, fun v z => by cases z⟩)
    refine wpAny_bind (wpAny_attempt (key_call G hr hb Ip rx (nkx.at (.same sm)) (hC k (List.mem_of_getElem? hki)) fun u s2 y H2 I2 ry sm2 ny => ?_))
    have pa := I2.pin (a, seqObj "list" #[] e1) (List.mem_append_right _ (List.mem_append_right _ (mem_pinsAt (by simp) ga)))
    have pk := I2.pin (kS, seqObj "list" kA e) (List.mem_append_right _ (List.mem_append_right _ (mem_pinsAt (by simp) gk)))
    have I2 := I2.unpinned
    try dsimp only
    have s3 := Heap.SameBut.update s2.heap kS (Obj.mapSeq (·.push u))
    obtain ⟨c2, hc2⟩ : ∃ c2, (s2.heap.update kS (Obj.mapSeq (·.push u))).get? kS = some (seqObj "list" (kA.push u) c2) := ⟨_, get?_update_seq pk.1 (·.push u)⟩
    refine wpAny_bind (listUpdate_at pk.1 rfl ?_ (Nat.le_trans szA hz) (by rw [Array.size_push]; omega))
    refine wpAny_pure ⟨rfl, H2, kA.push u, c2, ?_, sm.trans sm2, pa.2.1, pk.2.1, hc2, (s3.2 a hka.symm).trans pa.1, ?_⟩
    · exact I2.turnedL (ch := [kS]) (t' := s2.toks) (fun b o hb e => (s3.2 b (fun z => hb (by simp [z]))).trans e) (fun b hb => by rw [List.mem_singleton.mp hb]; exact ⟨pk.2.1, fk.2⟩)
    · have e2 : (ks.map F).take (i + 1) = (ks.map F).take i ++ [F k] := by
        rw [List.take_add_one, List.getElem?_map, hki]
        rfl
      rw [e2, Array.toList_push]
      exact each_snocN ⟨y, ny, ry⟩ (ek.mono fun v k q => q.at (.same sm2))
  case done =>
    rintro s' ⟨H', kA, e, I', sm, na, nk, gk, ga, ek⟩
    rw [List.take_of_length_le (by rw [List.length_map]; omega)] at ek
    have szA : kA.size = vs.length := by
      have h1 := ek.length
      rw [Array.length_toList, List.length_map] at h1
      omega
    refine wpAny_bind (listItems_at gk rfl ?_)
    have en : EachIs (fun v k => Ns s'.heap k v) kA.toList (ks.map F) := ek.mono fun v k q => let ⟨x, a, b⟩ := q; a.ns I' b
    have mem : ∀ {k : NestedKey}, k ∈ ks.map F → ∃ k0, k0 ∈ ks ∧ F k0 = k := fun h => List.mem_map.mp h
    have S : SortsAt X.prog X.w X.A.in1.in1 s' (nkKind s'.heap (ks.map F)) kA.toList := hS s' kA.toList en
    have hid : (hideAll s'.heap [kS]).get? kS = none := hideAll_none _ (by simp)
    have kp : KeepsBut a (hideAll s'.heap [kS]) s'.heap := fun b o _ q => of_hideAll _ q
    refine keyH_end (κ := nkKind s'.heap (ks.map F)) (b := false) (vs := vs) (h₁ := hideAll s'.heap [kS]) kp hid gk ga hka S szA hz fun h4 tk c k4 n4 => ?_
    have out := sortVals_each (κ := nkKind s'.heap (ks.map F)) (rev := false) (R := fun (v : Value) (b : V × NestedKey) => RelV b.1 v) (ks := kA.toList) (vs := vs) (bs := xs.zip ks) (fun b => toks (F b.2)) (zip_each rv lk) (by
      have e3 : EachIs (fun v k => (nkKind s'.heap (ks.map F)).keyOf v = some (toks (F k))) kA.toList ks := each_of_map F ((each_mem en).mono fun v k q => nk_some q.2 q.1)
      exact each_snd e3 lk)
    have keep : ∀ b o, b ∉ [a, kS] → s'.heap.get? b = some o → h4.get? b = some o := fun b o nb q => k4 b o (fun z => nb (by simp [z])) (hideAll_get _ q fun z => nb (by simp [List.mem_singleton.mp z]))
    have I4 : Inv X pins σ H' { s' with heap := hideAll s'.heap [], toks := s'.toks } := I'
    refine h H' _ sm na ?_
    have rel : Vals (((xs.zip ks).mergeSort (leF F)).map Prod.fst) (sortVals (nkKind s'.heap (ks.map F)) false kA.toList vs) := each_vals out
    have lo : (((xs.zip ks).mergeSort (leF F)).map Prod.fst).length ≤ sizeLine := by
      rw [List.length_map, List.length_mergeSort, List.length_zip]
      omega
    have I5 : Inv X pins σ H' { s' with heap := h4, toks := tk } := by
      refine I'.turnedL (ch := [a, kS]) (t' := tk) keep fun b hb => ?_
      rcases List.mem_cons.mp hb with rfl | hb
      · exact ⟨na, fa.2⟩
      · rw [List.mem_singleton.mp hb]; exact ⟨nk, fk.2⟩
    exact I5.take (t' := tk) (fun b ob _ e => e) ⟨na, fa.2⟩ ⟨lo, _, c, rel, n4⟩
theorem sort_key {xs : List V} {vs : List Value} {ks : List NestedKey} {P : PySem.Fin → Shared → Prop} {E : Value → Shared → Prop} (G : FnOk X.prog X.w X.K X.mg X.base CX0 j f fd ps (spKey F C)) (hr : Room (j + 1) X.A) (hb : Binds X.K fd ps [])
    (I : Inv X pins σ H s) (fa : FpOk X pins H a) (ho : s.heap.get? a = some (seqObj "list" vs.toArray n)) (rv : Vals xs vs) (hk : NkAll H xs ks) (hC : ∀ k ∈ ks, C k) (hh : ∀ k ∈ ks, ∃ i r, F k = .tup (.num i :: r))
    (hc : ∀ k ∈ ks, ∀ k' ∈ ks, ∃ c, ltK (F k) (F k') = some c) (hd : ∀ k ∈ ks, (F k).depth ≤ 50) (hz : vs.length ≤ sizeLine)
    (h : ∀ H' s', Same H H' → H' a = none → Inv X pins σ (upd H' a (.lst (((xs.zip ks).mergeSort (leF F)).map Prod.fst))) s' → P (.done (.ret .none)) s') :
    wpAny (model X.prog X.w) X.A.in1.in1 (ksk_tree a (.ref f) false) P E s := by
  have mem : ∀ {k : NestedKey}, k ∈ ks.map F → ∃ k0, k0 ∈ ks ∧ F k0 = k := fun h => List.mem_map.mp h
  refine sort_keyG G hr hb I fa ho rv hk hC (fun s' vs' en => sortsN (n := 50) en
      (fun k hk => by obtain ⟨k0, h0, rfl⟩ := mem hk; exact hh k0 h0)
      (fun k hk k' hk' => by obtain ⟨k0, h0, rfl⟩ := mem hk; obtain ⟨k1, h1, rfl⟩ := mem hk'; exact hc k0 h0 k1 h1)
      (fun k hk => by obtain ⟨k0, h0, rfl⟩ := mem hk; exact hd k0 h0) (by have := hr.un; show X.A.units + 1 + 1 + 50 < cLine; omega)) hz h
end
end My

set_option Elab.async false
set_option linter.all false
set_option maxRecDepth 100000
set_option maxHeartbeats 2000000
/-! Dicts whose keys are tuples of numbers, texts and such tuples, all values True. -/
namespace My
open PySem PySem.Spec PyProof.Rows L2 PySem.SeqAt PySem.W
def tri (xs : List (NestedKey × Addr)) : List (NestedKey × Addr × Value) := xs.map fun p => (p.1, p.2, Value.bool true)
def NDraw (P : Program) (w : World) (d : Addr) (xs : List (NestedKey × Addr)) (h : Heap) : Prop :=
  ∃ o es ep, h.get? d = some o ∧ o.ExactDict ∧ o.data = .dict es ep ∧ es.toList = (tri xs).map (entryOfKey (nestedKind P w)) ∧ ((tri xs).map (·.1)).Nodup ∧ (d == sysModules) = false
/-- such a dict -/
def ND (P : Program) (w : World) (d : Addr) (xs : List (NestedKey × Addr)) : HO := .ext (NDraw P w d xs)
/-- such a dict (of none, too), its keys there -/
def NdAt (P : Program) (w : World) (H : Hp) (d : Addr) (xs : List (NestedKey × Addr)) : Prop := (H d = some (ND P w d xs) ∨ (xs = [] ∧ H d = some (.dK []))) ∧ ∀ p ∈ xs, Nk H (.ref p.2) p.1 ∧ p.1.depth ≤ 8
def putN (xs : List (NestedKey × Addr)) (k : NestedKey) (a : Addr) : List (NestedKey × Addr) := if k ∈ xs.map (·.1) then xs else xs ++ [(k, a)]
theorem tri_keys (xs : List (NestedKey × Addr)) : (tri xs).map (·.1) = xs.map (·.1) := by
  unfold tri
  rw [List.map_map]
  rfl
theorem atKey_some {xs : List (NestedKey × Addr)} {k : NestedKey} : (atKey (tri xs) k).isSome = decide (k ∈ xs.map (·.1)) := by
  induction xs with
  | nil => rfl
  | cons p xs ih =>
    unfold tri atKey at *
    rw [List.map_cons, List.find?_cons]
    by_cases e : p.1 = k
    · subst e
      simp
    · have e2 : ¬ k = p.1 := fun z => e z.symm
      simp only [decide_eq_false e]
      rw [ih, List.map_cons]
      simp [List.mem_cons, e2]
theorem stored_tri (xs : List (NestedKey × Addr)) (k : NestedKey) (a : Addr) : storedH (tri xs) k a (.bool true) = tri (putN xs k a) := by
  unfold storedH putN
  rw [atKey_some]
  by_cases e : k ∈ xs.map (·.1)
  · rw [decide_eq_true e, if_pos rfl, if_pos e]
    unfold tri
    rw [List.map_map]
    refine List.map_congr_left fun p _ => ?_
    show putAt k (Value.bool true) (p.1, p.2, Value.bool true) = _
    unfold putAt
    split <;> rfl
  · rw [decide_eq_false e, if_neg Bool.false_ne_true, if_neg e]
    unfold tri
    rw [List.map_append]
    rfl
section
variable {X : Cx} {pins : List (Addr × Obj)} {σ : L2.St} {H : Hp} {s : Shared} {d : Addr} {xs : List (NestedKey × Addr)}
theorem nd_full (I : Inv X pins σ H s) (h : NdAt X.prog X.w H d xs) : s.heap.DictOfH (nestedKind X.prog X.w) d (tri xs) ∧ (d == sysModules) = false := by
  have keys : ∀ x ∈ tri xs, (nestedKind X.prog X.w).is s.heap x.1 x.2.1 := fun x hx => by
    obtain ⟨p, hp, rfl⟩ := List.mem_map.mp hx
    exact ⟨(h.2 p hp).1.is I rfl, (h.2 p hp).2⟩
  rcases h.1 with e | ⟨rfl, e⟩
  · obtain ⟨⟨o, es, ep, h1, h2, h3, h4, h5, h6⟩, _⟩ := (show ObjOk X.prog X.w H s.heap d (ND X.prog X.w d xs) from I.hok d _ e)
    exact ⟨⟨o, es, ep, h1, h2, h3, h4, keys, h5⟩, h6⟩
  · obtain ⟨z, hd, vs, rel, o, es, ep, h1, h2, h3, h4⟩ := (show ObjOk X.prog X.w H s.heap d (.dK []) from I.hok d _ e)
    cases rel
    have e0 : es.toList = [] := by
      have := h4.2.1
      cases q : es.toList with
      | nil => rfl
      | cons a b => rw [q] at this; cases this
    exact ⟨⟨o, es, ep, h1, h2, h3, e0, keys, List.nodup_nil⟩, hd⟩
theorem nd_new {P : Program} {w : World} {H : Hp} {h : Heap} (m : h.DictOfH (nestedKind P w) d (tri xs)) (hd : (d == sysModules) = false) : ObjOk P w H h d (ND P w d xs) := by
  obtain ⟨o, es, ep, h1, h2, h3, h4, _, h5⟩ := m
  refine ⟨⟨o, es, ep, h1, h2, h3, h4, h5, hd⟩, ⟨o, h1⟩, ?_⟩
  rintro g1 g2 ⟨o, es, ep, k1, k2⟩ up
  exact ⟨o, es, ep, up o k1, k2⟩
theorem nd_mut {P : Program} {w : World} {H : Hp} (h : NdAt P w H d xs) : Mut (H d) := by
  rcases h.1 with e | ⟨_, e⟩ <;> rw [e] <;> trivial
/-- behind d[k] = True -/
theorem nd_put {P : Program} {w : World} {H : Hp} {a : Addr} {k : NestedKey} (h : NdAt P w H d xs) (hk : Nk H (.ref a) k) (hd : k.depth ≤ 8) (nd : ∀ ys, H d ≠ some (.tup ys)) : NdAt P w (upd H d (ND P w d (putN xs k a))) d (putN xs k a) := by
  have t : Tups H (upd H d (ND P w d (putN xs k a))) := fun b ys e => by
    rw [upd_ne (fun z => nd ys (by rw [← z]; exact e))]
    exact e
  refine ⟨.inl upd_same, fun p hp => ?_⟩
  unfold putN at hp
  split at hp
  · exact ⟨(h.2 p hp).1.at t, (h.2 p hp).2⟩
  · rcases List.mem_append.mp hp with hp | hp
    · exact ⟨(h.2 p hp).1.at t, (h.2 p hp).2⟩
    · rw [List.mem_singleton.mp hp]
      exact ⟨hk.at t, hd⟩
theorem nd_ntup {P : Program} {w : World} {H : Hp} (h : NdAt P w H d xs) : ∀ ys, H d ≠ some (.tup ys) := fun ys z => by
  rcases h.1 with e | ⟨_, e⟩
  · rw [e] at z; cases z
  · rw [e] at z; cases z
theorem nd_dictSet {A : Around} {a : Addr} {k : NestedKey} {E : Value → Shared → Prop} {Q : Unit → Shared → Prop} (hu : A.units + 8 < cLine) (I : Inv X pins σ H s) (h : NdAt X.prog X.w H d xs) (hk : Nk H (.ref a) k) (hd : k.depth ≤ 8) (hz : xs.length < sizeLine)
    (q : ∀ s', Inv X pins σ (upd H d (ND X.prog X.w d (putN xs k a))) s' → Q () s') : wpAny (model X.prog X.w) A (dictSet d (.ref a) (.bool true)) Q E s := by
  obtain ⟨m, hs⟩ := nd_full I h
  refine wpAny_dictSet_heap (knd := nestedKind X.prog X.w) (hsz := by unfold tri; rw [List.length_map]; omega) hu ⟨hk.is I rfl, hd⟩ m fun h' m' sb => q _ ?_
  rw [stored_tri] at m'
  have he : ∃ o, h'.get? d = some o := let ⟨o, _, _, g, _⟩ := m'; ⟨o, g⟩
  exact d_write I (nd_mut h) sb he (nd_new m' hs)
theorem nd_setItem {A : Around} {a : Addr} {k : NestedKey} {E : Value → Shared → Prop} {Q : Unit → Shared → Prop} (hu : A.units + 9 < cLine) (I : Inv X pins σ H s) (h : NdAt X.prog X.w H d xs) (hk : Nk H (.ref a) k) (hd : k.depth ≤ 8) (hz : xs.length < sizeLine)
    (q : ∀ s', Inv X pins σ (upd H d (ND X.prog X.w d (putN xs k a))) s' → Q () s') : wpAny (model X.prog X.w) A (setItem (.ref d) (.ref a) (.bool true)) Q E s := by
  obtain ⟨m, hs⟩ := nd_full I h
  refine wpAny_setItem_heap (knd := nestedKind X.prog X.w) (hsz := by unfold tri; rw [List.length_map]; omega) (by show A.units + 1 + 8 < cLine; omega) ⟨hk.is I rfl, hd⟩ m fun h' m' sb => q _ ?_
  rw [stored_tri] at m'
  have he : ∃ o, h'.get? d = some o := let ⟨o, _, _, g, _⟩ := m'; ⟨o, g⟩
  exact d_write I (nd_mut h) sb he (nd_new m' hs)
end
section
variable {X : Cx} {o i value : Expr} {td ty tv : TE} {pos pos' : Pos}
/-- d[k] = True -/
def sDPutN (P : Program) (w : World) (td ty tv : TE) : TS := fun D σ H => tv σ H fun v H1 => td σ H1 fun x H2 => ty σ H2 fun y H3 => ∃ d a k xs, v = .bl true ∧ x = .ref d ∧ y = .ref a ∧ NdAt P w H3 d xs ∧ Nk H3 (.ref a) k ∧ k.depth ≤ 8 ∧ xs.length < sizeLine ∧ D.nx σ (upd H3 d (ND P w d (putN xs k a)))
theorem ps_dputN (hu : X.A.units + 64 < cLine) (ho : PE X o td) (hi : PE X i ty) (hv : PE X value tv) (hs : swapsWith value (some (.Subscript o i pos')) pos.line X.env = pure false) : PS X (.Assign [.Subscript o i pos'] value pos) (sDPutN X.prog X.w td ty tv) := by
  constructor
  intro pins s σ H D I h
  refine wpAny_Assign_Subscript (thn (hv.run pins s σ H _ I h) ?_) hs
  rintro r s1 ⟨v, H1, I1, rv, q1⟩
  refine thn (ho.run pins s1 σ H1 _ I1 q1) ?_
  rintro u s2 ⟨x, H2, I2, rx, q2⟩
  refine thn (hi.run pins s2 σ H2 _ I2 q2) ?_
  rintro iv s3 ⟨y, H3, I3, ry, d, a, k, xs, rfl, rfl, rfl, hn, hk, hd, hz, q3⟩
  cases rv
  cases rx
  cases ry
  exact nd_setItem (by omega) I3 hn hk hd hz fun s4 I4 => ⟨σ, _, I4, q3⟩
/-- k in d, k not in d -/
def rInD (P : Program) (w : World) (neg : Bool) : R2 := fun x y H Q => ∃ d a k xs, x = .ref a ∧ y = .ref d ∧ NdAt P w H d xs ∧ Nk H (.ref a) k ∧ k.depth ≤ 8 ∧ Q (.bl (if neg then !decide (k ∈ xs.map (·.1)) else decide (k ∈ xs.map (·.1)))) H
theorem op_inD (hu : X.A.units + 64 < cLine) : OpR X (compareOp .In) (rInD X.prog X.w false) := by
  intro pins s σ H x y v u Q I rx ry h
  obtain ⟨d, a, k, xs, rfl, rfl, hn, hk, hd, q⟩ := h
  cases rx
  cases ry
  obtain ⟨m, hs⟩ := nd_full I hn
  refine wpAny_in_heap (knd := nestedKind X.prog X.w) (by show X.A.units + 1 + 8 < cLine; omega) ⟨hk.is I rfl, hd⟩ hs m ⟨.bl _, H, I.tok _, rfl, ?_⟩
  rw [atKey_some]
  exact q
theorem op_notInD (hu : X.A.units + 64 < cLine) : OpR X (compareOp .NotIn) (rInD X.prog X.w true) := by
  intro pins s σ H x y v u Q I rx ry h
  obtain ⟨d, a, k, xs, rfl, rfl, hn, hk, hd, q⟩ := h
  cases rx
  cases ry
  obtain ⟨m, hs⟩ := nd_full I hn
  refine notIn_keyed (knd := nestedKind X.prog X.w) (by show X.A.units + 1 + 8 < cLine; omega) ⟨hk.is I rfl, hd⟩ hs ⟨_, m, rfl⟩ ⟨.bl _, H, I.tok _, rfl, ?_⟩
  rw [valueAt_pairsH, Option.isSome_map, atKey_some]
  exact q
end
end My

set_option Elab.async false
set_option linter.all false
set_option maxRecDepth 100000
set_option maxHeartbeats 2000000
namespace My
open PySem PySem.Spec PyProof.Rows L2 PySem.SeqAt PySem.W
theorem kdl_rawD {prog : Program} {w : World} {d : Addr} {es : Array DictEntry} {ep : Nat} (lo : (d == sysModules) = false) : KdlSrc prog w "dict" d d es.size (fun i v => ∃ hi : i < es.size, v = es[i].key) (fun h => h.DictRaw d es ep) where
  type := fun _ hm => hm.typeIs
  there := fun h hm => let ⟨o, ho, _⟩ := hm; ⟨Heap.lt_size ho, Heap.lt_size ho⟩
  keep := fun _ _ hm hk => hm.at fun o e => hk d (.inl rfl) o e
  notList := by decide
  notTuple := by decide
  hint := fun _ _ _ _ hm hq => kdl_hint_dict hm.typeIs hq
  iter := fun _ s hh hm => by
    obtain ⟨o, ho, _⟩ := id hm
    exact ⟨_, _, (fun _ _ hq => wpAny_pyIter_dict_raw lo hm hq), Walks.rawKeys hh _ d (Nat.ne_of_lt (Heap.lt_size ho)) es ep, ⟨⟨_, Heap.get?_push_size _ rfl, rfl, rfl⟩, hm.at fun o e => Heap.get?_push_of_some _ e⟩⟩
/-- what sorted tells of such a dict's keys -/
def sortD (F : NestedKey → NestedKey) (xs : List (NestedKey × Addr)) : List V := (((xs.map fun p => V.ref p.2).zip (xs.map (·.1))).mergeSort (leF F)).map Prod.fst
theorem vals_refs : ∀ {xs : List (NestedKey × Addr)} {us : List Value}, us.length = xs.length → (∀ (j : Nat) (v : Value), us[j]? = some v → ∃ p : NestedKey × Addr, xs[j]? = some p ∧ v = Value.ref p.2) → Vals (xs.map fun p => V.ref p.2) us
  | [], [], _, _ => .nil
  | p :: xs, u :: us, hl, h => by
    refine .cons ?_ (vals_refs (by simpa using hl) fun j v e => h (j + 1) v (by simpa using e))
    obtain ⟨q, e, e2⟩ := h 0 u rfl
    cases e
    exact e2
theorem nk_refs {H : Hp} : ∀ {xs : List (NestedKey × Addr)}, (∀ p ∈ xs, Nk H (.ref p.2) p.1) → NkAll H (xs.map fun p => V.ref p.2) (xs.map (·.1))
  | [], _ => .nil
  | p :: xs, h => .cons (h p (.head _)) (nk_refs fun q hq => h q (.tail _ hq))
section
variable {X : Cx} {f : Addr} {fd : FuncData} {ps : List Str} {j : Nat} {F : NestedKey → NestedKey} {C : NestedKey → Prop}
def rSortD (P : Program) (w : World) (f : Addr) (F : NestedKey → NestedKey) (C : NestedKey → Prop) : List V → List V → Hp → VK → Prop := fun vs zs H Q => ∃ (d : Addr) (xs : List (NestedKey × Addr)), vs = [.ref d] ∧ zs = [.ref f] ∧ NdAt P w H d xs ∧ (∀ p ∈ xs, C p.1) ∧
  (∀ p ∈ xs, ∃ i r, F p.1 = .tup (.num i :: r)) ∧ (∀ p ∈ xs, ∀ q ∈ xs, ∃ c, ltK (F p.1) (F q.1) = some c) ∧ (∀ p ∈ xs, (F p.1).depth ≤ 50) ∧ xs.length ≤ sizeLine ∧ ∀ H' p, Same H H' → H' p = none → H p = none → Q (.ref p) (upd H' p (.lst (sortD F xs)))
theorem cr_sortD (hcalm : X.calm = true) (G : FnOk X.prog X.w X.K X.mg X.base CX0 j f fd ps (spKey F C)) (hr : Room (j + 1) X.A) (hb : Binds X.K fd ps []) : CallRK X (.builtin "sorted") [Str.ofString "key"] (rSortD X.prog X.w f F C) := by
  intro pins s σ H vs zs us ws Q I r1 r2 h
  obtain ⟨d, xs, rfl, rfl, hn, hC, hh, hc, hd, hz, q⟩ := h
  obtain ⟨u, rfl, ru⟩ := vals1 r1
  obtain ⟨u2, rfl, ru2⟩ := vals1 r2
  cases ru
  cases ru2
  obtain ⟨m, lo⟩ := nd_full I hn
  obtain ⟨o, es, ep, g1, g2, g3, g4, g5, g6⟩ := m
  have hes : es.size = xs.length := by rw [← Array.length_toList, g4, List.length_map]; unfold tri; rw [List.length_map]
  show wpAny _ _ (call (.builtin "sorted") [.ref d] [(Str.ofString "key", .ref f)]) _ _ _
  refine call_function_entry_kw kind_sorted plain_sorted entry_sorted (ksk_s1 _ _) ?_
  unfold Builtin.«sorted»
  refine wpAny_bind (m := checkCount "sorted" 1 1 _) (wpAny_pure ?_)
  refine wpAny_bind (kdu_collect (A := X.A.in1) (kdl_rawD (es := es) (ep := ep) lo) (I.ok.hd hcalm) ⟨o, g1, g2, g3⟩ (by omega) fun h' tk acc hk hacc => ?_)
  have rv : Vals (xs.map fun p => V.ref p.2) acc.toList := vals_refs (by rw [Array.length_toList, hacc.1, hes]) fun i v e => by
    obtain ⟨hi, rfl⟩ := hacc.2 i v (by rw [← Array.getElem?_toList]; exact e)
    have hx : i < xs.length := by omega
    refine ⟨xs[i], List.getElem?_eq_getElem hx, ?_⟩
    have e2 : es[i]? = some es[i] := Array.getElem?_eq_getElem hi
    rw [← Array.getElem?_toList, g4, List.getElem?_map] at e2
    unfold tri at e2
    rw [List.getElem?_map, List.getElem?_eq_getElem hx] at e2
    rw [← Option.some.inj e2]
    rfl
  have la : acc.toList.length ≤ sizeLine := by rw [Array.length_toList, hacc.1]; omega
  have I1 : L2.Inv X pins σ H { s with heap := h', toks := tk } := I.kept hk
  refine wpAny_bind (wpAny_newList ?_ la)
  show wpAny _ _ _ _ _ { s with heap := h'.push (seqObj "list" acc.toList.toArray 0), toks := tk }
  have I2 : L2.Inv X pins σ H { s with heap := h'.push (seqObj "list" acc.toList.toArray 0), toks := tk } := I1.kept (t' := tk) fun b u e => Heap.get?_push_of_some _ e
  have hoL : (h'.push (seqObj "list" acc.toList.toArray 0)).get? h'.objs.size = some (seqObj "list" acc.toList.toArray 0) := Heap.get?_push_size _ rfl
  have fresh : H h'.objs.size = none := I1.hok.fresh (Nat.le_refl _)
  have fp : FpOk X pins H h'.objs.size := I1.fpOk (Nat.le_refl _) fresh
  refine wpAny_bind (wpAny_holding (wpAny_call_entry_kw slot_list_sort ⟨_, hoL, rfl⟩ entry_list_sort ?_ (ksk_l1 _ _)))
  rw [ksk_t1]
  have mem : ∀ {k : NestedKey}, k ∈ xs.map (·.1) → ∃ p, p ∈ xs ∧ p.1 = k := fun h => List.mem_map.mp h
  refine sort_key (X := X) (pins := pins) (σ := σ) (H := H) (s := { s with heap := h'.push (seqObj "list" acc.toList.toArray 0), toks := tk }) G hr hb I2 fp hoL rv (nk_refs fun p hp => (hn.2 p hp).1)
    (fun k hk => by obtain ⟨p, hp, rfl⟩ := mem hk; exact hC p hp) (fun k hk => by obtain ⟨p, hp, rfl⟩ := mem hk; exact hh p hp)
    (fun k hk k' hk' => by obtain ⟨p, hp, rfl⟩ := mem hk; obtain ⟨p2, hp2, rfl⟩ := mem hk'; exact hc p hp p2 hp2) (fun k hk => by obtain ⟨p, hp, rfl⟩ := mem hk; exact hd p hp) la fun H' s' sm nh I3 => ?_
  exact ⟨_, rfl, wpAny_pure ⟨_, rfl, .ref h'.objs.size, _, I3, rfl, q H' _ sm nh fresh⟩⟩
end
end My

set_option Elab.async false
set_option linter.all false
set_option maxRecDepth 100000
set_option maxHeartbeats 2000000
/-! {k: True for .. in ..}, k a tuple of numbers, texts and such tuples. -/
namespace My
open PySem PySem.Spec PyProof.Rows L2 PySem.SeqAt PySem.W
section
variable {X : Cx}
def DcStep (P : Program) (w : World) (J : It) (g : TG) (tt : TT) (tk tv : TE) (vs : List Nat) (σ : L2.St) (D : Addr) (Qd : Hp → Prop) (W : Nat → Nat → Hp → Prop) (i m : Nat) (H : Hp) : Prop :=
  (J.stop i H ∧ Qd H) ∨ (J.go i H ∧ ∃ Nx : Hp → Prop, (∀ H', Nx H' → ∃ m', m' < m ∧ W (i + 1) m' H') ∧ ∀ x H', J.yld i H x H' →
    g x (wipe σ vs) H' fun σ2 H2 => wipe σ2 vs = wipe σ vs ∧ tt σ2 H2 fun b H3 => if b = true then tk σ2 H3 fun y H4 => tv σ2 H4 fun z H5 =>
      ∃ a k xs, y = .ref a ∧ z = .bl true ∧ NdAt P w H5 D xs ∧ Nk H5 (.ref a) k ∧ k.depth ≤ 8 ∧ xs.length < sizeLine ∧ Nx (upd H5 D (ND P w D (putN xs k a))) else Nx H3)
def tDcN (P : Program) (w : World) (wi : TI) (g : TG) (tt : TT) (tk tv : TE) (vs : List Nat) : TE := fun σ H Q => wi σ H fun J H1 => ∀ D, H1 D = none →
  ∃ W : Nat → Nat → Hp → Prop, (∃ m, W 0 m (upd H1 D (.dK []))) ∧ ∀ i m H', W i m H' → DcStep P w J g tt tk tv vs σ D (fun H2 => Q (.ref D) H2) W i m H'
abbrev Blk (X : Cx) (scope : Scope) (s : Shared) (H : Hp) (C : Addr) (cl : List (Str × Addr)) (fp : List Addr) : Cx := X.blk s H scope (compEnvC scope cl C X.env) fp
theorem dcN_core {pins : List (Addr × Obj)} {s : Shared} {σ : L2.St} {H : Hp} {Q : VK} {kx vx tg iter : Expr} {ifs : List Expr} {scope : Scope} {own : List (Str × Nat)} {pos pos' : Pos} {wi : TI} {g : TG} {tt : TT} {tk tv : TE} {use : Option (Value → Sem Unit)} {Qf : Value → Shared → Prop}
    (hu : X.A.units + 64 < cLine) (calm : X.calm = true) (nd : X.N.Nodup) (I : L2.Inv X pins σ H s) (hi : PI X tg iter wi) (ok : BlkOk X.N X.env.scope scope own)
    (hg : ∀ s H C cl fp, PG (Blk X scope s H C cl fp) tg g) (ht : ∀ s H C cl fp, PTs (Blk X scope s H C cl fp) ifs tt) (hk : ∀ s H C cl fp, PE (Blk X scope s H C cl fp) kx tk) (hv : ∀ s H C cl fp, PE (Blk X scope s H C cl fp) vx tv)
    (fold : ∀ x, foldedSetIterable iter X.env x = pure x) (h : tDcN X.prog X.w wi g tt tk tv (own.map (·.2)) σ H Q)
    (back : ∀ D C s' m H', L2.Inv X pins σ H' s' → Q (.ref D) H' → s'.heap.Ns C m → FpOk X pins H' C → compPost (model X.prog X.w) X.A X.xe use Qf (.ref D) C (.ok .next) s') :
    wpAny (model X.prog X.w) X.A (comprehension (.DictComp kx vx [⟨tg, iter, ifs, 0⟩] scope pos) scope X.env pos' newDict false (eval iter X.env) use) Qf X.xe s := by
  have free : ∀ y ∈ scope.names, y.2 = .free → ∃ c, X.env.cells.lookup y.1 = some c := by
    intro y hy e
    exact (ok.free y hy e).elim (fun k => I.ok.has _ (.inl k)) fun k => I.ok.has _ (.inr k)
  refine wpAny_comprehension_free (use := use) rfl fold (closure_ok free) ok.kind (fun y hy e => by rw [ok.uniq y hy, e]) (thn (hi.run pins s σ H _ I h) fun xv s1 hx => thn hx ?_)
  rintro itv s2 ⟨it, fp, tn, J, H2, rfl, I2, T, st2, f2, q⟩
  refine wpAny_newObj_type (newEnv_comp ?_)
  obtain ⟨D, hD⟩ : ∃ D, D = s2.heap.objs.size := ⟨_, rfl⟩
  rw [← hD]
  have fresh : H2 D = none := I2.hok.fresh (Nat.le_of_eq hD.symm)
  obtain ⟨W, ⟨m0, w0⟩, turn⟩ := q D fresh
  obtain ⟨s3, hs3⟩ : ∃ s3 : Shared, s3 = { s2 with heap := s2.heap.push { cls := .type "dict", data := .dict #[] } } := ⟨_, rfl⟩
  have I3 : L2.Inv X pins σ (upd H2 D (.dK [])) s3 := by
    rw [hs3]
    refine I2.laid (t' := s2.toks) (fun b o e => Heap.get?_push_of_some _ e) (Nat.le_of_eq hD.symm) ?_
    rw [hD]
    exact dk_empty s2.heap I2.big
  have h3 : s3.heap = s2.heap.push { cls := .type "dict", data := .dict #[] } := by rw [hs3]
  have old : ∀ b ∈ fp, b < s2.heap.objs.size := fun b hb => let ⟨o, e, _⟩ := T.obj _ _ st2 b hb; Heap.lt_size e
  have f3 : ∀ b ∈ fp, FpOk X pins (upd H2 D (.dK [])) b ∧ b < s3.heap.objs.size := by
    intro b hb
    have lt := old b hb
    refine ⟨⟨?_, (f2 b hb).2⟩, by rw [h3, Heap.size_push]; exact Nat.lt_succ_of_lt lt⟩
    rw [upd_ne (by rw [hD]; exact Nat.ne_of_lt lt)]
    exact (f2 b hb).1
  have st3 : tn 0 s3.heap := T.keep _ _ _ st2 fun b _ o e => by rw [h3]; exact Heap.get?_push_of_some _ e
  have I4 := block_start I3 ok nd f3
  obtain ⟨cl, hcl⟩ : ∃ cl, cl = cellsFrom (s3.heap.objs.size + 1) scope.names (cloFrom X.env.cells scope.names []) := ⟨_, rfl⟩
  obtain ⟨C, hC⟩ : ∃ C, C = s3.heap.objs.size := ⟨_, rfl⟩
  obtain ⟨H3, hH3⟩ : ∃ H3, H3 = upd H2 D (.dK []) := ⟨_, rfl⟩
  rw [← hcl, ← hC, ← hH3] at I4
  rw [← hH3] at I3 f3 w0
  obtain ⟨s4, hs4⟩ : ∃ s4 : Shared, s4 = { s3 with heap := pushCells (s3.heap.push { cls := .type "dict", data := .dict #[] }) scope.names } := ⟨_, rfl⟩
  rw [← hs4] at I4
  rw [← hs3]
  show codeAny _ _ (.compStart (.DictComp kx vx [⟨tg, iter, ifs, 0⟩] scope pos) 0 (.ref it) (.ref D) (compEnvC scope (cellsFrom (s3.heap.objs.size + 1) scope.names (cloFrom X.env.cells scope.names [])) s3.heap.objs.size X.env)) (compPost (model X.prog X.w) X.A X.xe use Qf (.ref D) s3.heap.objs.size) { s3 with heap := pushCells (s3.heap.push { cls := .type "dict", data := .dict #[] }) scope.names }
  rw [← hcl, ← hC, ← hs4]
  have pg := hg s3 H3 C cl fp
  have pt := ht s3 H3 C cl fp
  have pk := hk s3 H3 C cl fp
  have pv := hv s3 H3 C cl fp
  have cL : (compEnvC scope cl C X.env).locals = C := rfl
  have nfp : ∀ b ∈ fp, H3 b = none := fun b hb => (f3 b hb).1.1
  have st4 : tn 0 s4.heap := T.keep _ _ _ st3 fun b _ o e => by rw [hs4]; exact pushCells_keeps _ _ _ _ (Heap.get?_push_of_some _ e)
  have stat : ∀ {σ' : L2.St} {H' : Hp} {s' : Shared}, L2.Inv (Blk X scope s3 H3 C cl fp) [] σ' H' s' → (∀ b ∈ fp, H' b = none) → ∀ b ∈ fp, FpOk (Blk X scope s3 H3 C cl fp) [] H' b := by
    intro σ' H' s' I' hn b hb
    exact ⟨hn b hb, (I'.ok.exf b hb).1, I'.ok.exfs b hb, .inl hb, fun x c e => (I'.ok.exf b hb).2 x c e, fun p hp => absurd (show p ∈ ([] : List (Addr × Obj)) ++ [] from hp) (by simp)⟩
  have loop : codeAny (model X.prog X.w) X.A (.compLoop (.DictComp kx vx [⟨tg, iter, ifs, 0⟩] scope pos) 0 (.ref it) (.ref D) (compEnvC scope cl C X.env)) (compPost (model X.prog X.w) X.A X.xe use Qf (.ref D) C) s4 := by
    refine compLoop_anyD (fun n s' => ∃ i H', L2.Inv (Blk X scope s3 H3 C cl fp) [] (wipe σ (own.map (·.2))) H' s' ∧ tn i s'.heap ∧ (∀ b ∈ fp, H' b = none) ∧ W i n H') ?_ m0 ⟨0, H3, I4, st4, nfp, w0⟩
    rintro n s5 ⟨i, H5, I5, st5, n5, w5⟩
    rcases turn i n H5 w5 with ⟨stop, qq⟩ | ⟨go, Nx, hNx, step⟩
    · refine thnF (T.done (Blk X scope s3 H3 C cl fp) rfl rfl rfl calm i [] s5 _ H5 (fun _ _ => False) I5 (stat I5 n5) st5 stop) ?_
      rintro r s6 ⟨rfl, I6⟩
      have I7 : L2.Inv X pins σ H5 s6 := I3.call' (ch := fp) I6.os I6.base I6.hok I6.bare fun b hb => ⟨(f3 b hb).1.2.2.2.1, (f3 b hb).1.2.1, (f3 b hb).1.2.2.2.2.1, (f3 b hb).1.2.2.2.2.2⟩
      have nC : H5 C = none := I6.free
      obtain ⟨m, hn, _⟩ := I6.loc
      exact back D C s6 m H5 I7 qq hn (I3.fpOk (Nat.le_of_eq hC.symm) nC)
    · refine thnF (T.item (Blk X scope s3 H3 C cl fp) rfl rfl rfl calm i [] s5 _ H5 (fun _ _ => False) I5 (stat I5 n5) st5 go) ?_
      rintro r s6 ⟨u, rfl, h6⟩
      refine thnF h6 ?_
      rintro _ s7 ⟨x, H7, I7, r7, y7, st7, n7⟩
      refine thnF (pg.run _ s7 _ H7 x u _ (I7.pinned (stat I7 n7) (T.obj _ _ st7)) r7 (step x H7 y7)) ?_
      rintro _ s8 ⟨σ8, H8, I8, hw8, q8⟩
      refine thnF (pt.run _ s8 σ8 H8 _ I8 q8) ?_
      rintro b s9 ⟨H9, I9, q9⟩
      have fin : ∀ {s' : Shared} {H' : Hp}, L2.Inv (Blk X scope s3 H3 C cl fp) ([] ++ pinsAt fp s7.heap) σ8 H' s' → Nx H' → ∃ m, m < n ∧ ∃ i H', L2.Inv (Blk X scope s3 H3 C cl fp) [] (wipe σ (own.map (·.2))) H' s' ∧ tn i s'.heap ∧ (∀ b ∈ fp, H' b = none) ∧ W i m H' := by
        intro s' H' I' nx
        obtain ⟨m', lt, w'⟩ := hNx H' nx
        have pin : ∀ b ∈ fp, ∀ o, s7.heap.get? b = some o → s'.heap.get? b = some o ∧ H' b = none := by
          intro b hb o e
          have z := I'.pin (b, o) (List.mem_append_right _ (List.mem_append_right _ (mem_pinsAt hb e)))
          exact ⟨z.1, z.2.1⟩
        refine ⟨m', lt, i + 1, H', (I'.unpinned (pins := [])).weak (by rw [← hw8, wipe_length]) (fun j v e => ?_), T.keep _ _ _ st7 fun b hb o e => (pin b hb o e).1, fun b hb => ?_, w'⟩
        · rw [← hw8] at e
          exact (wipe_some e).1
        · obtain ⟨o, e, _⟩ := T.obj _ _ st7 b hb
          exact (pin b hb o e).2
      cases b with
      | false =>
        simp only [Bool.false_eq_true, if_false] at q9 ⊢
        exact fin I9 q9
      | true =>
        simp only [if_true] at q9 ⊢
        refine thnF (pk.run _ s9 σ8 H9 _ I9 q9) ?_
        rintro z s10 ⟨yk, H10, I10, r10, q10⟩
        refine thnF (pv.run _ s10 σ8 H10 _ I10 q10) ?_
        rintro z2 s11 ⟨yv, H11, I11, r11, a, k, xs, rfl, rfl, hn, nk, dk, lz, nx⟩
        cases r10
        cases r11
        exact nd_dictSet (X := Blk X scope s3 H3 C cl fp) (by show X.A.units + 8 < cLine; omega) I11 hn nk dk lz fun s12 I12 => fin I12 nx
  exact codeAny_compStart_dict loop (T.self X.A 0 _ _ _ st4 loop)
end
end My

set_option Elab.async false
set_option linter.all false
set_option maxRecDepth 100000
set_option maxHeartbeats 2000000
namespace My
open PySem PySem.Spec PyProof.Rows L2 PySem.SeqAt PySem.W
section
variable {X : Cx} {kx vx tg iter : Expr} {ifs : List Expr} {scope : Scope} {own : List (Str × Nat)} {pos spos py : Pos} {wi : TI} {g : TG} {tt : TT} {tk tv : TE} {i : Nat} {y : Str}
theorem sw_dict {gs : List Comprehension} {l : Nat} {env : Env} (hk : env.scope.kind = .function) (hy : env.scope.names.lookup y = some .local) (hl : (py.line == pos.line) = true) (ha : (scope.names.any fun (n, k) => n == y && (k == .local || k == .cell)) = false) :
    swapsWith (.DictComp kx vx gs scope pos) (some (.Name y py)) l env = pure true := by
  have k1 : env.kindOf y = some .local := hy
  have k2 : env.blockKind = .function := by
    unfold Env.blockKind
    rw [hk]
    rfl
  unfold swapsWith
  simp only [k2, k1, ha, Expr.pos, hl]
  rfl
/-- as a value -/
theorem pe_dcN (hu : X.A.units + 64 < cLine) (calm : X.calm = true) (nd : X.N.Nodup) (hi : PI X tg iter wi) (ok : BlkOk X.N X.env.scope scope own)
    (hg : ∀ s H C cl fp, PG (Blk X scope s H C cl fp) tg g) (ht : ∀ s H C cl fp, PTs (Blk X scope s H C cl fp) ifs tt) (hk : ∀ s H C cl fp, PE (Blk X scope s H C cl fp) kx tk) (hv : ∀ s H C cl fp, PE (Blk X scope s H C cl fp) vx tv)
    (fold : ∀ x, foldedSetIterable iter X.env x = pure x := by intro _; rfl) : PE X (.DictComp kx vx [⟨tg, iter, ifs, 0⟩] scope pos) (tDcN X.prog X.w wi g tt tk tv (own.map (·.2))) := by
  constructor
  intro pins s σ H Q I h
  rw [arm_eval_DictComp]
  refine dcN_core hu calm nd I hi ok hg ht hk hv fold h ?_
  rintro D C s' m H' I' q hn ⟨f0, f1, f2, f3, f4, f5⟩
  exact ⟨m, hn, fun h2 sb => ⟨.ref D, H', I'.turned (t' := s'.toks) (fun b o hb e => (sb.2 b hb).trans e) f0 f1 f3 f4 f5, rfl, q⟩⟩
/-- name = {..} on one line, the name a local -/
theorem ps_setDcN (hu : X.A.units + 64 < cLine) (calm : X.calm = true) (nd : X.N.Nodup) (hy : X.N[i]? = some y) (hyl : X.env.scope.names.lookup y = some .local) (hsw : swapsWith (.DictComp kx vx [⟨tg, iter, ifs, 0⟩] scope pos) (some (.Name y py)) spos.line X.env = pure true)
    (hi : PI X tg iter wi) (ok : BlkOk X.N X.env.scope scope own)
    (hg : ∀ s H C cl fp, PG (Blk X scope s H C cl fp) tg g) (ht : ∀ s H C cl fp, PTs (Blk X scope s H C cl fp) ifs tt) (hk : ∀ s H C cl fp, PE (Blk X scope s H C cl fp) kx tk) (hv : ∀ s H C cl fp, PE (Blk X scope s H C cl fp) vx tv)
    (fold : ∀ x, foldedSetIterable iter X.env x = pure x := by intro _; rfl) : PS X (.Assign [.Name y py] (.DictComp kx vx [⟨tg, iter, ifs, 0⟩] scope pos) spos) (tAsg (tDcN X.prog X.w wi g tt tk tv (own.map (·.2))) (gName i)) := by
  constructor
  intro pins s σ H D I h
  rw [exec_Assign_Name_used _ _ _ _ hsw]
  refine wpAny_bind (wpAny_standAt (wpAny_bind ?_))
  show wpAny _ X.A (do let _ ← comprehension (.DictComp kx vx [⟨tg, iter, ifs, 0⟩] scope pos) scope X.env (firstIterPos [⟨tg, iter, ifs, 0⟩] pos) newDict false (eval iter X.env) (some (assign (.Name y py) X.env))) _ _ s
  have h2 : tDcN X.prog X.w wi g tt tk tv (own.map (·.2)) σ H (fun x H1 => gName i x σ H1 D.nx) := h
  refine wpAny_bind (thn (dcN_core (Qf := fun _ s' => SP X pins D .next s') hu calm nd I hi ok hg ht hk hv fold h2 ?_) fun _ s' hq => wpAny_pure (wpAny_pure hq))
  rintro L C s' m H' I' q hn ⟨f0, f1, f2, f3, f4, f5⟩
  show wpAny _ _ (assign (.Name y py) X.env (.ref L)) _ _ _
  refine wpAny_assign_Name (store_ok2 (v := V.ref L) I' nd hy (.inl hyl) rfl ?_ (.inr hyl))
  rintro s2 I2 ⟨a, sb, ha⟩
  have ne : C ≠ a := ha.elim (fun z => by rw [z]; exact f1) fun z e => f4 y a z e.symm
  exact ⟨m, hn.sameBut sb ne, fun h3 sb3 => ⟨_, H', I2.turned (t' := s2.toks) (fun b o hb e => (sb3.2 b hb).trans e) f0 f1 f3 f4 f5, q⟩⟩
end
/-- a walk's turns -/
theorem dcN_it {P : Program} {w : World} {J : It} {n : Nat} {G : Hp → Prop} {Y : Nat → Hp → V → Hp → Prop} (wk : Walk J n G Y) {g : TG} {tt : TT} {tk tv : TE} {vs : List Nat} {σ : L2.St} {H1 : Hp} {D : Addr} {Qd : Hp → Prop} (Pv : Nat → Hp → Prop) (h0 : Pv 0 (upd H1 D (.dK []))) (hG : ∀ i H, i ≤ n → Pv i H → G H)
    (hs : ∀ i x H H', i < n → Pv i H → Y i H x H' → g x (wipe σ vs) H' fun σ2 H2 => wipe σ2 vs = wipe σ vs ∧ tt σ2 H2 fun b H3 => if b = true then tk σ2 H3 fun y H4 => tv σ2 H4 fun z H5 =>
      ∃ a k xs, y = .ref a ∧ z = .bl true ∧ NdAt P w H5 D xs ∧ Nk H5 (.ref a) k ∧ k.depth ≤ 8 ∧ xs.length < sizeLine ∧ Pv (i + 1) (upd H5 D (ND P w D (putN xs k a))) else Pv (i + 1) H3)
    (hd : ∀ H, Pv n H → Qd H) : ∃ W : Nat → Nat → Hp → Prop, (∃ m, W 0 m (upd H1 D (.dK []))) ∧ ∀ i m H', W i m H' → DcStep P w J g tt tk tv vs σ D Qd W i m H' := by
  refine ⟨fun i m H => m = n - i ∧ i ≤ n ∧ Pv i H, ⟨n, by simp, Nat.zero_le _, h0⟩, ?_⟩
  rintro i m H ⟨rfl, hi, p⟩
  have q := hG i H hi p
  by_cases lt : i < n
  · exact .inr ⟨wk.goes i H lt q, Pv (i + 1), fun H' p' => ⟨n - (i + 1), by omega, rfl, lt, p'⟩, fun x H' y => hs i x H H' lt p (wk.yields i H x H' lt q y)⟩
  · obtain rfl : i = n := by omega
    exact .inl ⟨wk.stops H q, hd H p⟩
end My

set_option Elab.async false
set_option linter.all false
set_option maxRecDepth 100000
set_option maxHeartbeats 2000000
/-! Pages as data: their places, how these stand, lists that are put in order. -/
namespace My
open PySem PySem.Spec PyProof.Rows L2 PySem.SeqAt PySem.W
def HomeW (ws : List Int) : Prop := ws.length ≤ 7 ∧ ∀ w ∈ ws, 0 ≤ w ∧ w < 7
/-- what stands behind a page's day -/
inductive Rest : Str → List NestedKey → Prop
  | house {a : Str} {ws : List Int} : Plain a → HomeW ws → Rest "house" [.text a, .tup (ws.map .num)]
  | home {a : Str} {ws : List Int} : Plain a → HomeW ws → Rest "home" [.text a, .tup (ws.map .num)]
  | part {a b : Str} {ws : List Int} : Plain a → Plain b → HomeW ws → Rest "part" [.text a, .text b, .tup (ws.map .num)]
  | mourn {a : Str} {m : Int} : Plain a → 0 ≤ m → m ≤ 60 → Rest "mourn" [.text a, .num m]
  | join {a b : Str} : Plain a → Plain b → Rest "join" [.text a, .text b]
  | ahead {a b : Str} : Plain a → Plain b → Rest "ahead" [.text a, .text b]
  | card {a b : Str} : Plain a → Plain b → Rest "card" [.text a, .text b]
  | visit {a b : Str} : Plain a → Plain b → Rest "visit" [.text a, .text b]
def PgK (k : NestedKey) : Prop := ∃ z d r, k = .tup (.text z :: .num d :: r) ∧ Rest z r ∧ 0 ≤ d ∧ d < 20000
def ixK (z : Str) : Nat := kinds.idxOf z
def place : NestedKey → NestedKey
  | .tup (.text z :: .num d :: r) => .tup [.num d, .num (ixK z), .tup (.text z :: .num d :: r)]
  | k => k
theorem place_eq (z : Str) (d : Int) (r : List NestedKey) : place (.tup (.text z :: .num d :: r)) = .tup [.num d, .num (ixK z), .tup (.text z :: .num d :: r)] := rfl
theorem lt_nums : ∀ ws vs : List Int, ∃ c, ltAll (ws.map .num) (vs.map .num) = some c
  | [], [] => ⟨_, by rw [List.map_nil, ltAll]⟩
  | [], _ :: _ => ⟨true, by rw [List.map_nil, List.map_cons, ltAll]⟩
  | _ :: _, [] => ⟨false, by rw [List.map_nil, List.map_cons, ltAll]⟩
  | a :: ws, b :: vs => by
    rw [List.map_cons, List.map_cons, ltAll]
    split
    · exact lt_nums ws vs
    · exact ⟨_, by rw [ltK]⟩
theorem lt_step {x y : NestedKey} {xs ys : List NestedKey} (h1 : ∃ c, ltK x y = some c) (h2 : ∃ c, ltAll xs ys = some c) : ∃ c, ltAll (x :: xs) (y :: ys) = some c := by
  rw [ltAll]
  split
  · exact h2
  · exact h1
theorem lt_text (a b : Str) : ∃ c, ltK (.text a) (.text b) = some c := ⟨_, by rw [ltK]⟩
theorem lt_num (a b : Int) : ∃ c, ltK (.num a) (.num b) = some c := ⟨_, by rw [ltK]⟩
theorem lt_nil : ∃ c, ltAll [] [] = some c := ⟨_, by rw [ltAll]⟩
theorem lt_home (ws vs : List Int) : ∃ c, ltK (.tup (ws.map .num)) (.tup (vs.map .num)) = some c := by
  rw [ltK]
  exact lt_nums ws vs
theorem rest_lt {z : Str} {r r' : List NestedKey} (h : Rest z r) (h' : Rest z r') : ∃ c, ltAll r r' = some c := by
  have ne : ∀ {a b : String}, (Str.ofString a == Str.ofString b) = false → Str.ofString a = Str.ofString b → False := fun {a b} e z => by rw [z] at e; simp at e
  generalize hz : z = z' at h'
  cases h <;> cases h' <;> first
    | exact lt_step (lt_text _ _) (lt_step (lt_home _ _) lt_nil)
    | exact lt_step (lt_text _ _) (lt_step (lt_text _ _) (lt_step (lt_home _ _) lt_nil))
    | exact lt_step (lt_text _ _) (lt_step (lt_num _ _) lt_nil)
    | exact lt_step (lt_text _ _) (lt_step (lt_text _ _) lt_nil)
    | exact (ne (by decide +kernel) hz).elim
theorem ixK_inj {z z' : Str} {r r' : List NestedKey} (h : Rest z r) (h' : Rest z' r') (e : ixK z = ixK z') : z = z' := by
  cases h <;> cases h' <;> first | rfl | exact absurd e (by decide +kernel)
/-- each two pages' places can be compared -/
theorem place_lt {k k' : NestedKey} (h : PgK k) (h' : PgK k') : ∃ c, ltK (place k) (place k') = some c := by
  obtain ⟨z, d, r, rfl, hr, _⟩ := h
  obtain ⟨z', d', r', rfl, hr', _⟩ := h'
  rw [place_eq, place_eq, ltK]
  by_cases e : ixK z = ixK z'
  · have ez := ixK_inj hr hr' e
    subst ez
    exact lt_step (lt_num _ _) (lt_step (lt_num _ _) (lt_step (by rw [ltK]; exact lt_step (lt_text _ _) (lt_step (lt_num _ _) (rest_lt hr hr'))) lt_nil))
  · rw [ltAll]
    split
    · rw [ltAll, if_neg (fun q => e (by injection q with q; exact Int.ofNat.inj q))]
      exact lt_num _ _
    · exact lt_num _ _
theorem place_depth {k : NestedKey} (h : PgK k) : (place k).depth ≤ 50 ∧ k.depth ≤ 8 := by
  obtain ⟨z, d, r, rfl, hr, _⟩ := h
  have hn : ∀ ws : List Int, NestedKey.depthAll (ws.map .num) = 0 := fun ws => by
    induction ws with
    | nil => rw [List.map_nil, NestedKey.depthAll]
    | cons a l ih => rw [List.map_cons, NestedKey.depthAll, ih, NestedKey.depth]; rfl
  have hd : NestedKey.depthAll r ≤ 2 := by
    cases hr <;> simp only [NestedKey.depthAll, NestedKey.depth, hn] <;> decide
  rw [place_eq]
  simp only [NestedKey.depthAll, NestedKey.depth]
  omega
theorem place_head {k : NestedKey} (h : PgK k) : ∃ i r, place k = .tup (.num i :: r) := by
  obtain ⟨z, d, r, rfl, _⟩ := h
  exact ⟨_, _, rfl⟩
theorem place_inj {k k' : NestedKey} (h : PgK k) (h' : PgK k') (e : place k = place k') : k = k' := by
  obtain ⟨z, d, r, rfl, _⟩ := h
  obtain ⟨z', d', r', rfl, _⟩ := h'
  rw [place_eq, place_eq] at e
  injection e with e
  simp only [List.cons.injEq] at e
  exact e.2.2.1
end My

set_option Elab.async false
set_option linter.all false
set_option maxRecDepth 100000
set_option maxHeartbeats 2000000
namespace My
open PySem PySem.Spec PyProof.Rows L2 PySem.SeqAt PySem.W
theorem text_total {x y : Str} (h1 : ¬ x.cps.toList < y.cps.toList) (h2 : ¬ y.cps.toList < x.cps.toList) : x = y :=
  str_of_cps (strKind.total _ _ (decide_eq_false h1) (decide_eq_false h2))
theorem text_asym {x y : Str} (h1 : x.cps.toList < y.cps.toList) (h2 : y.cps.toList < x.cps.toList) : False := by
  have := strKind.trans _ _ _ (decide_eq_true h1) (decide_eq_true h2)
  rw [strKind.irrefl] at this
  cases this
mutual
theorem flipK : ∀ (x y : NestedKey) (c : Bool), x ≠ y → ltK x y = some c → ltK y x = some (!c)
  | .num i, .num j, c, ne, e => by
    rw [ltK] at e ⊢
    cases e
    have : i ≠ j := fun z => ne (by rw [z])
    by_cases h : i < j
    · rw [decide_eq_true h, decide_eq_false (by omega)]; rfl
    · rw [decide_eq_false h, decide_eq_true (by omega)]; rfl
  | .text x, .text y, c, ne, e => by
    rw [ltK] at e ⊢
    cases e
    by_cases h : x.cps.toList < y.cps.toList
    · rw [decide_eq_true h, decide_eq_false (fun h2 => text_asym h h2)]; rfl
    · rw [decide_eq_false h, decide_eq_true (Classical.byContradiction fun h2 => ne (by rw [text_total h h2]))]; rfl
  | .tup xs, .tup ys, c, ne, e => by
    rw [ltK] at e ⊢
    exact flipAll xs ys c (fun z => ne (by rw [z])) e
  | .none, y, c, ne, e => by cases y <;> simp [ltK] at e
  | .num i, .none, c, ne, e => by simp [ltK] at e
  | .num i, .text _, c, ne, e => by simp [ltK] at e
  | .num i, .tup _, c, ne, e => by simp [ltK] at e
  | .text i, .none, c, ne, e => by simp [ltK] at e
  | .text i, .num _, c, ne, e => by simp [ltK] at e
  | .text i, .tup _, c, ne, e => by simp [ltK] at e
  | .tup i, .none, c, ne, e => by simp [ltK] at e
  | .tup i, .num _, c, ne, e => by simp [ltK] at e
  | .tup i, .text _, c, ne, e => by simp [ltK] at e
theorem flipAll : ∀ (xs ys : List NestedKey) (c : Bool), xs ≠ ys → ltAll xs ys = some c → ltAll ys xs = some (!c)
  | [], [], c, ne, e => absurd rfl ne
  | [], y :: ys, c, ne, e => by
    rw [ltAll] at e
    cases e
    rw [ltAll]
    rfl
  | x :: xs, [], c, ne, e => by
    rw [ltAll] at e
    cases e
    rw [ltAll]
    rfl
  | x :: xs, y :: ys, c, ne, e => by
    rw [ltAll] at e ⊢
    by_cases h : x = y
    · subst h
      rw [if_pos rfl] at e ⊢
      exact flipAll xs ys c (fun z => ne (by rw [z])) e
    · rw [if_neg h] at e
      rw [if_neg (fun z => h z.symm)]
      exact flipK x y c h e
end
/-- the first page stands ahead of the other one -/
def ahead (k k' : NestedKey) : Bool := lexT (toks (place k)) (toks (place k'))
theorem ahead_lt {k k' : NestedKey} (h : PgK k) (h' : PgK k') : ltK (place k) (place k') = some (ahead k k') := by
  obtain ⟨c, e⟩ := place_lt h h'
  obtain ⟨i, r, e1⟩ := place_head h
  obtain ⟨i', r', e2⟩ := place_head h'
  have e3 := e
  rw [e1, e2, ltK] at e3
  have := lex_tup e3
  rw [← e1, ← e2] at this
  rw [e]
  exact congrArg some this.symm
theorem ahead_self (k : NestedKey) : ahead k k = false := lex_irrefl _
theorem ahead_trans {a b c : NestedKey} (h1 : ahead a b = true) (h2 : ahead b c = true) : ahead a c = true := lex_trans _ _ _ h1 h2
theorem ahead_flip {k k' : NestedKey} (h : PgK k) (h' : PgK k') (ne : k ≠ k') : ahead k' k = !ahead k k' := by
  have h1 := ahead_lt h h'
  have h2 := ahead_lt h' h
  rw [flipK _ _ _ (fun z => ne (place_inj h h' z)) h1] at h2
  exact (Option.some.inj h2).symm
/-- strictly rising by places -/
abbrev Ord (l : List NestedKey) : Prop := l.Pairwise fun a b => ahead a b = true
theorem ord_unique : ∀ {l m : List NestedKey}, Ord l → Ord m → (∀ k, k ∈ l ↔ k ∈ m) → l = m
  | [], [], _, _, _ => rfl
  | [], b :: _, _, _, h => absurd ((h b).mpr (.head _)) (by simp)
  | a :: _, [], _, _, h => absurd ((h a).mp (.head _)) (by simp)
  | a :: l, b :: m, hl, hm, h => by
    have ea : a = b := by
      rcases List.mem_cons.mp ((h a).mp (.head _)) with e | e
      · exact e
      · rcases List.mem_cons.mp ((h b).mpr (.head _)) with e2 | e2
        · exact e2.symm
        · have h1 := (List.pairwise_cons.mp hm).1 a e
          have h2 := (List.pairwise_cons.mp hl).1 b e2
          have := ahead_trans h1 h2
          rw [ahead_self] at this
          cases this
    subst ea
    have na : ∀ {n : List NestedKey}, Ord (a :: n) → a ∉ n := fun hn z => by
      have := (List.pairwise_cons.mp hn).1 a z
      rw [ahead_self] at this
      cases this
    rw [ord_unique (List.pairwise_cons.mp hl).2 (List.pairwise_cons.mp hm).2 fun k => ⟨fun hk => ?_, fun hk => ?_⟩]
    · rcases List.mem_cons.mp ((h k).mp (.tail _ hk)) with e | e
      · subst e; exact absurd hk (na hl)
      · exact e
    · rcases List.mem_cons.mp ((h k).mpr (.tail _ hk)) with e | e
      · subst e; exact absurd hk (na hm)
      · exact e
end My

set_option Elab.async false
set_option linter.all false
set_option maxRecDepth 100000
set_option maxHeartbeats 2000000
namespace My
open PySem PySem.Spec PyProof.Rows L2 PySem.SeqAt PySem.W
theorem zip_two (xs : List (NestedKey × Addr)) : (xs.map fun p => V.ref p.2).zip (xs.map (·.1)) = xs.map fun p => (V.ref p.2, p.1) := by
  induction xs with
  | nil => rfl
  | cons p xs ih => rw [List.map_cons, List.map_cons, List.map_cons, List.zip_cons_cons, ih]
theorem nk_pairs {H : Hp} : ∀ {l : List (V × NestedKey)}, (∀ b ∈ l, Nk H b.1 b.2) → NkAll H (l.map Prod.fst) (l.map Prod.snd)
  | [], _ => .nil
  | b :: l, h => .cons (h b (.head _)) (nk_pairs fun c hc => h c (.tail _ hc))
/-- the keys of such a dict, sorted by places -/
theorem sortD_ok {H : Hp} {F : NestedKey → NestedKey} {xs : List (NestedKey × Addr)} (hF : ∀ p ∈ xs, ∀ q ∈ xs, lexT (toks (F p.1)) (toks (F q.1)) = ahead p.1 q.1) (hk : ∀ p ∈ xs, Nk H (.ref p.2) p.1) (hp : ∀ p ∈ xs, PgK p.1) (nd : (xs.map (·.1)).Nodup) :
    ∃ ks, NkAll H (sortD F xs) ks ∧ Ord ks ∧ ∀ k, k ∈ ks ↔ k ∈ xs.map (·.1) := by
  have pm := List.mergeSort_perm ((xs.map fun p => V.ref p.2).zip (xs.map (·.1))) (leF F)
  have pw := sort_pairwise (sortLe_total (listOrd itemOrd) false fun b : V × NestedKey => toks (F b.2)) ((xs.map fun p => V.ref p.2).zip (xs.map (·.1)))
  unfold sortD
  change List.Pairwise (fun a b => leF F a b = true) (((xs.map fun p => V.ref p.2).zip (xs.map (·.1))).mergeSort (leF F)) at pw
  generalize ((xs.map fun p => V.ref p.2).zip (xs.map (·.1))).mergeSort (leF F) = l at pm pw ⊢
  rw [zip_two] at pm
  have mem : ∀ b ∈ l, ∃ p ∈ xs, b = (V.ref p.2, p.1) := fun b hb => by
    obtain ⟨p, hp, e⟩ := List.mem_map.mp (pm.mem_iff.mp hb)
    exact ⟨p, hp, e.symm⟩
  have pk : (l.map Prod.snd).Perm (xs.map (·.1)) := by
    have := pm.map Prod.snd
    rwa [List.map_map] at this
  refine ⟨l.map Prod.snd, nk_pairs fun b hb => ?_, ?_, fun k => pk.mem_iff⟩
  · obtain ⟨p, hp, rfl⟩ := mem b hb
    exact hk p hp
  · have nl : (l.map Prod.snd).Nodup := pk.nodup_iff.mpr nd
    have nl2 : l.Pairwise fun a b => a.2 ≠ b.2 := List.pairwise_map.mp nl
    refine List.pairwise_map.mpr ((pw.and nl2).imp_of_mem fun {a b} ha hb h => ?_)
    obtain ⟨p, hp1, rfl⟩ := mem a ha
    obtain ⟨q, hq1, rfl⟩ := mem b hb
    have h1 : (!lexT (toks (F q.1)) (toks (F p.1))) = true := h.1
    rw [hF q hq1 p hp1] at h1
    have := ahead_flip (hp p hp1) (hp q hq1) h.2
    rw [this] at h1
    simpa using h1
theorem putN_keys (xs : List (NestedKey × Addr)) (k : NestedKey) (a : Addr) : (∀ x, x ∈ (putN xs k a).map (·.1) ↔ x = k ∨ x ∈ xs.map (·.1)) ∧ ((xs.map (·.1)).Nodup → ((putN xs k a).map (·.1)).Nodup) ∧ (putN xs k a).length ≤ xs.length + 1 := by
  unfold putN
  split
  · rename_i h
    exact ⟨fun x => ⟨.inr, fun e => e.elim (fun z => by rw [z]; exact h) id⟩, id, Nat.le_succ _⟩
  · rename_i h
    refine ⟨fun x => ?_, fun nd => ?_, by rw [List.length_append]; exact Nat.le_refl _⟩
    · rw [List.map_append, List.mem_append]
      constructor
      · rintro (e | e)
        · exact .inr e
        · exact .inl (by simpa using e)
      · rintro (e | e)
        · exact .inr (by simpa using e)
        · exact .inl e
    · rw [List.map_append, List.nodup_append]
      refine ⟨nd, by simp, fun x hx y hy => ?_⟩
      obtain rfl : y = k := by simpa using hy
      exact fun z => h (by rw [← z]; exact hx)
theorem putN_mem {xs : List (NestedKey × Addr)} {k : NestedKey} {a : Addr} {p : NestedKey × Addr} (h : p ∈ putN xs k a) : p ∈ xs ∨ p = (k, a) := by
  unfold putN at h
  split at h
  · exact .inl h
  · rcases List.mem_append.mp h with h | h
    · exact .inl h
    · exact .inr (List.mem_singleton.mp h)
end My

set_option Elab.async false
set_option linter.all false
set_option maxRecDepth 100000
set_option maxHeartbeats 2000000
/-! The end of a law whose promise wants that no repr is under way, with tables of codes. -/
namespace GU
open PySem PySem.Spec PyProof.Rows L2
/-- what is tracked at the head: the script's list (where it is not the text's own) and the tables -/
def headH (own : Bool) (a : Addr) (T : List Addr) (o : Obj) (xs : List V) : Hp := fun b =>
  if b ∈ T then some (.tbl #[]) else if b = a ∧ own = false then some (.frz o (.lst xs)) else none
section
variable {own : Bool} {a b : Addr} {T : List Addr} {o : Obj} {xs : List V}
theorem head_tbl (h : b ∈ T) : headH own a T o xs b = some (.tbl #[]) := if_pos h
theorem head_scr (h : a ∉ T) (e : own = false) : headH own a T o xs a = some (.frz o (.lst xs)) := (if_neg h).trans (if_pos ⟨rfl, e⟩)
theorem head_cases (b : Addr) : (b ∈ T ∧ headH own a T o xs b = some (.tbl #[])) ∨ (b ∉ T ∧ b = a ∧ own = false ∧ headH own a T o xs b = some (.frz o (.lst xs))) ∨ (b ∉ T ∧ ¬ (b = a ∧ own = false) ∧ headH own a T o xs b = none) := by
  by_cases h : b ∈ T
  · exact .inl ⟨h, if_pos h⟩
  · by_cases k : b = a ∧ own = false
    · exact .inr (.inl ⟨h, k.1, k.2, (if_neg h).trans (if_pos k)⟩)
    · exact .inr (.inr ⟨h, k, (if_neg h).trans (if_neg k)⟩)
end
theorem law_callG {P : Program} {w : World} {K : PySem.W.Frag} {mg mb : Str → Option Value} {CX : CXT} {k : Nat} {fa a : Addr} {cs : List (Addr × Addr)} {fd : FuncData} {x : Str} {sp : Sp} {s : Shared} {vs : List Value} {ns : List Int}
    (inK : K.In s.heap) (glob : s.heap.Ns mainGlobals mg) (bltn : s.heap.Ns builtinsNs mb) (boot : ∀ x : Str, x ≠ "__name__" → mb x = bootBuiltins x) (lim : s.heap.NoLimit) (gens : s.gens = #[])
    (tabs : ∀ p ∈ cs, s.heap.get? p.2 = some { cls := .none, data := .fields #[] }) (far : ∀ p ∈ cs, K.lookup p.2 = none) (heads : ∀ p ∈ cs, PySem.W.CodeHd s.heap p.1 p.2)
    (bmod : ∃ (bm : Addr) (ob : Obj), mg "__builtins__" = some (.ref bm) ∧ bm ≠ builtinsNs ∧ s.heap.get? bm = some ob ∧ ob.cls = .type "module" ∧ ob.dict = some builtinsNs ∧ ob.data = .plain)
    (scr : s.heap.get? a = some { cls := .type "list", data := .seq vs.toArray }) (nums : IntsAre vs ns) (few : ns.length ≤ sizeLine) (room : Room k callerA)
    (F : ∀ base : Heap, K.In base → base.Ns mainGlobals mg → (∀ p ∈ cs, LamX.TabB base mg p.1 p.2) → FnG P w K mg base CX k fa fd [x] sp) (binds : ∀ (s : Shared) (u : Value), BindsTo s fd ⟨[u], []⟩ [(x, u)])
    (want : ∀ H : Hp, (∀ p ∈ cs, H p.2 = some (.tbl #[])) → SqL K H a (ns.map V.int) → sp [.ref a] H (fun v _ => v = .bl true) fun _ _ _ => False)
    (calm : ∀ H e s', CX [] H s (fun _ _ _ => False) e s' → False) :
    codeAny (model P w) callerA (.call (.ref fa) ⟨[.ref a], []⟩) (fun r s' => r = .ok (.ret (.bool true)) ∧ OldK s.heap s'.heap ∧ s'.os = s.os ∧ AllBare s'.gens) s := by
  let T := cs.map (·.2)
  let oA : Obj := { cls := .type "list", data := .seq vs.toArray }
  have tabT : ∀ b ∈ T, s.heap.get? b = some { cls := .none, data := .fields #[] } := by
    intro b hb
    obtain ⟨p, hp, rfl⟩ := List.mem_map.mp hb
    exact tabs p hp
  have farT : ∀ b ∈ T, K.lookup b = none := by
    intro b hb
    obtain ⟨p, hp, rfl⟩ := List.mem_map.mp hb
    exact far p hp
  have inT : ∀ p ∈ cs, p.2 ∈ T := fun p hp => List.mem_map.mpr ⟨p, hp, rfl⟩
  have apart : a ∉ T := fun z => by
    have q := (tabT a z).symm.trans scr
    cases congrArg Obj.data (Option.some.inj q)
  obtain ⟨own, hown⟩ : ∃ own : Bool, own = (K.lookup a).isSome := ⟨_, rfl⟩
  generalize hH : headH own a T oA (ns.map V.int) = H
  have cases3 := fun b => hH ▸ head_cases (own := own) (a := a) (T := T) (o := oA) (xs := ns.map V.int) b
  have vals := vals_ints nums
  have read : SqL K H a (ns.map V.int) := by
    cases e : K.lookup a with
    | none =>
      rw [e] at hown
      exact .inl (.inr ⟨oA, hH ▸ head_scr apart hown⟩)
    | some o =>
      obtain rfl : o = oA := Option.some.inj ((inK a o e).symm.trans scr)
      exact .inr ⟨oA, vs.toArray, _, e, rfl, rfl, rfl, by rw [List.size_toArray, nums.length]; exact few, by simpa using vals⟩
  have hok : HOk P w H s.heap := by
    intro b u e
    rcases cases3 b with ⟨hb, z⟩ | ⟨_, rfl, _, z⟩ | ⟨_, _, z⟩
    · cases z.symm.trans e
      exact tabT b hb
    · cases z.symm.trans e
      exact ⟨scr, by rw [List.length_map]; exact few, vs, _, vals, scr⟩
    · cases z.symm.trans e
  have clear : ∀ {b : Addr} {o : Obj}, s.heap.get? b = some o → (∀ vs n, o.data ≠ .seq vs n) → o.data ≠ .fields #[] → H b = none := by
    intro b o e h1 h2
    rcases cases3 b with ⟨hb, _⟩ | ⟨_, rfl, _, _⟩ | ⟨_, _, z⟩
    · cases (tabT b hb).symm.trans e
      exact (h2 rfl).elim
    · cases scr.symm.trans e
      exact (h1 _ _ rfl).elim
    · exact z
  have names : ∀ {b : Addr} {m : Str → Option Value}, s.heap.Ns b m → (hidT s.heap H).Ns b m := by
    rintro b m ⟨o, es, ep, e, d, r⟩
    exact ⟨o, es, ep, hidT_get e (clear e (fun vs n z => by rw [d] at z; cases z) fun z => by rw [d] at z; cases z), d, r⟩
  have inB : K.In (hidT s.heap H) := by
    intro b o e
    refine hidT_get (inK b o e) ?_
    rcases cases3 b with ⟨hb, _⟩ | ⟨_, rfl, ho, _⟩ | ⟨_, _, z⟩
    · cases (farT b hb).symm.trans e
    · rw [hown, e] at ho
      cases ho
    · exact z
  have md : L2.Mod K mg (hidT s.heap H) := ⟨inB, names glob, ⟨mb, names bltn, boot⟩, lim.imp fun mc h => ⟨names h.1, h.2⟩⟩
  have tb : ∀ p ∈ cs, LamX.TabB (hidT s.heap H) mg p.1 p.2 := by
    intro p hp
    obtain ⟨og, eg, pg, ag, dg, rg⟩ := id glob
    refine ⟨?_, ?_, fun z => ?_⟩
    · obtain ⟨o, us, file, tf, flags, tg, inF, text, tt, e1, r1, r2, r3, rest⟩ := heads p hp
      refine ⟨o, us, file, tf, flags, tg, inF, text, tt, hidT_get e1 (clear e1 (fun vs n z => ?_) fun z => ?_), r1, r2, r3, rest⟩
      · cases r2.symm.trans z
      · cases r2.symm.trans z
        simp at r3
    · obtain ⟨bm, ob, b1, b2, b3, b4, b5, b6⟩ := bmod
      refine ⟨bm, ob, b1, b2, fun q => ?_, fun q => ?_, hidT_get b3 (clear b3 (fun vs n z => ?_) fun z => ?_), b4, b5, b6⟩
      · rw [q] at b3
        cases ag.symm.trans b3
        cases dg.symm.trans b6
      · rw [q] at b3
        cases (tabs p hp).symm.trans b3
        cases b6
      · cases b6.symm.trans z
      · cases b6.symm.trans z
    · rw [z] at ag
      cases (tabs p hp).symm.trans ag
      cases dg
  have env : Env0 P w K mg (hidT s.heap H) callerA [] s H :=
    { frames := rfl, mod := md, bs := fun b o e => of_hidT e, bsz := Nat.le_of_eq (hidT_size _ _), funs := trivial, frf := fun b hb => absurd (show b ∈ ([] : List Addr) from hb) (by simp), hok := hok, bare := .of_eq gens }
  have hT : ∀ p ∈ cs, H p.2 = some (.tbl #[]) := fun p hp => hH ▸ head_tbl (inT p hp)
  refine codeAny_mono ((F _ inB (names glob) tb).go callerA rfl [] s H ⟨[.ref a], []⟩ [.ref a] [.ref a] _ _ room env (binds s (.ref a)) (.cons rfl .nil) (want H hT read)) ?_
  intro r s' h
  match r, h with
  | .error e, h => exact (calm H e s' h).elim
  | .ok (.ret u), h =>
    obtain ⟨v, H', os, bare, un, hok', rel, q⟩ := h
    obtain rfl : v = .bl true := q
    obtain rfl : u = Value.bool true := rel
    have same : ∀ b o, b ∉ T → s.heap.get? b = some o → s'.heap.get? b = some o := by
      intro b o nb e
      rcases cases3 b with ⟨hb, _⟩ | ⟨_, rfl, _, z⟩ | ⟨_, _, z⟩
      · exact absurd hb nb
      · have e2 := (hok' b _ (un.frzs b _ _ z)).1
        cases scr.symm.trans e
        exact e2
      · exact un.keep b o e z (fun z => absurd (show b ∈ ([] : List Addr) from z) (by simp)) (by simp)
    have more : ∀ p ∈ cs, ∃ ps : Array Value, s'.heap.get? p.2 = some { cls := .none, data := .fields ps } := by
      intro p hp
      obtain ⟨ps, z⟩ := un.tbls p.2 #[] (hT p hp)
      exact ⟨_, hok' p.2 _ z⟩
    refine ⟨rfl, ⟨fun b o e => ?_, fun b o e => ?_⟩, os, bare⟩
    all_goals
      by_cases hb : b ∈ T
      case neg => first | exact .inl (same b o hb e) | exact ⟨o, same b o hb e⟩
      obtain ⟨p, hp, rfl⟩ := List.mem_map.mp hb
      obtain ⟨ps, hm⟩ := more p hp
    · cases (tabs p hp).symm.trans e
      exact .inr (.inl ⟨((heads p hp).tab (tabs p hp)).isCodeTable, rfl, #[], ps, rfl, by rw [Array.empty_append]; exact hm⟩)
    · exact ⟨_, hm⟩
/-- what is known of the law's promise at the head's heap -/
def LawAtG (l : PySem.W.OpenLaw) (w : World) (K : PySem.W.Frag) (CX : CXT) (k n : Nat) (x : Str) (mg : Str → Option Value) (fa : Addr) (h : Heap) : Prop :=
  ∃ (fd : FuncData) (cs : List (Addr × Addr)) (sp : Sp), (∀ p ∈ cs, h.get? p.2 = some { cls := .none, data := .fields #[] }) ∧ (∀ p ∈ cs, K.lookup p.2 = none) ∧ (∀ p ∈ cs, PySem.W.CodeHd h p.1 p.2) ∧ (∀ (s : Shared) (u : Value), BindsTo s fd ⟨[u], []⟩ [(x, u)]) ∧
    (∀ (H : Hp) (a : Addr) (ns : List Int), ns.length ≤ n → (∀ p ∈ cs, H p.2 = some (.tbl #[])) → SqL K H a (ns.map V.int) → sp [.ref a] H (fun v _ => v = .bl true) fun _ _ _ => False) ∧
    ∀ base : Heap, K.In base → base.Ns mainGlobals mg → (∀ p ∈ cs, LamX.TabB base mg p.1 p.2) → FnG l.prog w K mg base CX k fa fd [x] sp
theorem walk_G {l : PySem.W.OpenLaw} {n k : Nat} {q : Program} {loose : List Str} {XP : (Str → Option Value) → Heap → Prop} {YP : World → Heap → Prop} {d : DefRec} {K : Params → PySem.W.Frag} {CX : World → CXT} {x : Str}
    (hn : l.most = some n) (hn2 : n ≤ sizeLine) (hdf : d.params.defaults = []) (hr : Room k callerA) (hY : ∀ (w : World) (h : Heap), YP w h → (K w.params).In h)
    (F : ∀ (w : World) (mg : Str → Option Value) (fa : Addr) (h : Heap), (K w.params).In h → h.Ns mainGlobals mg → mg d.name = some (.ref fa) → GE.TabsIn q (K w.params) h → LawAtG l w (K w.params) (CX w) k n x mg fa h)
    (hCX : ∀ (w : World) (H : Hp) (s : Shared) (e : Value) (s' : Shared), CX w [] H s (fun _ _ _ => False) e s' → False) :
    PySem.W.WalkO q loose XP YP l.row.toRowW d [] (fun f vs => PySem.call f vs) := by
  refine Att.attach_callB hn hdf fun w s0 s1 mg mb fa o pm cd doc a vs ns G Y ho hd hcd hmg hobj hints hlen hbits hg => ?_
  have KX := hY w _ Y
  obtain ⟨fd, cs, sp, hT, nT, C, hb, hsp, hF⟩ := F w mg fa _ KX G.T.g hmg fun x d c P h1 h2 => PySem.W.tab_of G.T KX h1 h2
  exact law_callG KX G.T.g G.T.b G.T.builtins G.T.nolimit hg hT nT C G.T.bmain hobj hints (Nat.le_trans hlen hn2) hr hF hb (fun H hH hS => hsp H a ns hlen hH hS) fun H e s' => hCX w H s1 e s'
end GU

set_option Elab.async false
set_option linter.all false
set_option maxRecDepth 100000
set_option maxHeartbeats 2000000
/-! tuple(elt for tg in iter if ..), whatever the element calls -/
namespace GE
open PySem PySem.Spec PyProof.Rows L2 GenW
section
variable {X : Cx} {pins : List (Addr × Obj)} {σ : L2.St} {H : Hp} {s : Shared}
/-- an around from which the def's generator may be woken -/
structure Near (X : Cx) (A : Around) : Prop where
  hd : A.handled = none
  fr : A.frames = X.A.frames
  dp : A.depth = X.A.depth
  un : A.units ≤ X.A.units + 8
/-- a generator that stands ready, its parts told -/
structure Parts (X : Cx) (pins : List (Addr × Obj)) (σ : L2.St) (scope : Scope) (elt tg iter : Expr) (ifs : List Expr) (gpos : Pos) (vs : List Nat) (g : TG) (tt : TT) (te : TE) (R : It → Hp → Prop) (a : Addr) (s5 : Shared) (it : Addr) (fp : List Addr) (tn : Nat → Heap → Prop) (J : It) (cenv : Env) (s4 : Shared) (H3 : Hp) (go : Obj) (gi : Nat) : Prop where
  gen : ∀ h : Heap, h.get? a = some go → h.IsGen a gi
  isg : s5.heap.IsGen a gi
  lim : s5.heap.NoLimit
  gs : s5.gens[gi]? = some (.fresh (.compStart (.GeneratorExp elt [⟨tg, iter, ifs, 0⟩] scope gpos) 0 (.ref it) .none cenv))
  T : Turn X.prog X.w X.K tg J fp it tn
  t0 : tn 0 s5.heap
  f0 : ∀ b ∈ fp, H3 b = none
  out : ∀ b ∈ fp, b < s4.heap.objs.size
  az : s4.heap.objs.size < a
  al : a < s5.heap.objs.size
  old : s4.heap.objs.size ≤ s5.heap.objs.size
  hco : cenv.scope.isCoroutine = false
  loc : cenv.locals = s4.heap.objs.size
  cel : ∀ x c, cenv.cells.lookup x = some c → c < s4.heap.objs.size
  stk : ∀ b ∈ frs X.stack, b < s4.heap.objs.size
  inv : ∀ (A : Around), Near X A → Inv (gctx X (A.deeper cenv) s4 H3 scope cenv fp) [(a, go)] (wipe σ vs) H3 s5
  pg : ∀ (A : Around), Near X A → PG (gctx X (A.deeper cenv) s4 H3 scope cenv fp) tg g
  pt : ∀ (A : Around), Near X A → PTs (gctx X (A.deeper cenv) s4 H3 scope cenv fp) ifs tt
  pe : ∀ (A : Around), Near X A → PE (gctx X (A.deeper cenv) s4 H3 scope cenv fp) elt te
  back : ∀ (A : Around) pn σ' H' s', Inv (gctx X (A.deeper cenv) s4 H3 scope cenv fp) pn σ' H' s' → Inv X pins σ H' s'
  fresh : s4.heap.objs.size ≤ s5.heap.objs.size
  read : R J H3
def MadeP (X : Cx) (pins : List (Addr × Obj)) (σ : L2.St) (scope : Scope) (elt tg iter : Expr) (ifs : List Expr) (gpos : Pos) (vs : List Nat) (g : TG) (tt : TT) (te : TE) (R : It → Hp → Prop) (u : Value) (s5 : Shared) : Prop :=
  ∃ (a it : Addr) (fp : List Addr) (tn : Nat → Heap → Prop) (J : It) (cenv : Env) (s4 : Shared) (H3 : Hp) (go : Obj) (gi : Nat), u = .ref a ∧ Parts X pins σ scope elt tg iter ifs gpos vs g tt te R a s5 it fp tn J cenv s4 H3 go gi
theorem gen_parts {c P : Addr} {elt tg iter : Expr} {ifs : List Expr} {gpos : Pos} {scope : Scope} {own : List (Str × Nat)} {wi : TI} {g : TG} {tt : TT} {te : TE} {k : Nat} {R : It → Hp → Prop}
    (hc : X.calm = true) (hN : X.N.Nodup) (hr : Room (k + 1) X.A) (TB : GxR.TabB X.base X.mg c P) (hcode : X.env.code = .ref c) (S : GSc X.N X.env.scope scope own) (hi : PI X tg iter wi)
    (hg : ∀ (A : Around) (s : Shared) (H : Hp) (C : Addr) (code : Value) (fp : List Addr), Room k A → PG (gctx X A s H scope (genEnv scope (cloFrom X.env.cells scope.names []) C code builtinsNs X.env) fp) tg g)
    (ht : ∀ (A : Around) (s : Shared) (H : Hp) (C : Addr) (code : Value) (fp : List Addr), Room k A → PTs (gctx X A s H scope (genEnv scope (cloFrom X.env.cells scope.names []) C code builtinsNs X.env) fp) ifs tt)
    (he : ∀ (A : Around) (s : Shared) (H : Hp) (C : Addr) (code : Value) (fp : List Addr), Room k A → PE (gctx X A s H scope (genEnv scope (cloFrom X.env.cells scope.names []) C code builtinsNs X.env) fp) elt te)
    (hs : ∀ v, genFold iter X.env v = pure v) (I : Inv X pins σ H s) (h : wi σ H fun J H1 => GxR.TabG H1 P ∧ ∀ H2, GxR.Tabbed P H1 H2 → R J H2) :
    wpAny (model X.prog X.w) X.A (eval (.GeneratorExp elt [⟨tg, iter, ifs, 0⟩] scope gpos) X.env) (MadeP X pins σ scope elt tg iter ifs gpos (own.map (·.2)) g tt te R) X.xe s := by
  have hfree : ∀ y ∈ scope.names, y.2 = .free → ∃ c, X.env.cells.lookup y.1 = some c := fun y hy e => by
    rcases S.blk.free y hy e with z | z
    · exact I.ok.has _ (.inl z)
    · exact I.ok.has _ (.inr z)
  refine wpAny_GeneratorExp_make S.co (closure_ok hfree) S.cell S.dot S.blk.kind (by have := hr.dp; omega) ?_ hs
  refine thn (hi.run pins s σ H _ I h) fun xv s1 hx => thn hx fun itv s2 h2 => ?_
  obtain ⟨it, fp, tn, J, H1, rfl, I2, T, t2, f2, ⟨ps, hP, htr⟩, q⟩ := h2
  have oP : s2.heap.get? P = some { cls := .none, data := .fields ps } := I2.hok P _ hP
  have cd : PySem.W.CodeHd s2.heap c P := TB.code.keeps I2.bk
  refine ⟨I2.nolimit, ?_⟩
  have nP : ∀ b ∈ fp, b ≠ P := fun b hb z => by
    have q := (f2 b hb).1
    rw [z, hP] at q
    cases q
  have rest : ∀ (code : Value) (h3 : Heap) (tk : Nat) (ps' : Array Value), Heap.ExtBut P s2.heap h3 → h3.get? P = some { cls := .none, data := .fields ps' } → (∃ more, ps' = ps ++ more) → TriplesOk ps'.toList →
      wpAny (model X.prog X.w) X.A (builtinsFor X.env.globals X.env.builtins) (fun bi s4 =>
        ∀ h', h'.Ns s4.heap.objs.size (fun y => if y = ".0" then some (.ref it) else none) → Heap.SameBut s4.heap.objs.size (s4.heap.push { cls := .type "frame", data := .dict #[] }) h' →
          (MadeP X pins σ scope elt tg iter ifs gpos (own.map (·.2)) g tt te R) (.ref h'.objs.size) { s4 with
            gens := s4.gens.push (.fresh (.compStart (.GeneratorExp elt [⟨tg, iter, ifs, 0⟩] scope gpos) 0 (.ref it) .none (genEnv scope (cloFrom X.env.cells scope.names []) s4.heap.objs.size code bi X.env))),
            toks := s4.toks + 1 + 1 + 1,
            heap := h'.push { cls := .type "generator", data := .fields #[.int s4.gens.size 0, .str "<genexpr>" (s4.toks + 1), .str (X.env.qual ++ "<genexpr>") (s4.toks + 1 + 1)] } }) X.xe { s2 with heap := h3, toks := tk } := by
    intro code h3 tk ps' hx hP3 hmore htr3
    obtain ⟨bm, ob, b1, b2, b3, b4, b5, b6, b7, b8⟩ := TB.bm
    refine wpAny_builtinsFor (m := X.mg) ?_ b1 b2 (hx _ _ b4 (I2.bk _ _ b5)) b6 b7 b8 ?_
    · rw [I2.ok.glob]
      exact (I2.mod.glob.keeps I2.bk).extBut hx TB.gP
    obtain ⟨more, rfl⟩ := hmore
    have I3 : Inv X pins σ (upd H1 P (.tbl (ps ++ more))) { s2 with heap := h3, toks := tk } := GxR.inv_tab (more := more) (h' := h3) (g' := s2.gens) (d' := s2.drawn) (t' := tk) I2 hP hx hP3 I2.bare
    have tab : GxR.Tabbed P H1 (upd H1 P (.tbl (ps ++ more))) := ⟨⟨_, upd_same, htr3⟩, fun b hb => upd_ne hb⟩
    have rd := q _ tab
    have t3 : tn 0 h3 := T.keep _ _ _ t2 fun b hb o e => hx b o (nP b hb) e
    have f3 : ∀ b ∈ fp, FpOk X pins (upd H1 P (.tbl (ps ++ more))) b ∧ b < h3.objs.size := fun b hb => by
      refine ⟨⟨?_, (f2 b hb).2⟩, ?_⟩
      · rw [upd_ne (nP b hb)]
        exact (f2 b hb).1
      · obtain ⟨o, e, _⟩ := T.obj _ _ t3 b hb
        exact Heap.lt_size e
    generalize upd H1 P (.tbl (ps ++ more)) = H3 at I3 rd f3
    intro h' hn' hs'
    generalize hs4 : ({ s2 with heap := h3, toks := tk } : Shared) = s4 at I3 hn' hs' ⊢
    have e4 : s4.heap = h3 := by rw [← hs4]
    rw [← e4] at t3 f3
    have hsz : h'.objs.size = s4.heap.objs.size + 1 := by rw [hs'.1, Heap.size_push]
    have hk : ∀ b o, s4.heap.get? b = some o → h'.get? b = some o := fun b o e => by
      rw [hs'.2 b (Nat.ne_of_lt (Heap.lt_size e))]
      exact Heap.get?_push_of_some _ e
    generalize hgo : ({ cls := .type "generator", data := .fields #[.int s4.gens.size 0, .str "<genexpr>" (s4.toks + 1), .str (X.env.qual ++ "<genexpr>") (s4.toks + 1 + 1)] } : Obj) = go
    have isg : ∀ hh : Heap, hh.get? h'.objs.size = some go → hh.IsGen h'.objs.size s4.gens.size := fun hh e => ⟨go, _, _, e, by rw [← hgo], by rw [← hgo], by rw [← hgo]⟩
    have hga : (h'.push go).get? h'.objs.size = some go := Heap.get?_push_size _ (by rw [← hgo]; rfl)
    have bare : AllBare (s4.gens.push (.fresh (.compStart (.GeneratorExp elt [⟨tg, iter, ifs, 0⟩] scope gpos) 0 (.ref it) .none (genEnv scope (cloFrom X.env.cells scope.names []) s4.heap.objs.size code builtinsNs X.env)))) := I3.bare.push rfl
    have kp5 : ∀ b o, s4.heap.get? b = some o → (h'.push go).get? b = some o := fun b o e => Heap.get?_push_of_some _ (hk b o e)
    have rmA : ∀ A, Near X A → Room k (A.deeper (genEnv scope (cloFrom X.env.cells scope.names []) s4.heap.objs.size code builtinsNs X.env)) := fun A N => by
      refine ⟨N.hd, ?_, ?_⟩
      · have := hr.dp
        have := N.dp
        show A.depth + 1 + 3 * k + 5 < _
        omega
      · have := hr.un
        have := N.un
        show A.units + 3 + 16 * k + 200 < _
        omega
    refine ⟨h'.objs.size, it, fp, tn, J, genEnv scope (cloFrom X.env.cells scope.names []) s4.heap.objs.size code builtinsNs X.env, s4, H3, go, s4.gens.size, rfl, ?_⟩
    have hs5 : (h'.push go).objs.size = h'.objs.size + 1 := Heap.size_push ..
    refine { gen := isg, isg := isg _ hga, lim := I3.nolimit.keeps kp5, gs := Array.getElem?_push_size .., T := T, t0 := T.keep _ _ _ t3 fun b _ o e => kp5 b o e, f0 := fun b hb => (f3 b hb).1.1, out := fun b hb => (f3 b hb).2, az := ?_, al := ?_, old := ?_, hco := S.co, loc := rfl, cel := ?_, stk := ?_, inv := ?_, pg := fun A N => hg _ s4 H3 s4.heap.objs.size code fp (rmA A N), pt := fun A N => ht _ s4 H3 s4.heap.objs.size code fp (rmA A N), pe := fun A N => he _ s4 H3 s4.heap.objs.size code fp (rmA A N), back := ?_, fresh := ?_, read := rd }
    · show s4.heap.objs.size < h'.objs.size
      omega
    · show h'.objs.size < (h'.push go).objs.size
      omega
    · show s4.heap.objs.size ≤ (h'.push go).objs.size
      omega
    · intro x c e
      have e : (cloFrom X.env.cells scope.names []).lookup x = some c := e
      rcases cloFrom_mem (PySem.mem_of_lookup e) with z | ⟨z, q⟩
      · cases z
      · obtain ⟨d, hd⟩ := hfree _ z rfl
        rw [hd] at q
        have q : c = d := q
        subst q
        obtain ⟨v, hv⟩ := I3.cell _ _ hd
        exact hv.lt
    · intro b hb
      rcases List.mem_cons.mp (I3.stkSub b hb) with z | z
      · rw [z]; exact I3.lt
      · obtain ⟨_, o, ho, _⟩ := I3.ok.funs.mem z
        exact Nat.lt_of_lt_of_le (Heap.lt_size ho) I3.sz
    · intro A N
      exact gen_start (code := code) (go := go) (tk := s4.toks + 1 + 1 + 1) I3 S.blk hN S.cell f3 N.hd (by show A.frames.map _ = _; rw [N.fr, I3.ok.frames]; rfl) hn' hk (fun v z => by rw [← hgo] at z; cases z) hga hsz bare
    · intro A pn σ' H' s' I'
      exact I3.call' (ch := fp) I'.os I'.base I'.hok I'.bare fun b hb => ⟨(f3 b hb).1.2.2.2.1, (f3 b hb).1.2.1, (f3 b hb).1.2.2.2.2.1, (f3 b hb).1.2.2.2.2.2⟩
    · show s4.heap.objs.size ≤ (h'.push go).objs.size
      omega
  cases hf : codeAmong gpos ps.toList with
  | none =>
    refine wpAny_genexprCodeX hcode (cd.code oP htr) (cd.tab oP) hf fun c' h' tk hx hge hlt hco' _ htab' _ => ?_
    obtain ⟨o1, v1, f1, tf, fl, t1, inF, tx, t0, op, _, _, _, _, _, _, _, _, _, htr', _⟩ := hco'
    exact rest _ h' tk _ hx htab'.2 ⟨_, rfl⟩ htr'
  | some cv =>
    refine wpAny_genexprCode_hit hcode (cd.code oP htr) hf ?_
    exact rest cv s2.heap s2.toks ps (Heap.ExtBut.refl _ _) oP ⟨#[], by simp⟩ htr
/-! ### all that is handed out is put into the list at S -/
def lo (acc : Array Value) (c : Nat) : Obj := { cls := .type "list", dict := none, data := .seq acc c, slots := #[] }
def GRt (Y : Cx) (pn : List (Addr × Obj)) (S : Addr) (Qt : List V → Hp → Prop) : GenEnd := fun _ _ r s1 =>
  ((r = .ok (.ret .none) ∨ r = .ok .next) ∧ ∃ σ' H' ys acc c, Inv Y (pn ++ [(S, lo acc c)]) σ' H' s1 ∧ Vals ys acc.toList ∧ Qt ys H') ∨ ∃ e, r = .error e ∧ (fun (_ : Value) (_ : Shared) => False) e s1
def GYt (Y : Cx) (pn : List (Addr × Obj)) (S : Addr) : Protocol := fun _ _ v s1 kap =>
  ∃ σ' H' acc c, Inv Y (pn ++ [(S, lo acc c)]) σ' H' s1 ∧ acc.size < sizeLine ∧
    ∀ (s2 : Shared) (c2 : Nat), (∀ b o, b ≠ S → s1.heap.get? b = some o → s2.heap.get? b = some o) → s2.heap.get? S = some (lo (acc.push v) c2) → s2.os = s1.os → AllBare s2.gens → kap (.send .none) s2
/-- one turn's reading; ys: what was handed out so far -/
def StepT (J : It) (g : TG) (tt : TT) (te : TE) (vs : List Nat) (σ : L2.St) (Qt : List V → Hp → Prop) (W : Nat → Nat → List V → Hp → Prop) (i m : Nat) (ys : List V) (H : Hp) : Prop :=
  (J.stop i H ∧ Qt ys H) ∨ (J.go i H ∧ ∃ Nx : List V → Hp → Prop, (∀ zs H', Nx zs H' → ∃ m', m' < m ∧ W (i + 1) m' zs H') ∧ ∀ x H', J.yld i H x H' → g x (wipe σ vs) H' fun σ2 H2 => wipe σ2 vs = wipe σ vs ∧ tt σ2 H2 fun b H3 =>
    if b = true then te σ2 H3 fun y H4 => ys.length < sizeLine ∧ Nx (ys ++ [y]) H4 else Nx ys H3)
theorem seg_turnsT {A0 : Around} {s3 : Shared} {H3 : Hp} {scope : Scope} {cenv : Env} {fp : List Addr} {pn : List (Addr × Obj)} {it S : Addr} {J : It} {tn : Nat → Heap → Prop} {elt tg iter : Expr} {ifs : List Expr} {pos : Pos} {vs : List Nat}
    {g : TG} {tt : TT} {te : TE} {Qt : List V → Hp → Prop} {W : Nat → Nat → List V → Hp → Prop} (hc : X.calm = true) (hco : cenv.scope.isCoroutine = false) (hpn : ∀ p ∈ pn, p.1 ∉ fp) (hS : S ∉ fp) (hS1 : s3.heap.objs.size ≤ S) (hS2 : S ≠ cenv.locals) (hS3 : ∀ x c, cenv.cells.lookup x = some c → c ≠ S)
    (hS4 : ∀ p ∈ pn, p.1 ≠ S) (hS5 : S ∉ frs X.stack)
    (T : Turn X.prog X.w X.K tg J fp it tn) (pg : PG (gctx X (A0.deeper cenv) s3 H3 scope cenv fp) tg g) (pt : PTs (gctx X (A0.deeper cenv) s3 H3 scope cenv fp) ifs tt) (pe : PE (gctx X (A0.deeper cenv) s3 H3 scope cenv fp) elt te)
    (turn : ∀ i m ys H', W i m ys H' → StepT J g tt te vs σ Qt W i m ys H') :
    ∀ (m n : Nat), m < n → ∀ (i : Nat) (s0 s1 : Shared) (H' : Hp) (ys : List V) (acc : Array Value) (c : Nat), Inv (gctx X (A0.deeper cenv) s3 H3 scope cenv fp) (pn ++ [(S, lo acc c)]) (wipe σ vs) H' s1 → Vals ys acc.toList → tn i s1.heap → (∀ b ∈ fp, H' b = none) → W i m ys H' →
      Seg (model X.prog X.w) A0 (GRt (gctx X (A0.deeper cenv) s3 H3 scope cenv fp) pn S Qt) (GYt (gctx X (A0.deeper cenv) s3 H3 scope cenv fp) pn S) n s0
        (.compLoop (.GeneratorExp elt [⟨tg, iter, ifs, 0⟩] scope pos) 0 (.ref it) .none cenv) ((model X.prog X.w).den (.compLoop (.GeneratorExp elt [⟨tg, iter, ifs, 0⟩] scope pos) 0 (.ref it) .none cenv)) [] s1 := by
  intro m
  induction m using Nat.strongRecOn with
  | ind m ih =>
    intro n hmn i s0 s1 H1 ys acc c I1 v1 t1 f1 w1
    have hpl : ∀ p ∈ pn ++ [(S, lo acc c)], p.1 ∉ fp := fun p hp => by
      rcases List.mem_append.mp hp with z | z
      · exact hpn p z
      · rw [List.mem_singleton.mp z]; exact hS
    have own : ∀ {pl : List (Addr × Obj)} {σ' : L2.St} {H' : Hp} {s' : Shared}, (∀ p ∈ pl, p.1 ∉ fp) → Inv (gctx X (A0.deeper cenv) s3 H3 scope cenv fp) pl σ' H' s' → (∀ b ∈ fp, H' b = none) → ∀ b ∈ fp, FpOk (gctx X (A0.deeper cenv) s3 H3 scope cenv fp) pl H' b :=
      fun {pl σ' H' s'} hpl I' hn b hb => ⟨hn b hb, (I'.ok.exf b hb).1, I'.ok.exfs b hb, .inl hb, fun x c e => (I'.ok.exf b hb).2 x c e, fun p hp z => hpl p (by simpa using hp) (by rw [z]; exact hb)⟩
    show Seg _ A0 _ _ _ s0 _ ((compTurn (.GeneratorExp elt [⟨tg, iter, ifs, 0⟩] scope pos) 0 (.ref it) .none cenv).onRaise (leaving cenv)) [] s1
    rw [compTurn_gen]
    rw [Sem.onRaise_eq_wrap]
    refine seg_bind_wrap (wpAny_standAt ?_)
    rcases turn i m ys H1 w1 with ⟨stop, qt⟩ | ⟨go, Nx, hNx, step⟩
    · refine seg_bind_wrap (wpF (T.done (gctx X (A0.deeper cenv) s3 H3 scope cenv fp) rfl rfl rfl hc i _ s1 _ H1 (fun _ _ => False) I1 (own hpl I1 f1) t1 stop) fun r s2 ⟨hr, I2⟩ => ?_)
      subst hr
      exact seg_end (.ok .next) (.inl ⟨.inr rfl, _, H1, ys, acc, c, I2, v1, qt⟩)
    · refine seg_bind_wrap (wpF (T.item (gctx X (A0.deeper cenv) s3 H3 scope cenv fp) rfl rfl rfl hc i _ s1 _ H1 (fun _ _ => False) I1 (own hpl I1 f1) t1 go) fun r s2 ⟨u, hr, h2⟩ => ?_)
      subst hr
      refine seg_bind_wrap (wpF h2 fun _ s4 ⟨x, H4, I4, r4, y4, t4, f4⟩ => ?_)
      have P4 := I4.pinned (own hpl I4 f4) (T.obj _ _ t4)
      refine seg_bind_wrap (wpF (pg.run _ s4 _ H4 x u _ P4 r4 (step x H4 y4)) fun _ s5 ⟨σ5, H5, I5, w5, q5⟩ => ?_)
      refine seg_bind_wrap (wpF (pt.run _ s5 σ5 H5 _ I5 q5) fun b s6 ⟨H6, I6, q6⟩ => ?_)
      have back : ∀ {s' : Shared} {H' : Hp}, Inv (gctx X (A0.deeper cenv) s3 H3 scope cenv fp) ((pn ++ [(S, lo acc c)]) ++ pinsAt fp s4.heap) σ5 H' s' →
          Inv (gctx X (A0.deeper cenv) s3 H3 scope cenv fp) (pn ++ [(S, lo acc c)]) (wipe σ vs) H' s' ∧ tn (i + 1) s'.heap ∧ ∀ b ∈ fp, H' b = none := fun {s' H'} I' => by
        have at' : ∀ b ∈ fp, ∀ o, s4.heap.get? b = some o → s'.heap.get? b = some o ∧ H' b = none := fun b hb o e =>
          let z := I'.pin (b, o) (List.mem_append_right _ (List.mem_append_right _ (mem_pinsAt hb e)))
          ⟨z.1, z.2.1⟩
        refine ⟨I'.unpinned.weak (by rw [← w5, wipe_length]) fun j v e => ?_, T.keep _ _ _ t4 fun b hb o e => (at' b hb o e).1, fun b hb => ?_⟩
        · rw [← w5] at e
          exact (wipe_some e).1
        · obtain ⟨o, e, _⟩ := T.obj _ _ t4 b hb
          exact (at' b hb o e).2
      cases b with
      | false =>
        have q6 : Nx ys H6 := by simpa using q6
        obtain ⟨m', hm, w'⟩ := hNx ys H6 q6
        obtain ⟨I7, t7, f7⟩ := back I6
        simp only [Bool.false_eq_true, if_false]
        exact seg_again rfl (ih m' hm n (by omega) (i + 1) s0 s6 H6 ys acc c I7 v1 t7 f7 w')
      | true =>
        rw [if_pos rfl] at q6
        simp only [if_true]
        have hy : ∀ v, yieldOut cenv v = yieldValue v := fun v => by
          unfold yieldOut
          simp [hco]
        simp only [hy]
        rw [Sem.bind_eq_wrap', Sem.bind_eq_wrap']
        rw [Sem.wrap_wrap, Sem.wrap_wrap]
        refine seg_wrap (wpF (pe.run _ s6 σ5 H6 _ I6 q6) fun v s7 ⟨yv, H7, I7, r7, hlt, qn⟩ => ?_)
        obtain ⟨I8, t8, f8⟩ := back I7
        obtain ⟨n, rfl⟩ : ∃ k, n = k + 1 := ⟨n - 1, by omega⟩
        have hsz : acc.size < sizeLine := by
          have e1 : ys.length = acc.toList.length := v1.length
          rw [← Array.length_toList, ← e1]
          exact hlt
        refine seg_at (seg_yield rfl rfl rfl ⟨_, H7, acc, c, I8, hsz, fun s9 c2 hk hS9 ho hb => ?_⟩)
        obtain ⟨m', hm, w'⟩ := hNx _ H7 qn
        have pS := I8.pin (S, lo acc c) (List.mem_append_right _ (List.mem_append_right _ (List.mem_singleton.mpr rfl)))
        have I9 : Inv (gctx X (A0.deeper cenv) s3 H3 scope cenv fp) pn (wipe σ vs) H7 s7 := I8.unpinned
        have I10 : Inv (gctx X (A0.deeper cenv) s3 H3 scope cenv fp) pn (wipe σ vs) H7 { s7 with heap := s9.heap, toks := s9.toks } :=
          I9.turned (t' := s9.toks) (it := S) hk pS.2.1 hS2 (.inr hS1) hS3 fun p hp => hS4 p (by simpa using hp)
        have I11 : Inv (gctx X (A0.deeper cenv) s3 H3 scope cenv fp) (pn ++ [(S, lo (acc.push v) c2)]) (wipe σ vs) H7 s9 := by
          refine (inv_heap (s' := s9) I10 rfl ho hb).pins_of fun p hp => ?_
          rcases List.mem_append.mp hp with z | z
          · exact (inv_heap (s' := s9) I10 rfl ho hb).pin p (List.mem_append_right _ z)
          · rw [List.mem_singleton.mp z]
            exact ⟨hS9, pS.2.1, hS2, hS5, fun v z => by cases z⟩
        refine seg_again rfl (ih m' hm n (by omega) (i + 1) s9 s9 H7 _ (acc.push v) c2 I11 ?_ (T.keep _ _ _ t8 fun b hb' o e => hk b o (fun z => hS (by rw [← z]; exact hb')) e) f8 w')
        rw [Array.toList_push]
        exact v1.append (.cons r7 .nil)
/-- list.extend walks the generator -/
theorem extend_walk {Y : Cx} {pn : List (Addr × Obj)} {Qt : List V → Hp → Prop} {A : Around} {R : Result → Shared → Prop} {a S : Addr} {go : Obj} {g : Nat} {res : Value} (hh : A.handled = none) (hd : A.depth < recursionLimit)
    (hpa : (a, go) ∈ pn) (hgen : ∀ h : Heap, h.get? a = some go → h.IsGen a g) (hSa : S ≠ a)
    (eT : ∀ σ' H' s' ys acc c, Inv Y (pn ++ [(S, lo acc c)]) σ' H' s' → Vals ys acc.toList → Qt ys H' → R (.ok (.ret res)) s') :
    ∀ (n : Nat) (s1 : Shared) (gs : GenState), s1.heap.IsGen a g → s1.heap.NoLimit → s1.gens[g]? = some gs →
      gs.Goes (model Y.prog Y.w) A.in1.in1 (GRt Y pn S Qt) (GYt Y pn S) n (.send .none) (s1.setGen g .running) → codeAny (model Y.prog Y.w) A (.builtin "list.extend.loop" ⟨[.ref S, .ref a, res], []⟩) R s1 := by
  have fin : ∀ {s2 : Shared} {h' : Heap}, (∃ σ' H' ys acc c, Inv Y (pn ++ [(S, lo acc c)]) σ' H' s2 ∧ Vals ys acc.toList ∧ Qt ys H') → (∀ b o, s2.heap.get? b = some o → h'.get? b = some o) → R (.ok (.ret res)) { s2.setGen g .finished with heap := h' } := fun {s2 h'} hp hk => by
    obtain ⟨σ', H', ys, acc, c, I2, v2, q⟩ := hp
    have I3 : Inv Y (pn ++ [(S, lo acc c)]) σ' H' (s2.setGen g .finished) := inv_heap I2 rfl rfl (allBare_setGen I2.bare rfl)
    exact eT σ' H' _ ys acc c (I3.kept (t' := s2.toks) hk) v2 q
  intro n
  induction n with
  | zero =>
    intro s1 gs isg lim hgs goes
    refine codeAny_builtin F.entry_extend_loop ?_
    rw [Around.under_plainId F.plain_extend_loop _]
    show wpAny _ A.in1 (pyNext (.ref a) >>= _) _ _ s1
    refine wpAny_bind (next_genG (A := A.in1) hh lim hd isg hgs goes (fun v s2 gs' hb hv => ?_) (fun s2 hp h' hk => ?_) fun e s2 he => he.elim)
    · obtain ⟨σ', H', acc, c, I2, hz, q2⟩ := hv
      have pS := I2.pin (S, lo acc c) (List.mem_append_right _ (List.mem_append_right _ (List.mem_singleton.mpr rfl)))
      have e0 : s2.heap.get? S = some (lo acc c) := pS.1
      have hS3 := Heap.get?_update_self (Obj.mapSeq (·.push v)) e0 rfl
      exact (q2 { s2 with heap := s2.heap.update S (Obj.mapSeq (·.push v)) } _ (fun b o hbS e => (Heap.get?_update_other _ _ (Ne.symm hbS)).trans e) hS3 rfl I2.bare).elim
    · exact wpAny_pure (fin hp hk)
  | succ n ih =>
    intro s1 gs isg lim hgs goes
    have hgl : g < s1.gens.size := (Array.getElem?_eq_some_iff.mp hgs).1
    refine codeAny_builtin F.entry_extend_loop ?_
    rw [Around.under_plainId F.plain_extend_loop _]
    show wpAny _ A.in1 (pyNext (.ref a) >>= _) _ _ s1
    refine wpAny_bind (wpAny_gsz (n := g + 1) hgl (next_genG (A := A.in1) hh lim hd isg hgs goes (fun v s2 gs' hb hv => ?_) (fun s2 hp h' hk => ?_) fun e s2 he => he.elim))
    · intro hsz
      obtain ⟨σ', H', acc, c, I2, hz, q2⟩ := hv
      have pS := I2.pin (S, lo acc c) (List.mem_append_right _ (List.mem_append_right _ (List.mem_singleton.mpr rfl)))
      have e0 : s2.heap.get? S = some (lo acc c) := pS.1
      show wpAny _ A.in1 (updateSeq S (·.push v) >>= _) _ _ _
      refine wpAny_bind (wpAny_updateSeq (s := s2.setGen g gs') e0 rfl (wpAny_pure ⟨plainId_quiet F.plain_extend_loop _, ?_⟩) (Nat.le_of_lt hz) (by show (acc.push v).size ≤ sizeLine + 1; rw [Array.size_push]; omega))
      have hS3 := Heap.get?_update_self (Obj.mapSeq (·.push v)) e0 rfl
      have k3 : ∀ b o, b ≠ S → s2.heap.get? b = some o → (s2.heap.update S (Obj.mapSeq (·.push v))).get? b = some o := fun b o hbS e => (Heap.get?_update_other _ _ (Ne.symm hbS)).trans e
      have hg2 : g < s2.gens.size := by
        have z : (s2.setGen g gs').gens.size = s2.gens.size := setGen_size _ _ _
        have hsz : g + 1 ≤ (s2.setGen g gs').gens.size := hsz
        omega
      have ha2 := (I2.pin (a, go) (List.mem_append_right _ (List.mem_append_left _ hpa))).1
      have lim2 := I2.nolimit
      refine ih { s2.setGen g gs' with heap := s2.heap.update S (Obj.mapSeq (·.push v)) } gs' (hgen _ (k3 a go (Ne.symm hSa) ha2)) ?_ (setGen_at hg2) ?_
      · obtain ⟨mc, hns, hnn⟩ := lim2
        refine ⟨mc, hns.at' fun o e => k3 _ o (fun z => ?_) e, hnn⟩
        obtain ⟨oo, es, ep, ho, hdd, _⟩ := hns
        rw [z, e0] at ho
        cases ho
        cases hdd
      · exact q2 _ _ k3 hS3 rfl (allBare_setGen (s := s2.setGen g gs') (allBare_setGen I2.bare hb) rfl)
    · intro _
      exact wpAny_pure (fin hp hk)
/-- what the reading of tuple(..) asks of the walk -/
def RT (g : TG) (tt : TT) (te : TE) (vs : List Nat) (σ : L2.St) (Qt : List V → Hp → Prop) : It → Hp → Prop := fun J H2 =>
  ∃ W : Nat → Nat → List V → Hp → Prop, (∃ m, W 0 m [] H2) ∧ ∀ i m ys H', W i m ys H' → StepT J g tt te vs σ Qt W i m ys H'
theorem collect_made {scope : Scope} {elt tg iter : Expr} {ifs : List Expr} {gpos : Pos} {vs : List Nat} {g : TG} {tt : TT} {te : TE} {Qt : List V → Hp → Prop} {a it : Addr} {s5 s4 : Shared} {fp : List Addr} {tn : Nat → Heap → Prop} {J : It} {cenv : Env} {H3 : Hp} {go : Obj} {gi : Nat} {A : Around} {E : Value → Shared → Prop} {Q : List Value → Shared → Prop}
    (hc : X.calm = true) (Pt : Parts X pins σ scope elt tg iter ifs gpos vs g tt te (RT g tt te vs σ Qt) a s5 it fp tn J cenv s4 H3 go gi) (N : Near X A.in1.in1) (hd : A.depth < recursionLimit) (bare : AllBare s5.gens)
    (hQ : ∀ pn σ' H' s' ys acc, Inv (gctx X (A.in1.in1.deeper cenv) s4 H3 scope cenv fp) pn σ' H' s' → Vals ys acc → Qt ys H' → Q acc s') : wpAny (model X.prog X.w) A (collect (.ref a)) Q E s5 := by
  have hSa : s5.heap.objs.size ≠ a := Nat.ne_of_gt Pt.al
  obtain ⟨W, ⟨m0, w0⟩, turn⟩ := Pt.read
  unfold collect
  refine wpAny_bind (wpAny_runValue (codeAny_builtin F.entry_proto_collect ?_))
  rw [Around.under_plainId F.plain_proto_collect _]
  show wpAny _ A.in1 (newList [] >>= fun l => again (.builtin "list.__iadd__" ⟨[l, .ref a], []⟩)) _ _ s5
  refine wpAny_bind (wpAny_newObj_type ?_)
  refine wpAny_pure ⟨plainId_quiet F.plain_list_iadd _, codeAny_builtin F.entry_list_iadd ?_⟩
  rw [Around.under_plainId F.plain_list_iadd _]
  have k1 : ∀ b o, s5.heap.get? b = some o → (s5.heap.push { cls := .type "list", data := .seq ([] : List Value).toArray }).get? b = some o := fun b o e => Heap.get?_push_of_some _ e
  have hS1 : (s5.heap.push { cls := .type "list", data := .seq ([] : List Value).toArray }).get? s5.heap.objs.size = some { cls := .type "list", data := .seq ([] : List Value).toArray } := Heap.get?_push_size _ rfl
  have gty : ({ s5 with heap := s5.heap.push { cls := .type "list", data := .seq ([] : List Value).toArray } } : Shared).TypeIs (.ref a) "generator" := Heap.IsGen.typeIs (s := { s5 with heap := s5.heap.push { cls := .type "list", data := .seq ([] : List Value).toArray } }) (Pt.isg.keeps k1)
  show wpAny _ A.in1 (Builtin.List.listExtendWith (.ref s5.heap.objs.size) (.ref a) (.ref s5.heap.objs.size)) _ _ _
  unfold Builtin.List.listExtendWith
  refine wpAny_bind (wpAny_typeOf gty ?_)
  have h1 : Builtin.List.listSameRef (.ref s5.heap.objs.size) (.ref a) = false := by simp [Builtin.List.listSameRef, hSa]
  rw [if_neg (by rw [h1]; decide)]
  refine wpAny_bind (wpAny_pyIter_gen (s := { s5 with heap := s5.heap.push { cls := .type "list", data := .seq ([] : List Value).toArray } }) (Pt.isg.keeps k1) ?_)
  refine wpAny_bind (wpAny_holding ?_)
  unfold Builtin.List.listLengthHint
  refine wpAny_bind (wpAny_specialOf gty F.gen_no_len ?_)
  show wpAny _ A.in1 (specialOf (Value.ref a) (Str.ofString "__length_hint__") >>= _) _ _ _
  refine wpAny_bind (wpAny_specialOf gty F.gen_no_hint (wpAny_pure ?_))
  show wpAny _ A.in1 (rule "list.extend.makes-room" >>= fun _ => Builtin.List.listTouch (.ref s5.heap.objs.size) >>= fun _ => again (.builtin "list.extend.loop" ⟨[.ref s5.heap.objs.size, .ref a, .ref s5.heap.objs.size], []⟩)) _ _ _
  refine wpAny_bind (wpAny_rule (wpAny_bind ?_))
  show wpAny _ A.in1 (updateSeq s5.heap.objs.size (·.push .none) >>= fun _ => updateSeq s5.heap.objs.size (·.pop)) _ _ _
  refine wpAny_bind (wpAny_updateSeq hS1 rfl ?_)
  have hS2 := Heap.get?_update_self (Obj.mapSeq (·.push Value.none)) hS1 rfl
  refine wpAny_updateSeq hS2 rfl ?_
  have hS3 := Heap.get?_update_self (Obj.mapSeq (·.pop)) hS2 rfl
  have k3 : ∀ b o, s5.heap.get? b = some o → (((s5.heap.push { cls := .type "list", data := .seq ([] : List Value).toArray }).update s5.heap.objs.size (Obj.mapSeq (·.push Value.none))).update s5.heap.objs.size (Obj.mapSeq (·.pop))).get? b = some o := fun b o e =>
    have ne : s5.heap.objs.size ≠ b := Nat.ne_of_gt (Heap.lt_size e)
    (Heap.get?_update_other _ _ ne).trans ((Heap.get?_update_other _ _ ne).trans (k1 b o e))
  refine wpAny_pure ⟨plainId_quiet F.plain_extend_loop _, ?_⟩
  generalize ((s5.heap.push { cls := .type "list", data := .seq ([] : List Value).toArray }).update s5.heap.objs.size (Obj.mapSeq (·.push Value.none))).update s5.heap.objs.size (Obj.mapSeq (·.pop)) = h6 at hS3 k3 ⊢
  have hS6 : ∃ c, h6.get? s5.heap.objs.size = some (lo #[] c) := ⟨_, hS3⟩
  obtain ⟨c6, hS6⟩ := hS6
  have I5 := Pt.inv A.in1.in1 N
  have zS : s4.heap.objs.size ≤ s5.heap.objs.size := Pt.old
  have I6 : ∀ g' : Array GenState, AllBare g' → Inv (gctx X (A.in1.in1.deeper cenv) s4 H3 scope cenv fp) ([(a, go)] ++ [(s5.heap.objs.size, lo #[] c6)]) (wipe σ vs) H3 { s5 with heap := h6, gens := g' } := fun g' hg' => by
    have I7 : Inv (gctx X (A.in1.in1.deeper cenv) s4 H3 scope cenv fp) [(a, go)] (wipe σ vs) H3 { s5 with heap := h6, gens := g' } := inv_heap (I5.kept (t' := s5.toks) k3) rfl rfl hg'
    refine I7.pins_of fun p hp => ?_
    rcases List.mem_append.mp hp with z | z
    · exact I7.pin p (List.mem_append_right _ z)
    · rw [List.mem_singleton.mp z]
      refine ⟨hS6, I5.hok.fresh (Nat.le_refl _), ?_, fun z => ?_, fun v z => by cases z⟩
      · show s5.heap.objs.size ≠ cenv.locals
        rw [Pt.loc]
        have := Pt.az
        have := Pt.al
        exact Nat.ne_of_gt (Nat.lt_trans Pt.az Pt.al)
      · exact absurd (Pt.stk _ z) (Nat.not_lt.mpr zS)
  refine extend_walk (A := A) (Y := gctx X (A.in1.in1.deeper cenv) s4 H3 scope cenv fp) (pn := [(a, go)]) (Qt := Qt) (go := go) (g := gi) N.hd hd (List.mem_singleton.mpr rfl) Pt.gen hSa (fun σ' H' s' ys acc c I' v' q => ?_) (m0 + 1) { s5 with heap := h6 } _ (Pt.isg.keeps k3) (Pt.lim.keeps k3) Pt.gs ⟨rfl, ?_⟩
  · show wpAny _ A (load s5.heap.objs.size >>= _) _ _ s'
    have pS := (I'.pin (s5.heap.objs.size, lo acc c) (List.mem_append_right _ (List.mem_append_right _ (List.mem_singleton.mpr rfl)))).1
    refine wpAny_bind (wpAny_load pS ?_)
    exact wpAny_pure (hQ _ σ' H' s' ys acc.toList I' v' q)
  · have t6 : tn 0 h6 := Pt.T.keep _ _ _ Pt.t0 fun b _ o e => k3 b o e
    refine seg_first (fun A Q E hq => Pt.T.self A 0 _ Q E t6 hq) ?_
    refine seg_turnsT (S := s5.heap.objs.size) hc Pt.hco (fun p hp z => ?_) (fun z => ?_) zS ?_ (fun x c e z => ?_) (fun p hp => ?_) (fun z => ?_) Pt.T (Pt.pg _ N) (Pt.pt _ N) (Pt.pe _ N) turn m0 (m0 + 1) (Nat.lt_succ_self _) 0 _ _ H3 [] #[] c6 (I6 _ (allBare_setGen (s := { s5 with heap := h6 }) bare rfl)) .nil t6 Pt.f0 w0
    · rw [List.mem_singleton.mp hp] at z
      exact absurd (Pt.out _ z) (Nat.not_lt.mpr (Nat.le_of_lt Pt.az))
    · exact absurd (Pt.out _ z) (Nat.not_lt.mpr zS)
    · rw [Pt.loc]
      exact Nat.ne_of_gt (Nat.lt_trans Pt.az Pt.al)
    · have := Pt.cel x c e
      rw [z] at this
      exact absurd this (Nat.not_lt.mpr zS)
    · rw [List.mem_singleton.mp hp]
      exact Ne.symm hSa
    · exact absurd (Pt.stk _ z) (Nat.not_lt.mpr zS)
theorem code_tuple_made {scope : Scope} {elt tg iter : Expr} {ifs : List Expr} {gpos : Pos} {vs : List Nat} {g : TG} {tt : TT} {te : TE} {Qt : List V → Hp → Prop} {a it : Addr} {s5 s4 : Shared} {fp : List Addr} {tn : Nat → Heap → Prop} {J : It} {cenv : Env} {H3 : Hp} {go : Obj} {gi : Nat} {A : Around} {E : Value → Shared → Prop} {Q1 : Value → Shared → Prop}
    (hc : X.calm = true) (Pt : Parts X pins σ scope elt tg iter ifs gpos vs g tt te (RT g tt te vs σ Qt) a s5 it fp tn J cenv s4 H3 go gi) (N : Near X A.in1.in1.in1) (hd : A.depth < recursionLimit) (bare : AllBare s5.gens)
    (hQ : ∀ pn σ' H' s' ys acc, Inv (gctx X (A.in1.in1.in1.deeper cenv) s4 H3 scope cenv fp) pn σ' H' s' → Vals ys acc → Qt ys H' → acc.toArray.size ≤ sizeLine ∧ Q1 (.ref s'.heap.objs.size) { s' with heap := s'.heap.push { cls := .type "tuple", data := .seq acc.toArray } }) :
    codeAny (model X.prog X.w) A (.call (.builtin "tuple.__new__") ⟨[.type "tuple", .ref a], []⟩) (wants Q1 E) s5 := by
  refine codeAny_of_tree ?_
  show wpAny _ A.in1 (do checkBuiltinCall "tuple.__new__" ⟨[.type "tuple", .ref a], []⟩; again (.builtin "tuple.__new__" ⟨[.type "tuple", .ref a], []⟩)) _ _ s5
  refine wpAny_bind (wpAny_of_eq (F.newCall_tuple_1 _) (wpAny_pure ⟨plainId_quiet F.plain_tuple_new _, codeAny_builtin F.entry_tuple_new ?_⟩))
  rw [Around.under_plainId F.plain_tuple_new _]
  have hsub := sub_tuple_self
  have hinit := init_tuple_lookup
  have hmh := madeHere_tuple
  have hTI : s5.TypeIs (.ref a) "generator" := Pt.isg.typeIs
  wp_walk using wpAny_typeOf hTI, collect_made (A := A.in1) hc Pt N hd bare
  intro pn σ' H' s' ys acc I' v' q
  obtain ⟨hz, h1⟩ := hQ pn σ' H' s' ys acc I' v' q
  show wpAny _ _ (Builtin.Tuple.tupleExact acc.toArray >>= fun v => ret v) _ _ _
  unfold Builtin.Tuple.tupleExact
  refine wpAny_bind (wpAny_newObj_type ?_ hz)
  exact wpAny_pure h1
/-- tuple(elt for tg in iter if ..) -/
def tTG (P : Addr) (wi : TI) (g : TG) (tt : TT) (te : TE) (vs : List Nat) : TE := fun σ H Q => wi σ H fun J H1 => GxR.TabG H1 P ∧ ∀ H2, GxR.Tabbed P H1 H2 →
  RT g tt te vs σ (fun ys H' => ys.length ≤ sizeLine ∧ ∀ q, H' q = none → Q (.ref q) (upd H' q (.tup ys))) J H2
theorem pe_tupleG {c P : Addr} {elt tg iter : Expr} {ifs : List Expr} {p pos gpos : Pos} {scope : Scope} {own : List (Str × Nat)} {wi : TI} {g : TG} {tt : TT} {te : TE} {k : Nat}
    (hc : X.calm = true) (hN : X.N.Nodup) (hr : Room (k + 1) X.A) (hgl : Gl X "tuple") (hm : X.mg "tuple" = none) (TB : GxR.TabB X.base X.mg c P) (hcode : X.env.code = .ref c) (S : GSc X.N X.env.scope scope own) (hi : PI X tg iter wi)
    (hg : ∀ (A : Around) (s : Shared) (H : Hp) (C : Addr) (code : Value) (fp : List Addr), Room k A → PG (gctx X A s H scope (genEnv scope (cloFrom X.env.cells scope.names []) C code builtinsNs X.env) fp) tg g)
    (ht : ∀ (A : Around) (s : Shared) (H : Hp) (C : Addr) (code : Value) (fp : List Addr), Room k A → PTs (gctx X A s H scope (genEnv scope (cloFrom X.env.cells scope.names []) C code builtinsNs X.env) fp) ifs tt)
    (he : ∀ (A : Around) (s : Shared) (H : Hp) (C : Addr) (code : Value) (fp : List Addr), Room k A → PE (gctx X A s H scope (genEnv scope (cloFrom X.env.cells scope.names []) C code builtinsNs X.env) fp) elt te)
    (hs : ∀ v, genFold iter X.env v = pure v := by intro _; rfl) (hb : bootBuiltins "tuple" = some (.type "tuple") := by decide +kernel)
    (hse : starEach [.GeneratorExp elt [⟨tg, iter, ifs, 0⟩] scope gpos] X.env = (false, eval (.GeneratorExp elt [⟨tg, iter, ifs, 0⟩] scope gpos) X.env) :: starEach [] X.env := by rfl) :
    PE X (.Call (.Name "tuple" p) [.GeneratorExp elt [⟨tg, iter, ifs, 0⟩] scope gpos] [] pos) (tTG P wi g tt te (own.map (·.2))) := by
  refine ⟨fun pins s σ H Q I h => ?_⟩
  refine Call_ (ld_blt I hgl hm hb (PyProof.Rows.callWith_type1 (args_cons (thn (gen_parts hc hN hr TB hcode S hi hg ht he hs I h) fun u s5 hu => args_nil ?_) hse) hse rfl))
  obtain ⟨a, it, fp, tn, J, cenv, s4, H3, go, gi, rfl, Pt⟩ := hu
  have N : Near X X.A.in1.in1.in1.in1 := ⟨hr.hd, rfl, rfl, by show X.A.units + 1 + 1 + 1 + 1 ≤ X.A.units + 8; omega⟩
  have bare := (Pt.inv _ N).bare
  refine callType_codes (Q₁ := fun obj s1 => s1.TypeIs obj "tuple" ∧ EP X pins σ Q obj s1) F.called_tuple (F.typeCall_tuple_1 _) F.entry_object_init
    (code_tuple_made (A := X.A.in1) hc Pt N (by have := hr.dp; show X.A.depth < _; omega) bare fun pn σ' H' s' ys acc I' v' q => ?_) fun obj s1 h1 => ?_
  · have I2 := Pt.back _ pn σ' H' s' I'
    have el : ys.length = acc.length := v'.length
    refine ⟨by rw [List.size_toArray, ← el]; exact q.1, ⟨_, Heap.get?_push_size _ rfl, rfl⟩, .ref s'.heap.objs.size, upd H' s'.heap.objs.size (.tup ys), ?_, rfl, q.2 _ (I2.hok.fresh (Nat.le_refl _))⟩
    exact I2.laid (t' := s'.toks) (fun c o e => Heap.get?_push_of_some _ e) (Nat.le_refl _) (show ObjOk X.prog X.w _ _ _ (.tup ys) from ⟨q.1, acc, v', IsTup.new _ _⟩)
  · exact ⟨h1.1, F.args_object_init_2 obj _, object_init_meets F.called_tuple.init.lookup F.called_tuple.made (by decide) X.prog X.w X.A.in1 _ s1 ⟨h1.1, rfl, h1.2⟩⟩
end
section
variable {J : It} {n : Nat} {G : Hp → Prop} {Y : Nat → Hp → V → Hp → Prop}
theorem tg_it (w : Walk J n G Y) {g : TG} {tt : TT} {te : TE} {vs : List Nat} {σ : L2.St} {H2 : Hp} {Qt : List V → Hp → Prop} (Pv : Nat → List V → Hp → Prop) (h0 : Pv 0 [] H2) (hG : ∀ i ys H, i ≤ n → Pv i ys H → G H)
    (hs : ∀ i x ys H H', i < n → Pv i ys H → Y i H x H' → g x (wipe σ vs) H' fun σ2 H2 => wipe σ2 vs = wipe σ vs ∧ tt σ2 H2 fun b H3 =>
      if b = true then te σ2 H3 fun y H4 => ys.length < sizeLine ∧ Pv (i + 1) (ys ++ [y]) H4 else Pv (i + 1) ys H3) (hd : ∀ ys H, Pv n ys H → Qt ys H) : RT g tt te vs σ Qt J H2 := by
  refine ⟨fun i m ys H => m = n - i ∧ i ≤ n ∧ Pv i ys H, ⟨n, by simp, Nat.zero_le _, h0⟩, ?_⟩
  rintro i m ys H ⟨rfl, hi, p⟩
  have q := hG i ys H hi p
  by_cases hlt : i < n
  · exact .inr ⟨w.goes i H hlt q, Pv (i + 1), fun zs H' p' => ⟨n - (i + 1), by omega, rfl, hlt, p'⟩, fun x H' y => hs i x ys H H' hlt p (w.yields i H x H' hlt q y)⟩
  · have e : i = n := by omega
    subst e
    exact .inl ⟨w.stops H q, hd ys H p⟩
end
end GE

set_option Elab.async false
set_option linter.all false
set_option maxRecDepth 100000
set_option maxHeartbeats 2000000
/-! Pages shown and compared as data. -/
namespace My
open PySem PySem.Spec PyProof.Rows L2 PySem.SeqAt PySem.W
mutual
theorem alike_self : ∀ k : NestedKey, alike k.data k.data = true
  | .none => by rw [NestedKey.data, alike]
  | .num _ => by rw [NestedKey.data, alike]
  | .text _ => by rw [NestedKey.data, alike]
  | .tup ks => by rw [NestedKey.data, alike]; exact alike_selves ks
theorem alike_selves : ∀ ks : List NestedKey, alikeAll (NestedKey.datas ks) (NestedKey.datas ks) = true
  | [] => by rw [NestedKey.datas, alikeAll]
  | k :: ks => by rw [NestedKey.datas, alikeAll, alike_self k, alike_selves ks]; rfl
end
theorem eqv_list_self (ks : List NestedKey) : PyData.eqv (.list (NestedKey.datas ks)) (.list (NestedKey.datas ks)) = true := eqv_refl_alike _ (by rw [alike]; exact alike_selves ks)
/-- what is known of a thing that is shown and compared -/
structure Fine (d : PyData) (c : Nat) : Prop where
  sh : GU.Sh d
  cost : GU.cost d ≤ c
  lay : d.canLay0 = true
  deep : d.depth ≤ 3
structure FineAll (ds : List PyData) (c : Nat) : Prop where
  sh : GU.ShAll ds
  cost : GU.costAll ds ≤ c
  lay : PyData.canLayAll0 ds = true
  deep : PyData.depthAll ds ≤ 3
theorem FineAll.nil : FineAll [] 0 := ⟨trivial, Nat.le_refl _, by rw [PyData.canLayAll0], by rw [PyData.depthAll]; omega⟩
theorem FineAll.cons {d : PyData} {ds : List PyData} {a b : Nat} (h : Fine d a) (t : FineAll ds b) : FineAll (d :: ds) (a + 2 + b) := by
  refine ⟨⟨h.sh, t.sh⟩, ?_, by rw [PyData.canLayAll0, h.lay, t.lay]; rfl, ?_⟩
  · rw [GU.costAll]
    have := h.cost
    have := t.cost
    omega
  · rw [PyData.depthAll]
    have := h.deep
    have := t.deep
    omega
theorem Fine.mono {d : PyData} {a b : Nat} (h : Fine d a) (le : a ≤ b) : Fine d b := ⟨h.sh, Nat.le_trans h.cost le, h.lay, h.deep⟩
theorem fine_text {z : Str} (h : Plain z) : Fine (.str z) 1004 := by
  refine ⟨fun c hc => Nat.lt_of_lt_of_le (h.2 c hc) (by decide), ?_, ?_, by rw [PyData.depth]; omega⟩
  · have := h.1
    rw [GU.cost]
    omega
  · rw [PyData.canLay0]
    unfold PyData.strOk
    rw [← Array.all_toList]
    refine List.all_eq_true.mpr fun c hc => ?_
    have := h.2 c hc
    simp
    omega
theorem fine_int {i : Int} (h0 : -1000000 < i) (h1 : i < 1000000) : Fine (.int i) 1921 := ⟨small_nat h0 h1, by rw [GU.cost]; omega, by rw [PyData.canLay0], by rw [PyData.depth]; omega⟩
theorem fine_home {ws : List Int} (h : HomeW ws) : Fine (NestedKey.tup (ws.map .num)).data 14000 := by
  have key : ∀ {ws : List Int}, (∀ w ∈ ws, 0 ≤ w ∧ w < 7) → FineAll (NestedKey.datas (ws.map .num)) (1923 * ws.length) ∧ PyData.depthAll (NestedKey.datas (ws.map .num)) = 0 := by
    intro ws
    induction ws with
    | nil => intro _; exact ⟨by rw [List.map_nil, NestedKey.datas]; exact .nil, by rw [List.map_nil, NestedKey.datas, PyData.depthAll]⟩
    | cons a l ih =>
      intro h
      have ha := h a (.head _)
      obtain ⟨i1, i2⟩ := ih fun w hw => h w (.tail _ hw)
      rw [List.map_cons, NestedKey.datas, NestedKey.data]
      refine ⟨?_, by rw [PyData.depthAll, i2, PyData.depth]; rfl⟩
      have := FineAll.cons (fine_int (i := a) (by omega) (by omega)) i1
      rw [List.length_cons]
      exact ⟨this.sh, by have := this.cost; omega, this.lay, this.deep⟩
  obtain ⟨k, kd⟩ := key h.2
  have := h.1
  rw [NestedKey.data]
  refine ⟨k.sh, ?_, by rw [PyData.canLay0]; exact k.lay, by rw [PyData.depth, kd]; omega⟩
  rw [GU.cost]
  have := k.cost
  omega
theorem plain_kind {z : Str} {r : List NestedKey} (h : Rest z r) : Plain z := by
  cases h <;> exact ⟨by decide +kernel, by decide +kernel⟩
theorem fine_rest {z : Str} {r : List NestedKey} (h : Rest z r) : FineAll (NestedKey.datas r) 17000 ∧ PyData.depthAll (NestedKey.datas r) ≤ 1 := by
  have one : ∀ {ws : List Int}, (NestedKey.tup (ws.map .num)).data.depth ≤ 1 := fun {ws} => by
    have : ∀ ws : List Int, PyData.depthAll (NestedKey.datas (ws.map .num)) = 0 := fun ws => by
      induction ws with
      | nil => rw [List.map_nil, NestedKey.datas, PyData.depthAll]
      | cons a l ih => rw [List.map_cons, NestedKey.datas, NestedKey.data, PyData.depthAll, ih, PyData.depth]; rfl
    rw [NestedKey.data, PyData.depth, this]
    omega
  have up : ∀ {ds : List PyData} {c : Nat}, FineAll ds c → c ≤ 17000 → FineAll ds 17000 := fun h le => ⟨h.sh, Nat.le_trans h.cost le, h.lay, h.deep⟩
  have txt : ∀ x : Str, (NestedKey.text x).data = .str x := fun x => by rw [NestedKey.data]
  have num : ∀ x : Int, (NestedKey.num x).data = .int x := fun x => by rw [NestedKey.data]
  cases h <;> simp only [NestedKey.datas, txt, num]
  case house a b => exact ⟨up (.cons (fine_text a) (.cons (fine_home b) .nil)) (by decide), by simp only [PyData.depthAll, PyData.depth]; refine Nat.max_le.mpr ⟨Nat.zero_le _, ?_⟩; first | exact Nat.max_le.mpr ⟨one, Nat.zero_le _⟩ | exact Nat.max_le.mpr ⟨Nat.zero_le _, Nat.max_le.mpr ⟨one, Nat.zero_le _⟩⟩⟩
  case home a b => exact ⟨up (.cons (fine_text a) (.cons (fine_home b) .nil)) (by decide), by simp only [PyData.depthAll, PyData.depth]; refine Nat.max_le.mpr ⟨Nat.zero_le _, ?_⟩; first | exact Nat.max_le.mpr ⟨one, Nat.zero_le _⟩ | exact Nat.max_le.mpr ⟨Nat.zero_le _, Nat.max_le.mpr ⟨one, Nat.zero_le _⟩⟩⟩
  case part a b c => exact ⟨up (.cons (fine_text a) (.cons (fine_text b) (.cons (fine_home c) .nil))) (by decide), by simp only [PyData.depthAll, PyData.depth]; refine Nat.max_le.mpr ⟨Nat.zero_le _, ?_⟩; first | exact Nat.max_le.mpr ⟨one, Nat.zero_le _⟩ | exact Nat.max_le.mpr ⟨Nat.zero_le _, Nat.max_le.mpr ⟨one, Nat.zero_le _⟩⟩⟩
  case mourn a b c => exact ⟨up (.cons (fine_text a) (.cons (fine_int (by omega) (by omega)) .nil)) (by decide), by simp only [PyData.depthAll, PyData.depth]; omega⟩
  case join a b => exact ⟨up (.cons (fine_text a) (.cons (fine_text b) .nil)) (by decide), by simp only [PyData.depthAll, PyData.depth]; omega⟩
  case ahead a b => exact ⟨up (.cons (fine_text a) (.cons (fine_text b) .nil)) (by decide), by simp only [PyData.depthAll, PyData.depth]; omega⟩
  case card a b => exact ⟨up (.cons (fine_text a) (.cons (fine_text b) .nil)) (by decide), by simp only [PyData.depthAll, PyData.depth]; omega⟩
  case visit a b => exact ⟨up (.cons (fine_text a) (.cons (fine_text b) .nil)) (by decide), by simp only [PyData.depthAll, PyData.depth]; omega⟩
theorem fine_page {k : NestedKey} (h : PgK k) : Fine k.data 20000 ∧ k.data.depth ≤ 2 := by
  obtain ⟨z, d, r, rfl, hr, d0, d1⟩ := h
  obtain ⟨f, fd⟩ := fine_rest hr
  have t := FineAll.cons (fine_text (plain_kind hr)) (FineAll.cons (fine_int (i := d) (by omega) (by omega)) f)
  have e : (NestedKey.tup (.text z :: .num d :: r)).data = .tuple (.str z :: .int d :: NestedKey.datas r) := by
    rw [NestedKey.data, NestedKey.datas, NestedKey.datas, NestedKey.data, NestedKey.data]
  have dp : (PyData.tuple (.str z :: .int d :: NestedKey.datas r)).depth ≤ 2 := by
    rw [PyData.depth, PyData.depthAll, PyData.depthAll, PyData.depth, PyData.depth]
    omega
  rw [e]
  refine ⟨⟨t.sh, ?_, by rw [PyData.canLay0]; exact t.lay, Nat.le_trans dp (by decide)⟩, dp⟩
  rw [GU.cost]
  have := t.cost
  omega
theorem fine_pages : ∀ {ks : List NestedKey}, (∀ k ∈ ks, PgK k) → FineAll (NestedKey.datas ks) (20002 * ks.length) ∧ PyData.depthAll (NestedKey.datas ks) ≤ 2
  | [], _ => ⟨by rw [NestedKey.datas]; exact .nil, by rw [NestedKey.datas, PyData.depthAll]; omega⟩
  | k :: ks, h => by
    obtain ⟨a, b⟩ := fine_page (h k (.head _))
    obtain ⟨c, d⟩ := fine_pages fun y hy => h y (.tail _ hy)
    have t := FineAll.cons a c
    rw [NestedKey.datas]
    refine ⟨⟨t.sh, by have := t.cost; rw [List.length_cons]; omega, t.lay, t.deep⟩, by rw [PyData.depthAll]; omega⟩
theorem shaped_pages {ks : List NestedKey} (h : ∀ k ∈ ks, PgK k) : SeqAt.shaped (.list (NestedKey.datas ks)) = true := by
  obtain ⟨f, fd⟩ := fine_pages h
  unfold SeqAt.shaped
  rw [Bool.and_eq_true, PyData.canLay0, PyData.depth]
  exact ⟨f.lay, decide_eq_true (by omega)⟩
theorem eqv_nil (ks : List NestedKey) : PyData.eqv (.list (NestedKey.datas ks)) (.list []) = ks.isEmpty := by
  cases ks with
  | nil => simp [NestedKey.datas, PyData.eqv, PyData.eqvAll]
  | cons k ks => simp [NestedKey.datas, PyData.eqv, PyData.eqvAll]
theorem repr_pages {ks : List NestedKey} (h : ∀ k ∈ ks, PgK k) (n : ks.length ≤ 200) : GU.Sh (.tuple (NestedKey.datas ks)) ∧ (PyData.tuple (NestedKey.datas ks)).depth ≤ 50 ∧ GU.cost (.tuple (NestedKey.datas ks)) ≤ sizeLine := by
  obtain ⟨f, fd⟩ := fine_pages h
  refine ⟨f.sh, by rw [PyData.depth]; omega, ?_⟩
  rw [GU.cost]
  have := f.cost
  have : GU.costAll (NestedKey.datas ks) + 3 ≤ 4000403 := by omega
  exact Nat.le_trans this (by decide)
end My

set_option Elab.async false
set_option linter.all false
set_option maxRecDepth 100000
set_option maxHeartbeats 2000000
/-! Errors of the program's own that carry fields: a def with generator expressions that may raise one; isinstance of a caught one where the answer is yes; != of pages. -/
namespace GE
open PySem PySem.Spec PyProof.Rows L2
theorem FunC.okX {P : Program} {w : World} {K : PySem.W.Frag} {mg : Str → Option Value} {base : Heap} {x qual : Str} {st : Stmt} {f : Addr} {fd : FuncData} {c : Addr} {N ps : List Str} {k : Nat} {sp : Sp} (F : FunC K x qual st f fd c) (S : FnScope N ps (defScope st))
    (len : ∀ vs H Q E, sp vs H Q E → vs.length = ps.length)
    (body : ∀ (A : Around) (outer : List Env) (s : Shared) (H : Hp) (vs : List V) (Q : VK) (E : XK), Room k (A.deeper (envOfC qual (defScope st) s.heap.objs.size f (.ref c))) → sp vs H Q E →
      ∃ t, PSs (cxOf (L2.CX P w) P w K mg base N qual (defScope st) f (.ref c) A outer s H E) (defBody st) t ∧ t { nx := fun _ H' => Q .non H', rt := Q } (start N vs) H) : FnOk P w K mg base (L2.CX P w) (k + 1) f fd ps sp := by
  obtain ⟨oc, od, kV, doc, pm, an, ct, osl, rfl, lk, hcd⟩ := F.ex
  exact fn_of lk hcd S len fun A outer s H vs Q E hr h => body A outer s H vs Q E hr h
end GE
namespace My
open PySem PySem.Spec PyProof.Rows L2 PySem.W
section
variable {prog : Program} {w : World} {A : Around} {E : Value → Shared → Prop} {s : Shared} {Q : Value → Shared → Prop} {K : PySem.W.Frag} {a D : Addr} {oe : Obj} {od : Option Obj} {c : Value}
/-- the class is the thing's own, or one above it: so no look at the thing's own attribute is taken -/
theorem yes_ans (e : PySem.W.kitOne K (.ref D) c = some true) : Answers (fun s => K.In s.heap ∧ PySem.W.InstAt s.heap a oe D od) (.ref a) c true := by
  intro dep tk prog w A R s hs
  obtain ⟨h0, g0, d0, t0, o0⟩ := s
  obtain ⟨⟨kin, inst⟩, fin⟩ := hs
  have own := inst.type (M := model prog w)
  unfold Builtin.«isinstance.nested»
  refine wpAny_bind (own.at ?_)
  unfold PySem.W.kitOne at e
  by_cases same : (Value.ref D == c) = true
  · rw [if_pos same]
    first
      | exact wpAny_bind (wpAny_rule (fin t0))
      | exact wpAny_bind (wpAny_rule (wpAny_pure (fin t0)))
      | ((repeat lk); exact fin t0)
  · rw [if_neg same] at e
    rw [if_neg same]
    obtain ⟨l1, l2, l3⟩ := PySem.W.kit_cls (M := model prog w) kin e
    have above : Looks (model prog w) h0 (isInstance (.ref a) c) true := own.andThen l3
    refine wpAny_bind (l1.at ?_)
    rw [if_pos (by decide)]
    k_delta "plainIsInstance"
    refine wpAny_bind (wpAny_bind (l2.at ?_))
    rw [if_neg (by decide)]
    refine wpAny_bind (above.at ?_)
    first
      | exact wpAny_pure (wpAny_pure (fin t0))
      | (rw [if_pos rfl]; first | exact wpAny_pure (wpAny_pure (fin t0)) | exact wpAny_pure (fin t0) | exact wpAny_bind (wpAny_pure (wpAny_pure (fin t0))))
theorem is_yes (kin : K.In s.heap) (inst : PySem.W.InstAt s.heap a oe D od) (e : PySem.W.kitOne K (.ref D) c = some true) (h : ∀ tk, Q (.bool true) { s with toks := tk }) : wpAny (model prog w) A (call (.builtin "isinstance") [.ref a, c]) Q E s :=
  PySem.call_isinstance (S := fun _ R s => (K.In s.heap ∧ PySem.W.InstAt s.heap a oe D od) ∧ ∀ tk, R (.ok (.ret (.bool true))) { s with toks := tk })
    (fun prog w A R s hs => PySem.isinstance_outer (yes_ans e 0 _ prog w A R s hs) (fun z => nomatch z)) ⟨⟨kin, inst⟩, h⟩
end
/-- isinstance(e, c), e the error that the suite holds, with fields in its dict -/
def rIsY (K : PySem.W.Frag) (D a : Addr) (cls : Value) (d : Option Addr) : List V → Hp → VK → Prop := fun xs H Q => ∃ (c : V) (cv : Value) (dd : Addr) (fs : List (Str × V)), xs = [.ref a, c] ∧ (∀ u, RelV c u → u = cv) ∧ PySem.W.kitOne K (.ref D) cv = some true ∧ cls = .ref D ∧ d = some dd ∧ H dd = some (.xd fs) ∧ Q (.bl true) H
theorem call_isY {X : Cx} {a D : Addr} {oe : Obj} {d : Option Addr} {cls : Value} {pn : List (Addr × Obj)} (hz : Zc cls d oe) (hf : ∃ vs, oe.data = .fields vs) : CallR (X.suite a ((a, oe) :: pn)) (.builtin "isinstance") (rIsY X.K D a cls d) := by
  intro pins s σ H xs us Q I r h
  obtain ⟨c, cv, dd, fs, rfl, hcv, e, hc, ed, hdd, q⟩ := h
  obtain ⟨u0, u1, rfl, r0, r1⟩ : ∃ u0 u1, us = [u0, u1] ∧ RelV (.ref a) u0 ∧ RelV c u1 := by
    cases r with
    | cons r0 r =>
      cases r with
      | cons r1 r =>
        cases r
        exact ⟨_, _, rfl, r0, r1⟩
  obtain rfl : u0 = Value.ref a := r0
  obtain rfl := hcv _ r1
  subst hc ed
  obtain ⟨here, _⟩ := I.pin (a, oe) (List.mem_append_left _ List.mem_cons_self)
  obtain ⟨vs, hv⟩ := hf
  have hx : ObjOk X.prog X.w H s.heap dd (.xd fs) := I.hok dd _ hdd
  obtain ⟨mA, hns, _⟩ := hx
  obtain ⟨od, ho, _⟩ := lookIn_ns hns
  have inst : PySem.W.InstAt s.heap a oe D (some od) := ⟨here, hz.1, by unfold PySem.W.notCls; rw [hv] <;> rfl, by rw [hz.2]; exact ho⟩
  exact is_yes I.kIn inst e fun tk => ⟨.bl true, H, I.kept (t' := tk) fun _ _ z => z, rfl, q⟩
mutual
theorem eqv_key : ∀ k l : NestedKey, PyData.eqv k.data l.data = NestedKey.beq k l
  | .none, l => by cases l <;> simp [NestedKey.data, PyData.eqv, NestedKey.beq]
  | .num a, l => by cases l <;> simp [NestedKey.data, PyData.eqv, NestedKey.beq] <;> (rw [Bool.eq_iff_iff]; simp)
  | .text a, l => by cases l <;> simp [NestedKey.data, PyData.eqv, NestedKey.beq] <;> (rw [Bool.eq_iff_iff]; simp)
  | .tup ks, .none => by simp [NestedKey.data, PyData.eqv, NestedKey.beq]
  | .tup ks, .num _ => by simp [NestedKey.data, PyData.eqv, NestedKey.beq]
  | .tup ks, .text _ => by simp [NestedKey.data, PyData.eqv, NestedKey.beq]
  | .tup ks, .tup ls => by
    rw [NestedKey.data, NestedKey.data, PyData.eqv, NestedKey.beq]
    exact eqv_keys ks ls
theorem eqv_keys : ∀ ks ls : List NestedKey, PyData.eqvAll (NestedKey.datas ks) (NestedKey.datas ls) = NestedKey.beqAll ks ls
  | [], [] => by simp [NestedKey.datas, PyData.eqvAll, NestedKey.beqAll]
  | [], _ :: _ => by simp [NestedKey.datas, PyData.eqvAll, NestedKey.beqAll]
  | _ :: _, [] => by simp [NestedKey.datas, PyData.eqvAll, NestedKey.beqAll]
  | k :: ks, l :: ls => by
    rw [NestedKey.datas, NestedKey.datas, PyData.eqvAll, NestedKey.beqAll, eqv_key k l, eqv_keys ks ls]
end
theorem eqv_dec (k l : NestedKey) : PyData.eqv k.data l.data = decide (k = l) := by rw [eqv_key, NestedKey.decide_eq]
theorem shaped_page {k : NestedKey} (h : PgK k) : SeqAt.shaped k.data = true := by
  obtain ⟨f, fd⟩ := fine_page h
  unfold SeqAt.shaped
  rw [Bool.and_eq_true]
  exact ⟨f.lay, decide_eq_true (by omega)⟩
end My

set_option Elab.async false
set_option linter.all false
set_option maxRecDepth 100000
set_option maxHeartbeats 2000000
/-! xs == [], xs != []: a list of any things against the list of none. -/
namespace My
open PySem PySem.Spec PyProof.Rows L2 PySem.SeqAt
def rEqE (K : PySem.W.Frag) (f : Bool → Bool) : R2 := fun x y H Q => ∃ (p q : Addr) (xs : List V), x = .ref p ∧ y = .ref q ∧ SqL K H p xs ∧ SqL K H q [] ∧ Q (.bl (f xs.isEmpty)) H
section
variable {X : Cx}
theorem op_eqE (hu : X.A.units + 1 < cLine) : OpR X (compareOp .Eq) (rEqE X.K fun b => b) := by
  intro pins s σ H x y v u Q I rx ry h
  obtain ⟨p, q, xs, rfl, rfl, hp, hq, h⟩ := h
  cases (show v = Value.ref p from rx)
  cases (show u = Value.ref q from ry)
  obtain ⟨us, r1, p1, _⟩ := I.list hp
  obtain ⟨ws, r2, p2, _⟩ := I.list hq
  cases r2
  cases r1 with
  | nil => exact RcAt.lists (e := fun _ => true) p1.isList p2.isList rfl (by omega) (fun j h1 _ => absurd h1 (Nat.not_lt_zero j)) X.prog X.w _ _ ⟨.bl true, H, I, rfl, h⟩
  | cons _ _ => exact RcAt.lists_lengths p1.isList p2.isList (by simp) (by omega) X.prog X.w _ _ ⟨.bl false, H, I, rfl, h⟩
theorem op_neE (hu : X.A.units + 1 < cLine) : OpR X (compareOp .NotEq) (rEqE X.K fun b => !b) := by
  intro pins s σ H x y v u Q I rx ry h
  obtain ⟨p, q, xs, rfl, rfl, hp, hq, h⟩ := h
  cases (show v = Value.ref p from rx)
  cases (show u = Value.ref q from ry)
  obtain ⟨us, r1, p1, _⟩ := I.list hp
  obtain ⟨ws, r2, p2, _⟩ := I.list hq
  cases r2
  cases r1 with
  | nil => exact RcNeAt.lists (e := fun _ => true) p1.isList p2.isList rfl (by omega) (fun j h1 _ => absurd h1 (Nat.not_lt_zero j)) X.prog X.w _ _ ⟨.bl false, H, I, rfl, h⟩
  | cons _ _ => exact RcNeAt.lists_lengths p1.isList p2.isList (by simp) (by omega) X.prog X.w _ _ ⟨.bl true, H, I, rfl, h⟩
end
end My

set_option Elab.async false
set_option linter.all false
set_option maxRecDepth 100000
set_option maxHeartbeats 2000000
namespace L20
open PySem PySem.Spec PyProof.Rows L2 My
def topS (i : Nat) : Stmt := PySem.Challenge.pw_cardsback_k20_visits_answer_several.main.body.getD i (.Pass ⟨0, 0, 0, 0⟩)
def clsS (i j : Nat) : Stmt := match topS i with | .ClassDef _ _ _ b _ _ _ _ _ _ _ => b.getD j (.Pass ⟨0, 0, 0, 0⟩) | _ => .Pass ⟨0, 0, 0, 0⟩
abbrev s_weekday : Stmt := topS 2
abbrev N_weekday : List Str := ["day"]
theorem S_weekday : FnScope N_weekday ["day"] (defScope s_weekday) := ⟨rfl, rfl, rfl, by decide +kernel, rfl, by decide +kernel, by decide +kernel⟩
abbrev s_page_day : Stmt := topS 6
abbrev N_page_day : List Str := ["page"]
theorem S_page_day : FnScope N_page_day ["page"] (defScope s_page_day) := ⟨rfl, rfl, rfl, by decide +kernel, rfl, by decide +kernel, by decide +kernel⟩
abbrev s_page_kind : Stmt := topS 7
abbrev N_page_kind : List Str := ["page"]
theorem S_page_kind : FnScope N_page_kind ["page"] (defScope s_page_kind) := ⟨rfl, rfl, rfl, by decide +kernel, rfl, by decide +kernel, by decide +kernel⟩
abbrev s_names_of : Stmt := topS 8
abbrev N_names_of : List Str := ["page", "form", "part"]
theorem S_names_of : FnScope N_names_of ["page"] (defScope s_names_of) := ⟨rfl, rfl, rfl, by decide +kernel, rfl, by decide +kernel, by decide +kernel⟩
abbrev s_page_place : Stmt := topS 9
abbrev N_page_place : List Str := ["page"]
theorem S_page_place : FnScope N_page_place ["page"] (defScope s_page_place) := ⟨rfl, rfl, rfl, by decide +kernel, rfl, by decide +kernel, by decide +kernel⟩
abbrev s_up_to : Stmt := topS 11
abbrev N_up_to : List Str := ["book", "day", "page"]
theorem S_up_to : FnScope N_up_to ["book", "day"] (defScope s_up_to) := ⟨rfl, rfl, rfl, by decide +kernel, rfl, by decide +kernel, by decide +kernel⟩
abbrev s_can_be_done : Stmt := topS 14
abbrev N_can_be_done : List Str := ["homes", "known", "page", "names", "name"]
theorem S_can_be_done : FnScope N_can_be_done ["homes", "known", "page"] (defScope s_can_be_done) := ⟨rfl, rfl, rfl, by decide +kernel, rfl, by decide +kernel, by decide +kernel⟩
abbrev s_turn_houses : Stmt := topS 15
abbrev N_turn_houses : List Str := ["homes", "known", "page", "kind", "names"]
theorem S_turn_houses : FnScope N_turn_houses ["homes", "known", "page"] (defScope s_turn_houses) := ⟨rfl, rfl, rfl, by decide +kernel, rfl, by decide +kernel, by decide +kernel⟩
abbrev s_add_mourning : Stmt := topS 17
abbrev N_add_mourning : List Str := ["mourning", "page", "kind", "day", "name", "many", "days", "later"]
theorem S_add_mourning : FnScope N_add_mourning ["mourning", "page"] (defScope s_add_mourning) := ⟨rfl, rfl, rfl, by decide +kernel, rfl, by decide +kernel, by decide +kernel⟩
abbrev s_is_mourning : Stmt := topS 18
abbrev N_is_mourning : List Str := ["mourning", "name", "day"]
theorem S_is_mourning : FnScope N_is_mourning ["mourning", "name", "day"] (defScope s_is_mourning) := ⟨rfl, rfl, rfl, by decide +kernel, rfl, by decide +kernel, by decide +kernel⟩
abbrev s_falls_left : Stmt := topS 21
abbrev N_falls_left : List Str := ["terms", "due", "ower", "owed", "sort", "page", "falls", "term"]
theorem S_falls_left : FnScope N_falls_left ["terms", "due"] (defScope s_falls_left) := ⟨rfl, rfl, rfl, by decide +kernel, rfl, by decide +kernel, by decide +kernel⟩
abbrev s_is_rude : Stmt := topS 22
abbrev N_is_rude : List Str := ["terms", "due"]
theorem S_is_rude : FnScope N_is_rude ["terms", "due"] (defScope s_is_rude) := ⟨rfl, rfl, rfl, by decide +kernel, rfl, by decide +kernel, by decide +kernel⟩
abbrev s_due_place : Stmt := topS 23
abbrev N_due_place : List Str := ["due"]
theorem S_due_place : FnScope N_due_place ["due"] (defScope s_due_place) := ⟨rfl, rfl, rfl, by decide +kernel, rfl, by decide +kernel, by decide +kernel⟩
abbrev s_put_for : Stmt := topS 24
abbrev N_put_for : List Str := ["due", "a", "b", "name"]
theorem S_put_for : FnScope N_put_for ["due", "a", "b"] (defScope s_put_for) := ⟨rfl, rfl, rfl, by decide +kernel, rfl, by decide +kernel, by decide +kernel⟩
abbrev s_staying_place : Stmt := topS 25
abbrev N_staying_place : List Str := ["due", "falls"]
theorem S_staying_place : FnScope N_staying_place ["due"] (defScope s_staying_place) := ⟨rfl, rfl, rfl, by decide +kernel, rfl, by decide +kernel, by decide +kernel⟩
abbrev s_made_one : Stmt := topS 26
abbrev N_made_one : List Str := ["some", "kept", "due", "key"]
theorem S_made_one : FnScope N_made_one ["some"] (defScope s_made_one) := ⟨rfl, rfl, rfl, by decide +kernel, rfl, by decide +kernel, by decide +kernel⟩
abbrev s_Walk___init__ : Stmt := clsS 27 0
abbrev N_Walk___init__ : List Str := ["self", "limits"]
theorem S_Walk___init__ : FnScope N_Walk___init__ ["self", "limits"] (defScope s_Walk___init__) := ⟨rfl, rfl, rfl, by decide +kernel, rfl, by decide +kernel, by decide +kernel⟩
abbrev s_Walk_mourns_on : Stmt := clsS 27 1
abbrev N_Walk_mourns_on : List Str := ["self", "name", "day"]
theorem S_Walk_mourns_on : FnScope N_Walk_mourns_on ["self", "name", "day"] (defScope s_Walk_mourns_on) := ⟨rfl, rfl, rfl, by decide +kernel, rfl, by decide +kernel, by decide +kernel⟩
abbrev s_Walk_at_home_on : Stmt := clsS 27 2
abbrev N_Walk_at_home_on : List Str := ["self", "name", "day"]
theorem S_Walk_at_home_on : FnScope N_Walk_at_home_on ["self", "name", "day"] (defScope s_Walk_at_home_on) := ⟨rfl, rfl, rfl, by decide +kernel, rfl, by decide +kernel, by decide +kernel⟩
abbrev s_Walk_do_page : Stmt := clsS 27 3
abbrev N_Walk_do_page : List Str := ["self", "page", "kind"]
theorem S_Walk_do_page : FnScope N_Walk_do_page ["self", "page"] (defScope s_Walk_do_page) := ⟨rfl, rfl, rfl, by decide +kernel, rfl, by decide +kernel, by decide +kernel⟩
abbrev s_Walk_go_out : Stmt := clsS 27 4
abbrev N_Walk_go_out : List Str := ["self", "page", "kind", "day", "a", "b", "met", "answers", "due"]
theorem S_Walk_go_out : FnScope N_Walk_go_out ["self", "page"] (defScope s_Walk_go_out) := ⟨rfl, rfl, rfl, by decide +kernel, rfl, by decide +kernel, by decide +kernel⟩
abbrev s_Walk_part_dues : Stmt := clsS 27 5
abbrev N_Walk_part_dues : List Str := ["self", "names", "copies", "due"]
theorem S_Walk_part_dues : FnScope N_Walk_part_dues ["self", "names"] (defScope s_Walk_part_dues) := ⟨rfl, rfl, rfl, by decide +kernel, rfl, by decide +kernel, by decide +kernel⟩
abbrev s_Walk_join_dues : Stmt := clsS 27 6
abbrev N_Walk_join_dues : List Str := ["self", "names", "a", "b", "others", "kept", "due"]
theorem S_Walk_join_dues : FnScope N_Walk_join_dues ["self", "names"] (defScope s_Walk_join_dues) := ⟨rfl, rfl, rfl, by decide +kernel, rfl, by decide +kernel, by decide +kernel⟩
abbrev s_Walk_falls_on : Stmt := clsS 27 7
abbrev N_Walk_falls_on : List Str := ["self", "due", "day"]
theorem S_Walk_falls_on : FnScope N_Walk_falls_on ["self", "due", "day"] (defScope s_Walk_falls_on) := ⟨rfl, rfl, rfl, by decide +kernel, rfl, by decide +kernel, by decide +kernel⟩
abbrev s_Walk_end_day : Stmt := clsS 27 8
abbrev N_Walk_end_day : List Str := ["self", "day", "due"]
theorem S_Walk_end_day : FnScope N_Walk_end_day ["self", "day"] (defScope s_Walk_end_day) := ⟨rfl, rfl, rfl, by decide +kernel, rfl, by decide +kernel, by decide +kernel⟩
abbrev s_walked : Stmt := topS 28
abbrev N_walked : List Str := ["book", "terms", "day", "by_days", "page", "walk", "today"]
theorem S_walked : FnScope N_walked ["book", "terms", "day"] (defScope s_walked) := ⟨rfl, rfl, rfl, by decide +kernel, rfl, by decide +kernel, by decide +kernel⟩
abbrev s_dues : Stmt := topS 29
abbrev N_dues : List Str := ["book", "terms", "day"]
theorem S_dues : FnScope N_dues ["book", "terms", "day"] (defScope s_dues) := ⟨rfl, rfl, rfl, by decide +kernel, rfl, by decide +kernel, by decide +kernel⟩
abbrev s_marks : Stmt := topS 30
abbrev N_marks : List Str := ["book", "terms", "day"]
theorem S_marks : FnScope N_marks ["book", "terms", "day"] (defScope s_marks) := ⟨rfl, rfl, rfl, by decide +kernel, rfl, by decide +kernel, by decide +kernel⟩
abbrev s_triple_place : Stmt := topS 32
abbrev N_triple_place : List Str := ["triple"]
theorem S_triple_place : FnScope N_triple_place ["triple"] (defScope s_triple_place) := ⟨rfl, rfl, rfl, by decide +kernel, rfl, by decide +kernel, by decide +kernel⟩
abbrev s_answered : Stmt := topS 33
abbrev N_answered : List Str := ["book", "terms", "day", "rows", "page", "some", "triples", "ower", "owed", "sort", "made", "falls"]
theorem S_answered : FnScope N_answered ["book", "terms", "day"] (defScope s_answered) := ⟨rfl, rfl, rfl, by decide +kernel, rfl, by decide +kernel, by decide +kernel⟩
abbrev s_w_feed : Stmt := topS 35
abbrev N_w_feed : List Str := ["_law_script"]
theorem S_w_feed : FnScope N_w_feed ["_law_script"] (defScope s_w_feed) := ⟨rfl, rfl, rfl, by decide +kernel, rfl, by decide +kernel, by decide +kernel⟩
abbrev s_w_draw : Stmt := topS 36
abbrev N_w_draw : List Str := ["_law_feed_here", "_law_many", "_law_turn", "_law_found", "_law_at", "_law_cell", "_law_mixed"]
theorem S_w_draw : FnScope N_w_draw ["_law_feed_here", "_law_many"] (defScope s_w_draw) := ⟨rfl, rfl, rfl, by decide +kernel, rfl, by decide +kernel, by decide +kernel⟩
abbrev s_w_names : Stmt := topS 37
abbrev N_w_names : List Str := ["_law_feed_here", "_law_way", "_law_some", "_law_letters", "_law_size", "_law_first", "_law_at", "_law_k", "_law_word", "_law_sign"]
theorem S_w_names : FnScope N_w_names ["_law_feed_here"] (defScope s_w_names) := ⟨rfl, rfl, rfl, by decide +kernel, rfl, by decide +kernel, by decide +kernel⟩
abbrev s_w_rank : Stmt := topS 38
abbrev N_w_rank : List Str := ["_law_page", "_law_kinds"]
theorem S_w_rank : FnScope N_w_rank ["_law_page"] (defScope s_w_rank) := ⟨rfl, rfl, rfl, by decide +kernel, rfl, by decide +kernel, by decide +kernel⟩
abbrev s_w_gone : Stmt := topS 39
abbrev N_w_gone : List Str := ["_law_feed_here", "_law_day", "_law_b", "_law_a", "_law_c", "_law_made", "_law_others", "_law_k", "_law_kind"]
theorem S_w_gone : FnScope N_w_gone ["_law_feed_here", "_law_day", "_law_b", "_law_a", "_law_c"] (defScope s_w_gone) := ⟨rfl, rfl, rfl, by decide +kernel, rfl, by decide +kernel, by decide +kernel⟩
abbrev s_law : Stmt := topS 40
abbrev N_law : List Str := ["_law_script", "_law_feed_here", "_law_way", "_law_first", "_law_many", "_law_a", "_law_b", "_law_c", "_law_begin", "_law_week", "_law_home", "_law_pages", "_law_made", "_law_others", "_law_day", "_law_back", "_law_book", "_law_terms", "_law_page", "_law_some", "_law_due", "_law_told", "_law_rows", "_law_pair", "_law_k", "_law_one", "_law_row"]
theorem S_law : FnScope N_law ["_law_script"] (defScope s_law) := ⟨rfl, rfl, rfl, by decide +kernel, rfl, by decide +kernel, by decide +kernel⟩
structure Tx (K : PySem.W.Frag) (mg : Str → Option Value) (w : World) where
  C_Walk : Addr
  gC_Walk : mg "Walk" = some (.ref C_Walk)
  cl_Walk : Cls K C_Walk
  na_Walk_limits : NoAttr K C_Walk "limits"
  na_Walk_homes : NoAttr K C_Walk "homes"
  na_Walk_mourning : NoAttr K C_Walk "mourning"
  na_Walk_known : NoAttr K C_Walk "known"
  na_Walk_dues : NoAttr K C_Walk "dues"
  na_Walk_marks : NoAttr K C_Walk "marks"
  na_Walk_answers : NoAttr K C_Walk "answers"
  na_Walk_copied : NoAttr K C_Walk "copied"
  na_Walk_struck : NoAttr K C_Walk "struck"
  na_Walk_spare : NoAttr K C_Walk "spare"
  f_weekday : Addr
  d_weekday : FuncData
  F_weekday : Fun K "weekday" "weekday" s_weekday f_weekday d_weekday
  g_weekday : mg "weekday" = some (.ref f_weekday)
  b_weekday : Binds K d_weekday ["day"] []
  f_page_day : Addr
  d_page_day : FuncData
  F_page_day : Fun K "page_day" "page_day" s_page_day f_page_day d_page_day
  g_page_day : mg "page_day" = some (.ref f_page_day)
  b_page_day : Binds K d_page_day ["page"] []
  f_page_kind : Addr
  d_page_kind : FuncData
  F_page_kind : Fun K "page_kind" "page_kind" s_page_kind f_page_kind d_page_kind
  g_page_kind : mg "page_kind" = some (.ref f_page_kind)
  b_page_kind : Binds K d_page_kind ["page"] []
  f_names_of : Addr
  d_names_of : FuncData
  k_names_of : Addr
  P_names_of : Addr
  F_names_of : GE.FunC K "names_of" "names_of" s_names_of f_names_of d_names_of k_names_of
  g_names_of : mg "names_of" = some (.ref f_names_of)
  b_names_of : Binds K d_names_of ["page"] []
  f_page_place : Addr
  d_page_place : FuncData
  F_page_place : Fun K "page_place" "page_place" s_page_place f_page_place d_page_place
  g_page_place : mg "page_place" = some (.ref f_page_place)
  b_page_place : Binds K d_page_place ["page"] []
  f_up_to : Addr
  d_up_to : FuncData
  k_up_to : Addr
  P_up_to : Addr
  F_up_to : GE.FunC K "up_to" "up_to" s_up_to f_up_to d_up_to k_up_to
  g_up_to : mg "up_to" = some (.ref f_up_to)
  b_up_to : Binds K d_up_to ["book", "day"] []
  f_can_be_done : Addr
  d_can_be_done : FuncData
  k_can_be_done : Addr
  P_can_be_done : Addr
  F_can_be_done : GE.FunC K "can_be_done" "can_be_done" s_can_be_done f_can_be_done d_can_be_done k_can_be_done
  g_can_be_done : mg "can_be_done" = some (.ref f_can_be_done)
  b_can_be_done : Binds K d_can_be_done ["homes", "known", "page"] []
  f_turn_houses : Addr
  d_turn_houses : FuncData
  F_turn_houses : Fun K "turn_houses" "turn_houses" s_turn_houses f_turn_houses d_turn_houses
  g_turn_houses : mg "turn_houses" = some (.ref f_turn_houses)
  b_turn_houses : Binds K d_turn_houses ["homes", "known", "page"] []
  f_add_mourning : Addr
  d_add_mourning : FuncData
  F_add_mourning : Fun K "add_mourning" "add_mourning" s_add_mourning f_add_mourning d_add_mourning
  g_add_mourning : mg "add_mourning" = some (.ref f_add_mourning)
  b_add_mourning : Binds K d_add_mourning ["mourning", "page"] []
  f_is_mourning : Addr
  d_is_mourning : FuncData
  F_is_mourning : Fun K "is_mourning" "is_mourning" s_is_mourning f_is_mourning d_is_mourning
  g_is_mourning : mg "is_mourning" = some (.ref f_is_mourning)
  b_is_mourning : Binds K d_is_mourning ["mourning", "name", "day"] []
  f_falls_left : Addr
  d_falls_left : FuncData
  F_falls_left : Fun K "falls_left" "falls_left" s_falls_left f_falls_left d_falls_left
  g_falls_left : mg "falls_left" = some (.ref f_falls_left)
  b_falls_left : Binds K d_falls_left ["terms", "due"] []
  f_is_rude : Addr
  d_is_rude : FuncData
  F_is_rude : Fun K "is_rude" "is_rude" s_is_rude f_is_rude d_is_rude
  g_is_rude : mg "is_rude" = some (.ref f_is_rude)
  b_is_rude : Binds K d_is_rude ["terms", "due"] []
  f_due_place : Addr
  d_due_place : FuncData
  F_due_place : Fun K "due_place" "due_place" s_due_place f_due_place d_due_place
  g_due_place : mg "due_place" = some (.ref f_due_place)
  b_due_place : Binds K d_due_place ["due"] []
  f_put_for : Addr
  d_put_for : FuncData
  k_put_for : Addr
  P_put_for : Addr
  F_put_for : GE.FunC K "put_for" "put_for" s_put_for f_put_for d_put_for k_put_for
  g_put_for : mg "put_for" = some (.ref f_put_for)
  b_put_for : Binds K d_put_for ["due", "a", "b"] []
  f_staying_place : Addr
  d_staying_place : FuncData
  F_staying_place : Fun K "staying_place" "staying_place" s_staying_place f_staying_place d_staying_place
  g_staying_place : mg "staying_place" = some (.ref f_staying_place)
  b_staying_place : Binds K d_staying_place ["due"] []
  f_made_one : Addr
  d_made_one : FuncData
  F_made_one : Fun K "made_one" "made_one" s_made_one f_made_one d_made_one
  g_made_one : mg "made_one" = some (.ref f_made_one)
  b_made_one : Binds K d_made_one ["some"] []
  f_Walk___init__ : Addr
  d_Walk___init__ : FuncData
  F_Walk___init__ : Fun K "__init__" "Walk.__init__" s_Walk___init__ f_Walk___init__ d_Walk___init__
  mk_Walk : Mk K C_Walk f_Walk___init__
  b_Walk___init__ : Binds K d_Walk___init__ ["self", "limits"] []
  f_Walk_mourns_on : Addr
  d_Walk_mourns_on : FuncData
  F_Walk_mourns_on : Fun K "mourns_on" "Walk.mourns_on" s_Walk_mourns_on f_Walk_mourns_on d_Walk_mourns_on
  me_Walk_mourns_on : Meth K C_Walk "mourns_on" f_Walk_mourns_on
  b_Walk_mourns_on : Binds K d_Walk_mourns_on ["self", "name", "day"] []
  f_Walk_at_home_on : Addr
  d_Walk_at_home_on : FuncData
  F_Walk_at_home_on : Fun K "at_home_on" "Walk.at_home_on" s_Walk_at_home_on f_Walk_at_home_on d_Walk_at_home_on
  me_Walk_at_home_on : Meth K C_Walk "at_home_on" f_Walk_at_home_on
  b_Walk_at_home_on : Binds K d_Walk_at_home_on ["self", "name", "day"] []
  f_Walk_do_page : Addr
  d_Walk_do_page : FuncData
  F_Walk_do_page : Fun K "do_page" "Walk.do_page" s_Walk_do_page f_Walk_do_page d_Walk_do_page
  me_Walk_do_page : Meth K C_Walk "do_page" f_Walk_do_page
  b_Walk_do_page : Binds K d_Walk_do_page ["self", "page"] []
  f_Walk_go_out : Addr
  d_Walk_go_out : FuncData
  F_Walk_go_out : Fun K "go_out" "Walk.go_out" s_Walk_go_out f_Walk_go_out d_Walk_go_out
  me_Walk_go_out : Meth K C_Walk "go_out" f_Walk_go_out
  b_Walk_go_out : Binds K d_Walk_go_out ["self", "page"] []
  f_Walk_part_dues : Addr
  d_Walk_part_dues : FuncData
  F_Walk_part_dues : Fun K "part_dues" "Walk.part_dues" s_Walk_part_dues f_Walk_part_dues d_Walk_part_dues
  me_Walk_part_dues : Meth K C_Walk "part_dues" f_Walk_part_dues
  b_Walk_part_dues : Binds K d_Walk_part_dues ["self", "names"] []
  f_Walk_join_dues : Addr
  d_Walk_join_dues : FuncData
  F_Walk_join_dues : Fun K "join_dues" "Walk.join_dues" s_Walk_join_dues f_Walk_join_dues d_Walk_join_dues
  me_Walk_join_dues : Meth K C_Walk "join_dues" f_Walk_join_dues
  b_Walk_join_dues : Binds K d_Walk_join_dues ["self", "names"] []
  f_Walk_falls_on : Addr
  d_Walk_falls_on : FuncData
  F_Walk_falls_on : Fun K "falls_on" "Walk.falls_on" s_Walk_falls_on f_Walk_falls_on d_Walk_falls_on
  me_Walk_falls_on : Meth K C_Walk "falls_on" f_Walk_falls_on
  b_Walk_falls_on : Binds K d_Walk_falls_on ["self", "due", "day"] []
  f_Walk_end_day : Addr
  d_Walk_end_day : FuncData
  F_Walk_end_day : Fun K "end_day" "Walk.end_day" s_Walk_end_day f_Walk_end_day d_Walk_end_day
  me_Walk_end_day : Meth K C_Walk "end_day" f_Walk_end_day
  b_Walk_end_day : Binds K d_Walk_end_day ["self", "day"] []
  f_walked : Addr
  d_walked : FuncData
  F_walked : Fun K "walked" "walked" s_walked f_walked d_walked
  g_walked : mg "walked" = some (.ref f_walked)
  b_walked : Binds K d_walked ["book", "terms", "day"] []
  f_dues : Addr
  d_dues : FuncData
  F_dues : Fun K "dues" "dues" s_dues f_dues d_dues
  g_dues : mg "dues" = some (.ref f_dues)
  b_dues : Binds K d_dues ["book", "terms", "day"] []
  f_marks : Addr
  d_marks : FuncData
  F_marks : Fun K "marks" "marks" s_marks f_marks d_marks
  g_marks : mg "marks" = some (.ref f_marks)
  b_marks : Binds K d_marks ["book", "terms", "day"] []
  f_triple_place : Addr
  d_triple_place : FuncData
  F_triple_place : Fun K "triple_place" "triple_place" s_triple_place f_triple_place d_triple_place
  g_triple_place : mg "triple_place" = some (.ref f_triple_place)
  b_triple_place : Binds K d_triple_place ["triple"] []
  f_answered : Addr
  d_answered : FuncData
  F_answered : Fun K "answered" "answered" s_answered f_answered d_answered
  g_answered : mg "answered" = some (.ref f_answered)
  b_answered : Binds K d_answered ["book", "terms", "day"] []
  f_w_feed : Addr
  d_w_feed : FuncData
  F_w_feed : Fun K "_law_feed" "_law_feed" s_w_feed f_w_feed d_w_feed
  g_w_feed : mg "_law_feed" = some (.ref f_w_feed)
  b_w_feed : Binds K d_w_feed ["_law_script"] []
  f_w_draw : Addr
  d_w_draw : FuncData
  F_w_draw : Fun K "_law_draw" "_law_draw" s_w_draw f_w_draw d_w_draw
  g_w_draw : mg "_law_draw" = some (.ref f_w_draw)
  b_w_draw : Binds K d_w_draw ["_law_feed_here", "_law_many"] []
  f_w_names : Addr
  d_w_names : FuncData
  F_w_names : Fun K "_law_names" "_law_names" s_w_names f_w_names d_w_names
  g_w_names : mg "_law_names" = some (.ref f_w_names)
  b_w_names : Binds K d_w_names ["_law_feed_here"] []
  f_w_rank : Addr
  d_w_rank : FuncData
  F_w_rank : Fun K "_law_rank" "_law_rank" s_w_rank f_w_rank d_w_rank
  g_w_rank : mg "_law_rank" = some (.ref f_w_rank)
  b_w_rank : Binds K d_w_rank ["_law_page"] []
  f_w_gone : Addr
  d_w_gone : FuncData
  F_w_gone : Fun K "_law_gone" "_law_gone" s_w_gone f_w_gone d_w_gone
  g_w_gone : mg "_law_gone" = some (.ref f_w_gone)
  b_w_gone : Binds K d_w_gone ["_law_feed_here", "_law_day", "_law_b", "_law_a", "_law_c"] []
  f_law : Addr
  d_law : FuncData
  F_law : Fun K "law" "law" s_law f_law d_law
  g_law : mg "law" = some (.ref f_law)
  b_law : Binds K d_law ["_law_script"] []
  t_WEEK : Tok
  c_WEEK : mg "WEEK" = some (.int 7 t_WEEK)
  a_KINDS : Addr
  c_KINDS : mg "KINDS" = some (.ref a_KINDS)
  w_KINDS : KT K a_KINDS [.str "house", .str "part", .str "join", .str "home", .str "mourn", .str "ahead", .str "card", .str "visit"]
  wn_KINDS : ∃ o, K.lookup a_KINDS = some o ∧ o.cls = .type "tuple" ∧ o.dict = none
  a_FORMS : Addr
  c_FORMS : mg "FORMS" = some (.ref a_FORMS)
  w_FORMS_house : ∃ r, KDct K w a_FORMS "house" (.ref r) ∧ KT K r [.str "name", .str "home"]
  w_FORMS_part : ∃ r, KDct K w a_FORMS "part" (.ref r) ∧ KT K r [.str "name", .str "name", .str "home"]
  w_FORMS_join : ∃ r, KDct K w a_FORMS "join" (.ref r) ∧ KT K r [.str "name", .str "name"]
  w_FORMS_home : ∃ r, KDct K w a_FORMS "home" (.ref r) ∧ KT K r [.str "name", .str "home"]
  w_FORMS_mourn : ∃ r, KDct K w a_FORMS "mourn" (.ref r) ∧ KT K r [.str "name", .str "many"]
  w_FORMS_ahead : ∃ r, KDct K w a_FORMS "ahead" (.ref r) ∧ KT K r [.str "name", .str "name"]
  w_FORMS_card : ∃ r, KDct K w a_FORMS "card" (.ref r) ∧ KT K r [.str "name", .str "name"]
  w_FORMS_visit : ∃ r, KDct K w a_FORMS "visit" (.ref r) ∧ KT K r [.str "name", .str "name"]
  a_COMING : Addr
  c_COMING : mg "COMING" = some (.ref a_COMING)
  w_COMING : KT K a_COMING [.str "house", .str "part"]
  wn_COMING : ∃ o, K.lookup a_COMING = some o ∧ o.cls = .type "tuple" ∧ o.dict = none
  a_GOINGS : Addr
  c_GOINGS : mg "GOINGS" = some (.ref a_GOINGS)
  w_GOINGS : KT K a_GOINGS [.str "card", .str "visit"]
  wn_GOINGS : ∃ o, K.lookup a_GOINGS = some o ∧ o.cls = .type "tuple" ∧ o.dict = none
  m_all : mg "all" = none
  m_int : mg "int" = none
  m_len : mg "len" = none
  m_list : mg "list" = none
  m_min : mg "min" = none
  m_range : mg "range" = none
  m_repr : mg "repr" = none
  m_sorted : mg "sorted" = none
  m_tuple : mg "tuple" = none
  m_zip : mg "zip" = none
structure Tb {K : PySem.W.Frag} {mg : Str → Option Value} {w : World} (T : Tx K mg w) (base : Heap) : Prop where
  b_names_of : GxR.TabB base mg T.k_names_of T.P_names_of
  b_up_to : GxR.TabB base mg T.k_up_to T.P_up_to
  b_can_be_done : GxR.TabB base mg T.k_can_be_done T.P_can_be_done
  b_put_for : GxR.TabB base mg T.k_put_for T.P_put_for
/-- the tables of the codes that have some -/
def tbs {K : PySem.W.Frag} {mg : Str → Option Value} {w : World} (T : Tx K mg w) : List Addr := [T.P_names_of, T.P_up_to, T.P_can_be_done, T.P_put_for]
section
variable {P : Program} {w : World} {K : PySem.W.Frag} {mg : Str → Option Value} {base : Heap}
/-- the feed's dict -/
def kf (c s r n : V) : List (Key × V) := [(.inr "cells", c), (.inr "at", s), (.inr "left", r), (.inr "turn", n)]
theorem kf_len (c s r n : V) : (kf c s r n).length < sizeLine := small1000 (by show 4 ≤ 1000; decide)
theorem gf_cells {H : Hp} {t : Addr} {c s r n : V} (h : H t = some (.dK (kf c s r n))) : DGet H t (.str "cells") (some c) := DGet.k (k := .inr "cells") h
theorem gf_at {H : Hp} {t : Addr} {c s r n : V} (h : H t = some (.dK (kf c s r n))) : DGet H t (.str "at") (some s) := DGet.k (k := .inr "at") h
theorem gf_left {H : Hp} {t : Addr} {c s r n : V} (h : H t = some (.dK (kf c s r n))) : DGet H t (.str "left") (some r) := DGet.k (k := .inr "left") h
theorem gf_turn {H : Hp} {t : Addr} {c s r n : V} (h : H t = some (.dK (kf c s r n))) : DGet H t (.str "turn") (some n) := DGet.k (k := .inr "turn") h
theorem pf_at {H : Hp} {t : Addr} {c s r n v : V} (h : H t = some (.dK (kf c s r n))) : DPut H t (.str "at") v (upd H t (.dK (kf c v r n))) := DPut.k (k := .inr "at") h (kf_len _ _ _ _)
theorem pf_left {H : Hp} {t : Addr} {c s r n v : V} (h : H t = some (.dK (kf c s r n))) : DPut H t (.str "left") v (upd H t (.dK (kf c s v n))) := DPut.k (k := .inr "left") h (kf_len _ _ _ _)
theorem pf_turn {H : Hp} {t : Addr} {c s r n v : V} (h : H t = some (.dK (kf c s r n))) : DPut H t (.str "turn") v (upd H t (.dK (kf c s r v))) := DPut.k (k := .inr "turn") h (kf_len _ _ _ _)
/-- the feed at t, its cells at c, so many draws at most -/
def FeedC (H : Hp) (t c : Addr) (n : Nat) : Prop := ∃ (ns : List Int) (sp re ca : Int),
  H t = some (.dK (kf (.ref c) (.int sp) (.int re) (.int ca))) ∧ H c = some (.lst (ns.map V.int)) ∧ ns.length ≤ 63 ∧ 0 ≤ sp ∧ 0 ≤ re ∧ 0 ≤ ca ∧ ca ≤ n
theorem FeedC.mono {H : Hp} {t c : Addr} {n m : Nat} (h : FeedC H t c n) (le : n ≤ m) : FeedC H t c m := by
  obtain ⟨ns, sp, re, ca, e1, e2, a, b, d, e, f⟩ := h
  exact ⟨ns, sp, re, ca, e1, e2, a, b, d, e, by omega⟩
theorem FeedC.same {H H' : Hp} {t c : Addr} {n : Nat} (h : FeedC H t c n) (s : Same H H') : FeedC H' t c n := by
  obtain ⟨ns, sp, re, ca, e1, e2, r⟩ := h
  exact ⟨ns, sp, re, ca, s _ _ e1, s _ _ e2, r⟩
theorem FeedC.new {H : Hp} {t c p : Addr} {o : HO} {n : Nat} (h : FeedC H t c n) (hp : H p = none) : FeedC (upd H p o) t c n := h.same (same_upd hp)
theorem FeedC.ne {H : Hp} {t c p : Addr} {n : Nat} (h : FeedC H t c n) (hp : H p = none) : p ≠ t ∧ p ≠ c := by
  obtain ⟨ns, sp, re, ca, e1, e2, r⟩ := h
  exact ⟨(fun z => by rw [z, e1] at hp; cases hp), (fun z => by rw [z, e2] at hp; cases hp)⟩
theorem FeedC.updO {H : Hp} {t c b : Addr} {n : Nat} {o : HO} (h : FeedC H t c n) (h1 : b ≠ t) (h2 : b ≠ c) : FeedC (upd H b o) t c n := by
  obtain ⟨ns, sp, re, ca, e1, e2, r⟩ := h
  exact ⟨ns, sp, re, ca, by rw [upd_ne h1.symm]; exact e1, by rw [upd_ne h2.symm]; exact e2, r⟩
theorem kp_fresh {H H1 : Hp} {t p : Addr} {o : HO} (hp : H p = none) (k : Kp t H H1) : Kp t H (upd H1 p o) := fun b x n h => by
  rw [upd_ne (ne_of_none h hp)]
  exact k b x n h
theorem same_fresh {H H1 : Hp} {p : Addr} {o : HO} (hp : H p = none) (k : Same H H1) : Same H (upd H1 p o) := fun b x h => by
  rw [upd_ne (ne_of_none h hp)]
  exact k _ _ h
theorem FeedC.tups {H H' : Hp} {t c : Addr} {n : Nat} (h : FeedC H t c n) (k : Kp t H H') : Tups H H' := fun b xs e => k b _ (fun z => by
  obtain ⟨ns, sp, re, ca, e1, _⟩ := h
  rw [z, e1] at e
  cases e) e
theorem FeedC.tupNe {H : Hp} {t c a : Addr} {n : Nat} {xs : List V} (h : FeedC H t c n) (e : H a = some (.tup xs)) : a ≠ t := fun z => by
  obtain ⟨ns, sp, re, ca, e1, _⟩ := h
  rw [z, e1] at e
  cases e
theorem fresh_fin (o : HO) {H : Hp} {p : Addr} (n : H p = none) {G : Hp → Prop} (k : ∀ H', Same H H' → H' p = some o → G H') : G (upd H p o) := k _ (same_upd n) upd_same
def spFeed (K : PySem.W.Frag) : Sp := fun vs H Q _ => ∃ (a : Addr) (ns : List Int), vs = [.ref a] ∧ SqL K H a (ns.map V.int) ∧
  ∀ t c H', Same H H' → H t = none → FeedC H' t c 0 → Q (.ref t) H'
theorem ok_feed (T : Tx K mg w) : FnOk P w K mg base CX0 1 T.f_w_feed T.d_w_feed ["_law_script"] (spFeed K) := by
  refine T.F_w_feed.ok S_w_feed (fun vs H Q E h => ?_) (fun cdv A outer s H vs Q E hr h => ?_)
  · obtain ⟨a, ns, rfl, _⟩ := h
    rfl
  · obtain ⟨a, ns, rfl, hS, q⟩ := h
    refine ⟨_, (pss_one (ps_ret (pe_disp (pps_cons pe_str (pe_callTy call_list_of (by rfl) T.m_list (by decide +kernel) (pa_cons (pe_slice sl_list (pv 0) po_none (po_some pe_int)) pa_nil)) (pps_cons pe_str pe_int (pps_cons pe_str pe_int (pps_cons pe_str pe_int pps_nil)))) (by rfl) (by rfl) (fun z => by cases z) (by decide)))), ?_⟩
    intro t nt
    have s1 := same_upd (o := .dK []) nt
    refine ⟨.ref a, rfl, 63, rfl, a, _, rfl, s1.seq hS, fun p np => ?_⟩
    have s2 := same_upd (o := .lst (cutV (ns.map V.int) none (some 63))) np
    refine ⟨p, _, rfl, .inl (.inl (.inl upd_same)), fun c nc => ?_⟩
    have s3 := same_upd (o := .lst (cutV (ns.map V.int) none (some 63))) nc
    have ht := s3 _ _ (s2 _ _ (upd_same (H := H) (a := t) (o := .dK [])))
    refine ⟨ht, kf (.ref c) (.int 0) (.int 0) (.int 0), rfl, by show 4 ≤ 15; decide, ?_⟩
    refine q t c _ (fun b o e => ?_) nt ?_
    · rw [upd_ne (ne_of_none e nt)]
      exact s3 _ _ (s2 _ _ (s1 _ _ e))
    · have hct : c ≠ t := fun z => by
        rw [z, s2 _ _ (upd_same (H := H) (a := t) (o := .dK []))] at nc
        cases nc
      refine ⟨ns.take 63, 0, 0, 0, upd_same, ?_, ?_, by decide, by decide, by decide, by decide⟩
      · rw [upd_ne hct, upd_same]
        congr 2
        unfold cutV
        rw [HT.sIx_none, show HT.sIx (ns.map V.int).length (ns.map V.int).length (some 63) = min 63 (ns.map V.int).length from HT.sIx_nat _ _ 63]
        simp only [List.drop_zero, Nat.sub_zero, List.length_map, ← List.map_take]
        congr 1
        rw [← List.take_take]
        simp
      · rw [List.length_take]
        omega
theorem pow5c (y c : Int) (h0 : 0 ≤ c) (h1 : c ≤ 1000001) : CPow (y % 2147483647 + 104729 * c) 5 := by
  have := Int.emod_nonneg y (show (2147483647 : Int) ≠ 0 by decide)
  have := Int.emod_lt_of_pos y (show (0 : Int) < 2147483647 by decide)
  exact ⟨by decide, by decide, by omega⟩
def spDraw : Sp := fun vs H Q _ => ∃ (t : Addr) (m : Int) (n : Nat) (c : Addr), vs = [.ref t, .int m] ∧ 0 < m ∧ m < 1000000 ∧ FeedC H t c n ∧ n < 1000000 ∧
  ∀ v H', 0 ≤ v → v < m → FeedC H' t c (n + 1) → Kp t H H' → Q (.int v) H'
theorem ok_draw (T : Tx K mg w) : FnOk P w K mg base CX0 1 T.f_w_draw T.d_w_draw ["_law_feed_here", "_law_many"] (spDraw) := by
  refine T.F_w_draw.ok S_w_draw (fun vs H Q E h => ?_) (fun cdv A outer s H vs Q E hr h => ?_)
  · obtain ⟨t, m, n, c, rfl, _⟩ := h
    rfl
  · obtain ⟨t, m, n, c, rfl, m0, m1, ⟨ns, sp, re, ca, hT, hC, hn, sp0, re0, ca0, ca1⟩, n1, q⟩ := h
    have hct : c ≠ t := fun z => by
      rw [z, hT] at hC
      cases hC
    refine ⟨_, (pss_cons (ps_set (i := 2) S_w_draw.nd rfl (.inl rfl) (pe_op op_add (pe_dget (hu_of hr) (pv 0) pe_str (fun _ _ => rfl)) pe_int))
      (pss_cons (ps_dput (hu_of hr) (pv 0) pe_str (pv 2) rfl)
      (pss_cons (ps_if (pt_cmpR op_gt (pe_dget (hu_of hr) (pv 0) pe_str (fun _ _ => rfl)) pe_int (nomark _)) (pss_cons (ps_set (i := 3) S_w_draw.nd rfl (.inl rfl) (pe_op op_mod (pe_dget (hu_of hr) (pv 0) pe_str (fun _ _ => rfl)) (pv 1)))
      (pss_cons (ps_dput (hu_of hr) (pv 0) pe_str (pe_op op_fdiv (pe_dget (hu_of hr) (pv 0) pe_str (fun _ _ => rfl)) (pv 1)) rfl)
      (pss_one (ps_ret (pv 3))))) pss_nil)
      (pss_cons (ps_set (i := 4) S_w_draw.nd rfl (.inl rfl) (pe_dget (hu_of hr) (pv 0) pe_str (fun _ _ => rfl)))
      (pss_cons (ps_dput (hu_of hr) (pv 0) pe_str (pe_op op_add (pv 4) pe_int) rfl)
      (pss_cons (ps_set (i := 5) S_w_draw.nd rfl (.inl rfl) pe_int)
      (pss_cons (ps_if (pt_cmpR (op_neE (hu_of hr)) (pe_dget (hu_of hr) (pv 0) pe_str (fun _ _ => rfl)) (pe_lst pa_nil) (nomark _)) (pss_one (ps_set (i := 5) S_w_draw.nd rfl (.inl rfl) (pe_ix ix_list (pe_dget (hu_of hr) (pv 0) pe_str (fun _ _ => rfl)) (pe_op op_mod (pv 4) (pe_callB call_len_seq (by rfl) T.m_len PySem.boot_len (pa_cons (pe_dget (hu_of hr) (pv 0) pe_str (fun _ _ => rfl)) pa_nil))) (fun _ _ => rfl)))) pss_nil)
      (pss_cons (ps_if (PW.pt (pw_and (pt_cmpR op_ge (pv 5) (pe_op op_pow pe_int pe_int) (nomark _)) (pw_and1 (pt_cmpR op_lt (pv 4) (pe_callB call_len_seq (by rfl) T.m_len PySem.boot_len (pa_cons (pe_dget (hu_of hr) (pv 0) pe_str (fun _ _ => rfl)) pa_nil)) (nomark _))))) (pss_cons (ps_dput (hu_of hr) (pv 0) pe_str (pe_op op_fdiv (pv 5) (pv 1)) rfl)
      (pss_one (ps_ret (pe_op op_mod (pv 5) (pv 1))))) pss_nil)
      (pss_cons (ps_set (i := 6) S_w_draw.nd rfl (.inl rfl) (pe_op op_mod (pe_op op_pow (pe_op op_add (pe_op op_add (pe_op op_mod (pv 5) pe_int) (pe_op op_mul pe_int (pv 2))) pe_int) pe_int) pe_int))
      (pss_cons (ps_set (i := 6) S_w_draw.nd rfl (.inl rfl) (pe_op op_mod (pe_op op_pow (pe_op op_add (pv 6) (pe_op op_mul pe_int (pv 2))) pe_int) pe_int))
      (pss_one (ps_ret (pe_op op_mod (pe_op op_fdiv (pv 6) pe_int) (pv 1)))))))))))))), ?_⟩
    refine ⟨.ref t, rfl, t, _, rfl, gf_turn hT, ca, 1, rfl, rfl, ?_⟩
    refine ⟨_, rfl, .ref t, rfl, t, _, rfl, pf_turn hT, ?_⟩
    have hT1 := upd_same (H := H) (a := t) (o := .dK (kf (.ref c) (.int sp) (.int re) (.int (ca + 1))))
    have hC1 : upd H t (.dK (kf (.ref c) (.int sp) (.int re) (.int (ca + 1)))) c = some (.lst (ns.map V.int)) := by
      rw [upd_ne hct]
      exact hC
    have hK1 : Kp t H (upd H t (.dK (kf (.ref c) (.int sp) (.int re) (.int (ca + 1))))) := (Kp.refl t H).own
    generalize upd H t (.dK (kf (.ref c) (.int sp) (.int re) (.int (ca + 1)))) = H1 at hT1 hC1 hK1 ⊢
    refine ⟨.ref t, rfl, t, _, rfl, gf_left hT1, re, 0, rfl, rfl, _, rfl, ite2 (fun e => ?_) (fun e => ?_)⟩
    · have e : re > 0 := of_decide_eq_true e
      refine ⟨.ref t, rfl, t, _, rfl, gf_left hT1, _, rfl, re, m, rfl, rfl, m0, ?_⟩
      refine ⟨.ref t, rfl, t, _, rfl, gf_left hT1, _, rfl, re, m, rfl, rfl, ⟨m0, by omega⟩, .ref t, rfl, t, _, rfl, pf_left hT1, ?_⟩
      refine ⟨_, rfl, ?_⟩
      refine q _ _ (Int.emod_nonneg _ (by omega)) (Int.emod_lt_of_pos _ m0) ⟨ns, sp, re / m, ca + 1, upd_same, ?_, hn, sp0, Int.ediv_nonneg re0 (by omega), by omega, by omega⟩ hK1.own
      rw [upd_ne hct]
      exact hC1
    · refine ⟨.ref t, rfl, t, _, rfl, gf_at hT1, ?_⟩
      refine ⟨_, rfl, _, _, rfl, rfl, .ref t, rfl, t, _, rfl, pf_at hT1, ?_⟩
      have hT2 := upd_same (H := H1) (a := t) (o := .dK (kf (.ref c) (.int (sp + 1)) (.int re) (.int (ca + 1))))
      have hC2 : upd H1 t (.dK (kf (.ref c) (.int (sp + 1)) (.int re) (.int (ca + 1)))) c = some (.lst (ns.map V.int)) := by
        rw [upd_ne hct]
        exact hC1
      have hK2 : Kp t H (upd H1 t (.dK (kf (.ref c) (.int (sp + 1)) (.int re) (.int (ca + 1))))) := hK1.own
      generalize upd H1 t (.dK (kf (.ref c) (.int (sp + 1)) (.int re) (.int (ca + 1)))) = H2 at hT2 hC2 hK2 ⊢
      refine ⟨.ref t, rfl, t, _, rfl, gf_cells hT2, ?_⟩
      refine ⟨sz (by show 0 ≤ 1000; decide), fun z nz => ?_⟩
      have sz1 := same_upd (o := .lst []) nz
      have hT2 := sz1 _ _ hT2
      have hC2 := sz1 _ _ hC2
      have hz1 := upd_same (H := H2) (a := z) (o := .lst [])
      have hK2 : Kp t H (upd H2 z (.lst [])) := hK2.new nz
      generalize upd H2 z (.lst []) = H2 at hT2 hC2 hK2 hz1 ⊢
      refine ⟨c, z, _, rfl, rfl, .inl (.inl hC2), .inl (.inl hz1), _, rfl, ite2 (fun e2 => ?a) (fun e2 => ?b)⟩
      case' a =>
        have e2 : ns ≠ [] := fun z => by rw [z] at e2; exact absurd e2 (by decide)
        have e2 : 0 < ns.length := List.length_pos_iff.mpr e2
        have b0 : 0 ≤ sp % (ns.length : Int) := Int.emod_nonneg _ (by omega)
        have b1 : sp % (ns.length : Int) < ns.length := Int.emod_lt_of_pos _ (by omega)
        have bn : (sp % (ns.length : Int)).toNat < ns.length := by omega
        refine ⟨.ref t, rfl, t, _, rfl, gf_cells hT2, _, rfl, .ref t, rfl, t, _, rfl, gf_cells hT2, c, _, rfl, .inl (.inl (.inl hC2)), _, _, rfl, rfl, (by rw [List.length_map]; omega), c, _, _, .int (ns[(sp % (ns.length : Int)).toNat]), rfl, rfl, .inl (.inl hC2), (by
          rw [List.length_map]
          refine at_of (j := (sp % (ns.length : Int)).toNat) (by omega) ?_
          rw [List.getElem?_map, List.getElem?_eq_getElem bn]
          rfl), ?_⟩
        generalize ns[(sp % (ns.length : Int)).toNat] = cell
      all_goals
        refine ⟨_, rfl, _, _, rfl, rfl, ⟨by decide, by decide, by decide⟩, _, _, rfl, rfl, _, rfl, ite2 (fun e4 => ?_) (fun e4 => iteF ?_)⟩
      any_goals refine ⟨_, rfl, .ref t, rfl, t, _, rfl, gf_cells hT2, c, _, rfl, .inl (.inl (.inl hC2)), _, _, rfl, rfl, _, rfl, ite2 (fun e5 => ?_) (fun e5 => ?_)⟩
      any_goals
        refine ⟨_, rfl, _, rfl, _, m, rfl, rfl, ⟨m0, by omega⟩, .ref t, rfl, t, _, rfl, pf_left hT2, ?_⟩
        refine ⟨_, rfl, _, rfl, _, m, rfl, rfl, m0, ?_⟩
        refine q _ _ (Int.emod_nonneg _ (by omega)) (Int.emod_lt_of_pos _ m0) ⟨ns, sp + 1, _, ca + 1, upd_same, (by rw [upd_ne hct]; exact hC2), hn, by omega, Int.ediv_nonneg ?_ (by omega), by omega, by omega⟩ hK2.own
        have e4 := of_decide_eq_true e4
        exact Int.le_trans (by decide) e4
      all_goals
        refine ⟨_, rfl, _, _, rfl, rfl, (by decide : (0 : Int) < 2147483629), _, rfl, _, _, rfl, rfl, .inl ⟨by decide, by decide⟩, _, _, rfl, rfl, _, _, rfl, rfl, _, _, rfl, rfl, pow5 _ (by omega) (by omega), _, _, rfl, rfl, (by decide : (0 : Int) < 2147483647), ?_⟩
        refine ⟨_, rfl, _, rfl, _, _, rfl, rfl, .inl ⟨by decide, by decide⟩, _, _, rfl, rfl, _, _, rfl, rfl, pow5c _ _ (by omega) (by omega), _, _, rfl, rfl, (by decide : (0 : Int) < 2147483587), ?_⟩
        refine ⟨_, rfl, _, _, rfl, rfl, ⟨by decide, by decide⟩, _, rfl, _, m, rfl, rfl, m0, ?_⟩
        exact q _ _ (Int.emod_nonneg _ (by omega)) (Int.emod_lt_of_pos _ m0) ⟨ns, sp + 1, re, ca + 1, hT2, hC2, hn, by omega, re0, by omega, by omega⟩ hK2
end
end L20

set_option Elab.async false
set_option linter.all false
set_option maxRecDepth 100000
set_option maxHeartbeats 2000000
namespace L20
open PySem PySem.Spec PyProof.Rows L2 My
section
variable {P : Program} {w : World} {K : PySem.W.Frag} {mg : Str → Option Value} {base : Heap}
def spAt (i : Nat) : Sp := fun vs H Q _ => ∃ (a : Addr) (xs : List V) (v : V), vs = [.ref a] ∧ H a = some (.tup xs) ∧ xs[i]? = some v ∧ Q v H
theorem ok_page_day (T : Tx K mg w) : FnOk P w K mg base CX0 1 T.f_page_day T.d_page_day ["page"] ((spAt 1)) := by
  refine T.F_page_day.ok S_page_day (fun vs H Q E h => ?_) (fun cdv A outer s H vs Q E hr h => ?_)
  · obtain ⟨a, xs, v, rfl, _⟩ := h
    rfl
  · obtain ⟨a, xs, v, rfl, ha, e, q⟩ := h
    exact ⟨_, (pss_one (ps_ret (pe_ix ix_tup (pv 0) pe_int (fun _ _ => rfl)))), _, rfl, a, _, _, v, rfl, rfl, .inl (.inl ha), at_of (j := 1) rfl e, q⟩
theorem ok_page_kind (T : Tx K mg w) : FnOk P w K mg base CX0 1 T.f_page_kind T.d_page_kind ["page"] ((spAt 0)) := by
  refine T.F_page_kind.ok S_page_kind (fun vs H Q E h => ?_) (fun cdv A outer s H vs Q E hr h => ?_)
  · obtain ⟨a, xs, v, rfl, _⟩ := h
    rfl
  · obtain ⟨a, xs, v, rfl, ha, e, q⟩ := h
    exact ⟨_, (pss_one (ps_ret (pe_ix ix_tup (pv 0) pe_int (fun _ _ => rfl)))), _, rfl, a, _, _, v, rfl, rfl, .inl (.inl ha), at_of (j := 0) rfl e, q⟩
theorem ixK_at {z : Str} {r : List NestedKey} (h : Rest z r) : kinds[ixK z]? = some z ∧ ∀ m, m < ixK z → kinds[m]? ≠ some z := by
  cases h <;> exact ⟨by decide +kernel, by decide +kernel⟩
theorem ok_place (T : Tx K mg w) : FnOk P w K mg base CX0 2 T.f_page_place T.d_page_place ["page"] (spKey place PgK) := by
  have G_page_day : FnOk P w K mg base CX0 1 T.f_page_day T.d_page_day ["page"] ((spAt 1)) := ok_page_day T
  have G_page_kind : FnOk P w K mg base CX0 1 T.f_page_kind T.d_page_kind ["page"] ((spAt 0)) := ok_page_kind T
  refine T.F_page_place.ok S_page_place (fun vs H Q E h => ?_) (fun cdv A outer s H vs Q E hr h => ?_)
  · obtain ⟨x, k, rfl, _⟩ := h
    rfl
  · obtain ⟨x, k, rfl, hx, ⟨z, d, r, rfl, hr2, d0, d1⟩, q⟩ := h
    cases hx with
    | @tup a xs _ ha hk =>
      cases hk with
      | @cons v1 _ xs1 _ n1 hk =>
        cases n1
        cases hk with
        | @cons v2 _ xs2 _ n2 hk =>
          cases n2
          refine ⟨_, (pss_one (ps_ret (pe_tup (pa_cons (pe_call G_page_day hr (by rfl) T.g_page_day T.F_page_day.kp T.b_page_day .nil pass0 (pa_cons (pv 0) pa_nil)) (pa_cons (pe_bm PySem.F.plainAttrs_tuple PySem.F.slot_tuple_index PySem.F.type_tuple_index mt_tup_index (pe_glob (v := .ref T.a_KINDS) (by rfl) T.c_KINDS rfl) (pa_cons (pe_call G_page_kind hr (by rfl) T.g_page_kind T.F_page_kind.kp T.b_page_kind .nil pass0 (pa_cons (pv 0) pa_nil)) pa_nil)) (pa_cons (pv 0) pa_nil)))))), ?_⟩
          obtain ⟨i1, i2⟩ := ixK_at hr2
          refine ⟨_, rfl, a, _, .int d, rfl, ha, rfl, ?_⟩
          refine ⟨.inr (.inl ⟨rfl, T.wn_KINDS⟩), _, rfl, a, _, .str z, rfl, ha, rfl, ?_⟩
          refine ⟨T.a_KINDS, kinds, z, ixK z, rfl, rfl, .inr T.w_KINDS, i1, i2, _, rfl, sz (by show 3 ≤ 1000; decide), fun p np => ?_⟩
          have sm := same_upd (o := .tup [.int d, .int (ixK z), .ref a]) np
          refine q _ _ sm (.tup upd_same (.cons (.int d) (.cons (.int _) (.cons ?_ .nil))))
          exact .tup (sm _ _ ha) (.cons (.str z) (.cons (.int d) (hk.at (.same sm))))
/-- a list's or a tuple's pages -/
def PgsAt (H : Hp) (xs : List V) (ks : List NestedKey) : Prop := NkAll H xs ks ∧ ∀ k ∈ ks, PgK k
/-- each of the values is a page -/
def PgP (H : Hp) (xs : List V) : Prop := ∀ x ∈ xs, ∃ k, Nk H x k ∧ PgK k
theorem PgP.at {H H' : Hp} {xs : List V} (t : Tups H H') (h : PgP H xs) : PgP H' xs := fun x hx => let ⟨k, a, b⟩ := h x hx; ⟨k, a.at t, b⟩
theorem PgP.all {H : Hp} : ∀ {xs : List V}, PgP H xs → ∃ ks, PgsAt H xs ks
  | [], _ => ⟨[], .nil, fun k hk => by cases hk⟩
  | x :: l, h => by
    obtain ⟨k, a, b⟩ := h x (.head _)
    obtain ⟨ks, c, d⟩ := PgP.all (xs := l) fun y hy => h y (.tail _ hy)
    exact ⟨k :: ks, .cons a c, fun y hy => (List.mem_cons.mp hy).elim (fun e => by rw [e]; exact b) (d y)⟩
theorem PgP.app {H : Hp} {xs ys : List V} (a : PgP H xs) (b : PgP H ys) : PgP H (xs ++ ys) := fun x hx => (List.mem_append.mp hx).elim (a x) (b x)
theorem PgP.one {H : Hp} {x : V} {k : NestedKey} (a : Nk H x k) (b : PgK k) : PgP H [x] := fun y hy => ⟨k, by rw [List.mem_singleton.mp hy]; exact a, b⟩
theorem PgP.erase {H : Hp} {xs : List V} (a : PgP H xs) (n : Nat) : PgP H (xs.eraseIdx n) := fun x hx => a x (List.mem_of_mem_eraseIdx hx)
end
end L20

set_option Elab.async false
set_option linter.all false
set_option maxRecDepth 100000
set_option maxHeartbeats 2000000
namespace L20
open PySem PySem.Spec PyProof.Rows L2 My
section
variable {P : Program} {w : World} {K : PySem.W.Frag} {mg : Str → Option Value} {base : Heap}
def dayK : NestedKey → Int
  | .tup (_ :: .num d :: _) => d
  | _ => 0
theorem day_at {H : Hp} {x : V} {k : NestedKey} (n : Nk H x k) (p : PgK k) : ∃ (b : Addr) (ys : List V), x = .ref b ∧ H b = some (.tup ys) ∧ ys[1]? = some (.int (dayK k)) := by
  obtain ⟨z, d, r, rfl, _⟩ := p
  cases n with
  | @tup a xs _ ha hk =>
    cases hk with
    | @cons v1 _ xs1 _ n1 hk =>
      cases hk with
      | @cons v2 _ xs2 _ n2 hk =>
        cases n2
        exact ⟨a, _, rfl, ha, rfl⟩
theorem take_filter {f : NestedKey → Bool} {ks : List NestedKey} {i : Nat} {k : NestedKey} (h : ks[i]? = some k) : (ks.take (i + 1)).filter f = (ks.take i).filter f ++ (if f k = true then [k] else []) := by
  rw [List.take_add_one, h, List.filter_append]
  cases e : f k <;> simp [e]
/-- the values whose pages are of days up to d -/
def fltD (d : Int) (xs : List V) (ks : List NestedKey) : List V := ((xs.zip ks).filter fun p => decide (dayK p.2 ≤ d)).map (·.1)
theorem fltD_take {d : Int} {xs : List V} {ks : List NestedKey} {i : Nat} {x : V} {k : NestedKey} (h1 : xs[i]? = some x) (h2 : ks[i]? = some k) : fltD d (xs.take (i + 1)) (ks.take (i + 1)) = fltD d (xs.take i) (ks.take i) ++ (if dayK k ≤ d then [x] else []) := by
  unfold fltD
  have z : ∀ n, (xs.take n).zip (ks.take n) = (xs.zip ks).take n := fun n => by simp [List.zip, List.take_zipWith]
  have e : (xs.zip ks)[i]? = some (x, k) := by rw [List.getElem?_zip_eq_some]; exact ⟨h1, h2⟩
  rw [z, z, List.take_add_one, e, List.filter_append, List.map_append]
  by_cases c : dayK k ≤ d <;> simp [c]
def spUp (T : Tx K mg w) : Sp := fun vs H Q _ => ∃ (a : Addr) (d : Int) (xs : List V) (ks : List NestedKey), vs = [.ref a, .int d] ∧ H a = some (.tup xs) ∧ PgsAt H xs ks ∧ xs.length ≤ 500 ∧ Tbs (tbs T) H ∧
  ∀ r zs H', Gk (tbs T) H H' → H' r = some (.tup zs) → NkAll H' zs (ks.filter fun k => decide (dayK k ≤ d)) → zs.length ≤ xs.length → zs = fltD d xs ks → Q (.ref r) H'
theorem ok_up (T : Tx K mg w) (B : Tb T base) : FnOk P w K mg base CX0 3 T.f_up_to T.d_up_to ["book", "day"] (spUp T) := by
  have G_page_day : FnOk P w K mg base CX0 1 T.f_page_day T.d_page_day ["page"] ((spAt 1)) := ok_page_day T
  refine T.F_up_to.ok S_up_to (fun vs H Q E h => ?_) (fun A outer s H vs Q E hr h => ?_)
  · obtain ⟨a, d, xs, ks, rfl, _⟩ := h
    rfl
  · obtain ⟨a, d, xs, ks, rfl, ha, ⟨nk, pk⟩, lx, hb, q⟩ := h
    refine ⟨_, (pss_one (ps_ret (GE.pe_tupleG (own := [("page", 2)]) (g := gName 2) (by rfl) S_up_to.nd hr (by rfl) T.m_tuple B.b_up_to rfl ⟨blkOk_by (own := [("page", 2)]) (N := N_up_to) (sc := defScope s_up_to) (by decide +kernel), rfl, (by decide +kernel), (by decide +kernel)⟩ (pi_tup (pv 0)) (fun _ _ _ _ _ _ hr => (pg_name (i := 2) S_up_to.nd rfl (.inl rfl))) (fun _ _ _ _ _ _ hr => (pts_one (pt_cmpR op_le (pe_call G_page_day hr (by rfl) T.g_page_day T.F_page_day.kp T.b_page_day .nil pass0 (pa_cons (pv 2) pa_nil)) (pv 1) (nomark _)))) (fun _ _ _ _ _ _ hr => (pv 2))))), ?_⟩
    refine ⟨_, rfl, a, rfl, ⟨_, .inl (.inl ha)⟩, hb _ (by simp [tbs]), fun H2 tab => ?_⟩
    have g2 : Gk (tbs T) H H2 := (Tk.of hb (by simp [tbs]) tab).gk hb
    have len : ∀ i, (ks.take i).length ≤ i := fun i => by rw [List.length_take]; exact Nat.min_le_left _ _
    refine GE.tg_it (walk_tup (xs := xs)) (fun i ys Hx => Hx = H2 ∧ NkAll H2 ys ((ks.take i).filter fun k => decide (dayK k ≤ d)) ∧ ys.length ≤ i ∧ ys = fltD d (xs.take i) (ks.take i)) ⟨rfl, .nil, Nat.le_refl _, rfl⟩ ?_ ?_ ?_
    · rintro i ys Hx _ ⟨rfl, _⟩
      exact .inl (.inl (g2.tup ha))
    · rintro i x ys H3 H4 hi ⟨rfl, n3, l3, f3⟩ ⟨rfl, hx⟩
      obtain ⟨k, hk, nx⟩ := nk.get hx
      have nx3 := nx.at (Tups.gk g2)
      obtain ⟨b, zs, rfl, hbz, e1⟩ := day_at nx3 (pk k (List.mem_of_getElem? hk))
      have lt : i < xs.length := (List.getElem?_eq_some_iff.mp hx).1
      refine ⟨rfl, _, rfl, b, zs, _, rfl, hbz, e1, _, rfl, _, _, rfl, rfl, _, rfl, ite2 (fun e => ?_) (fun e => ?_)⟩
      · refine ⟨_, rfl, small1000 (by omega), rfl, ?_, by rw [List.length_append]; exact Nat.succ_le_succ l3, ?_⟩
        · rw [take_filter hk, if_pos e]
          exact n3.app (.cons nx3 .nil)
        · rw [fltD_take hx hk, if_pos (of_decide_eq_true e), ← f3]
      · refine ⟨rfl, ?_, by omega, ?_⟩
        · rw [take_filter hk, if_neg e, List.append_nil]
          exact n3
        · rw [fltD_take hx hk, if_neg (fun z => e (decide_eq_true z)), List.append_nil, ← f3]
    · rintro ys H3 ⟨rfl, n3, l3, f3⟩
      have lk : ks.length ≤ xs.length := by rw [← nk.length]; exact Nat.le_refl _
      rw [List.take_of_length_le lk] at n3 f3
      rw [List.take_of_length_le (Nat.le_refl _)] at f3
      refine ⟨sz (by omega), fun r hr3 => q r ys _ (g2.trans (.new g2.2 hr3)) upd_same (n3.at (.same (same_upd hr3))) l3 f3⟩
theorem forms_at (T : Tx K mg w) {k : Str} {fs : List Str} (h : formsOf k = some fs) : ∃ r, KDct K w T.a_FORMS k (.ref r) ∧ KT K r (fs.map V.str) := by
  unfold formsOf at h
  split at h
  · rename_i e; subst e; cases h; exact T.w_FORMS_house
  split at h
  · rename_i e; subst e; cases h; exact T.w_FORMS_part
  split at h
  · rename_i e; subst e; cases h; exact T.w_FORMS_join
  split at h
  · rename_i e; subst e; cases h; exact T.w_FORMS_home
  split at h
  · rename_i e; subst e; cases h; exact T.w_FORMS_mourn
  split at h
  · rename_i e; subst e; cases h; exact T.w_FORMS_ahead
  split at h
  · rename_i e; subst e; cases h; exact T.w_FORMS_card
  split at h
  · rename_i e; subst e; cases h; exact T.w_FORMS_visit
  cases h
def spNames (T : Tx K mg w) : Sp := fun vs H Q _ => ∃ (a : Addr) (k : Str) (d : V) (r : List V) (fs : List Str), vs = [.ref a] ∧ H a = some (.tup (.str k :: d :: r)) ∧ formsOf k = some fs ∧ Tbs (tbs T) H ∧ ∀ H' q, Gk (tbs T) H H' → H' q = some (.tup (namesB fs r)) → Q (.ref q) H'
theorem ok_names (T : Tx K mg w) (B : Tb T base) : FnOk P w K mg base CX0 3 T.f_names_of T.d_names_of ["page"] (spNames T) := by
  have G_page_kind : FnOk P w K mg base CX0 1 T.f_page_kind T.d_page_kind ["page"] ((spAt 0)) := ok_page_kind T
  refine T.F_names_of.ok S_names_of (fun vs H Q E h => ?_) (fun A outer s H vs Q E hr h => ?_)
  · obtain ⟨a, k, d, r, fs, rfl, _⟩ := h
    rfl
  · obtain ⟨a, k, d, r, fs, rfl, ha, hk, hb, q⟩ := h
    obtain ⟨p, hp, hpT⟩ := forms_at T hk
    have fl := forms_len hk
    refine ⟨_, (pss_one (ps_ret (GE.pe_tupleG (own := [("form", 1), ("part", 2)]) (g := gTup K 2 (gCons (gName 1) (gCons (gName 2) gNil))) (by rfl) S_names_of.nd hr (by rfl) T.m_tuple B.b_names_of rfl ⟨blkOk_by (own := [("form", 1), ("part", 2)]) (N := N_names_of) (sc := defScope s_names_of) (by decide +kernel), rfl, (by decide +kernel), (by decide +kernel)⟩ (RZ.pi_zipA (by rfl) T.m_zip (pa_cons (pe_ix ix_kdict (pe_glob (v := .ref T.a_FORMS) (by rfl) T.c_FORMS rfl) (pe_call G_page_kind (hr.mono (by decide)) (by rfl) T.g_page_kind T.F_page_kind.kp T.b_page_kind .nil pass0 (pa_cons (pv 0) pa_nil)) (fun _ _ => rfl)) (pa_cons (pe_slice sl_tupA (pv 0) (po_some pe_int) po_none) pa_nil))) (fun _ _ _ _ _ _ hr => (pg_tup rfl (pgs_cons (pg_name (i := 1) S_names_of.nd rfl (.inl rfl)) (pgs_cons (pg_name (i := 2) S_names_of.nd rfl (.inl rfl)) pgs_nil)))) (fun _ _ _ _ _ _ hr => (pts_one (pt_cmpR op_eq (pv 1) pe_str (nomark _)))) (fun _ _ _ _ _ _ hr => (pv 2))))), ?_⟩
    refine ⟨_, rfl, a, _, .str k, rfl, ha, rfl, T.a_FORMS, k, .ref p, rfl, rfl, hp, ?_⟩
    refine ⟨_, rfl, _, rfl, np_in (sl_in ha fun c H1 s1 hc => ?_)⟩
    rw [cut2] at hc
    have b1 := hb.same s1
    have g1 : Gk (tbs T) H H1 := .of_same s1 hb
    refine ⟨p, c, _, _, rfl, .inr ⟨.inr hpT, .inl (.inl hc), b1 _ (by simp [tbs]), fun H2 tab => ?_⟩⟩
    have g2 : Gk (tbs T) H H2 := g1.trans ((Tk.of b1 (by simp [tbs]) tab).gk b1)
    have hc2 : H2 c = some (.tup r) := ((Tk.of b1 (by simp [tbs]) tab).gk b1).tup hc
    have len : ∀ i, ((((fs.zip r).take i).filter fun p => decide (p.1 = ("name" : Str))).map (·.2)).length ≤ 3 := fun i => by
      rw [List.length_map]
      refine Nat.le_trans (List.length_filter_le _ _) (Nat.le_trans (by rw [List.length_take]; exact Nat.min_le_right _ _) ?_)
      rw [List.length_zip]
      omega
    refine GE.tg_it (walk_zipT (K := K) (a := p) (b := c) (xs := fs.map V.str) (ys := r) rfl) (fun i ys H' => (Gk (tbs T) H H' ∧ H' c = some (.tup r)) ∧ ys = ((((fs.zip r).take i).filter fun p => decide (p.1 = ("name" : Str))).map (·.2))) ⟨⟨g2, hc2⟩, by simp⟩ ?_ ?_ ?_
    · rintro i ys H' _ ⟨⟨_, hc'⟩, _⟩
      exact ⟨.inr hpT, .inl (.inl hc')⟩
    · rintro i x ys H3 H4 hi ⟨⟨g3, hc3⟩, rfl⟩ ⟨Tn, xf, xr, rfl, hn, rfl, h1, h2⟩
      obtain ⟨f, rfl, h0⟩ := str_at h1
      have h2 : r[i]? = some xr := h2
      have g4 : Gk (tbs T) H (upd H3 Tn (.tup [V.str f, xr])) := g3.trans (.new g3.2 hn)
      have hc4 := same_upd (o := .tup [V.str f, xr]) hn _ _ hc3
      refine ⟨Tn, _, rfl, .inl (.inl upd_same), rfl, _, _, rfl, _, _, rfl, rfl, rfl, ?_⟩
      refine ⟨_, rfl, rfl, _, rfl, ite2 (fun e => ?_) (fun e => ?_)⟩
      · have e : V.str f = V.str "name" := of_decide_eq_true e
        refine ⟨_, rfl, sz' (len i), ⟨g4, hc4⟩, ?_⟩
        rw [names_take h0 h2, if_pos (V.str.inj e)]
      · have e : ¬ V.str f = V.str "name" := fun z => e (decide_eq_true z)
        refine ⟨⟨g4, hc4⟩, ?_⟩
        rw [names_take h0 h2, if_neg (fun z => e (by rw [z])), List.append_nil]
    · rintro ys H3 ⟨⟨g3, hc3⟩, rfl⟩
      refine ⟨Nat.le_of_lt (sz' (len _)), fun n hn => q _ n (g3.trans (.new g3.2 hn)) ?_⟩
      rw [upd_same, List.take_of_length_le]
      · rfl
      · rw [List.length_zip, List.length_map]
        exact Nat.le_refl _
/-- a page's values behind its kind and day: its kind, its names, its last value -/
inductive PV : Str → Str → Option Str → V → List V → Prop
  | house (a : Str) (lv : V) : PV "house" a none lv [.str a, lv]
  | home (a : Str) (lv : V) : PV "home" a none lv [.str a, lv]
  | part (a b : Str) (lv : V) : PV "part" a (some b) lv [.str a, .str b, lv]
  | mourn (a : Str) (m : Int) : PV "mourn" a none (.int m) [.str a, .int m]
  | join (a b : Str) : PV "join" a (some b) (.str b) [.str a, .str b]
  | ahead (a b : Str) : PV "ahead" a (some b) (.str b) [.str a, .str b]
  | card (a b : Str) : PV "card" a (some b) (.str b) [.str a, .str b]
  | visit (a b : Str) : PV "visit" a (some b) (.str b) [.str a, .str b]
def namesP (a : Str) : Option Str → List V
  | none => [.str a]
  | some b => [.str a, .str b]
theorem view {H : Hp} {x : V} {k : NestedKey} (n : Nk H x k) (p : PgK k) : ∃ (pa : Addr) (z a : Str) (b : Option Str) (lv : V) (r : List V), x = .ref pa ∧ H pa = some (.tup (.str z :: .int (dayK k) :: r)) ∧ PV z a b lv r := by
  obtain ⟨z, d, rr, rfl, re, _⟩ := p
  cases n with
  | @tup pa xs _ ha hk =>
    cases hk with
    | @cons v1 _ xs1 _ n1 hk =>
      cases n1
      cases hk with
      | @cons v2 _ xs2 _ n2 hk =>
        cases n2
        cases re with
        | house _ _ =>
          cases hk with
          | cons n3 hk =>
            cases n3
            cases hk with
            | cons n4 hk =>
              cases hk
              exact ⟨pa, _, _, _, _, _, rfl, ha, .house _ _⟩
        | home _ _ =>
          cases hk with
          | cons n3 hk =>
            cases n3
            cases hk with
            | cons n4 hk =>
              cases hk
              exact ⟨pa, _, _, _, _, _, rfl, ha, .home _ _⟩
        | part _ _ _ =>
          cases hk with
          | cons n3 hk =>
            cases n3
            cases hk with
            | cons n4 hk =>
              cases n4
              cases hk with
              | cons n5 hk =>
                cases hk
                exact ⟨pa, _, _, _, _, _, rfl, ha, .part _ _ _⟩
        | mourn _ _ _ =>
          cases hk with
          | cons n3 hk =>
            cases n3
            cases hk with
            | cons n4 hk =>
              cases n4
              cases hk
              exact ⟨pa, _, _, _, _, _, rfl, ha, .mourn _ _⟩
        | join _ _ =>
          cases hk with
          | cons n3 hk =>
            cases n3
            cases hk with
            | cons n4 hk =>
              cases n4
              cases hk
              exact ⟨pa, _, _, _, _, _, rfl, ha, .join _ _⟩
        | ahead _ _ =>
          cases hk with
          | cons n3 hk =>
            cases n3
            cases hk with
            | cons n4 hk =>
              cases n4
              cases hk
              exact ⟨pa, _, _, _, _, _, rfl, ha, .ahead _ _⟩
        | card _ _ =>
          cases hk with
          | cons n3 hk =>
            cases n3
            cases hk with
            | cons n4 hk =>
              cases n4
              cases hk
              exact ⟨pa, _, _, _, _, _, rfl, ha, .card _ _⟩
        | visit _ _ =>
          cases hk with
          | cons n3 hk =>
            cases n3
            cases hk with
            | cons n4 hk =>
              cases n4
              cases hk
              exact ⟨pa, _, _, _, _, _, rfl, ha, .visit _ _⟩
theorem PV.forms {z a : Str} {b : Option Str} {lv : V} {r : List V} (h : PV z a b lv r) : ∃ fs, formsOf z = some fs ∧ namesB fs r = namesP a b := by
  cases h <;> exact ⟨_, rfl, rfl⟩
theorem PV.last {z a : Str} {b : Option Str} {lv : V} {r : List V} (h : PV z a b lv r) (d : V) : atI (.str z :: d :: r) (-1) = some lv := by
  cases h <;> rfl
def spNms (T : Tx K mg w) : Sp := fun vs H Q _ => ∃ (pa : Addr) (z a : Str) (b : Option Str) (lv d : V) (r : List V), vs = [.ref pa] ∧ H pa = some (.tup (.str z :: d :: r)) ∧ PV z a b lv r ∧ Tbs (tbs T) H ∧ ∀ q H', Gk (tbs T) H H' → H' q = some (.tup (namesP a b)) → Q (.ref q) H'
theorem ok_nms (T : Tx K mg w) (B : Tb T base) : FnOk P w K mg base CX0 3 T.f_names_of T.d_names_of ["page"] (spNms T) := (ok_names T B).imp fun vs H Q E h => by
  obtain ⟨pa, z, a, b, lv, d, r, rfl, hp, pv, hb, q⟩ := h
  obtain ⟨fs, e1, e2⟩ := pv.forms
  exact ⟨pa, z, d, r, fs, rfl, hp, e1, hb, fun H' c g hc => q c H' g (by rw [← e2]; exact hc)⟩
end
end L20

set_option Elab.async false
set_option linter.all false
set_option maxRecDepth 100000
set_option maxHeartbeats 2000000
namespace L20
open PySem PySem.Spec PyProof.Rows L2 My
section
variable {P : Program} {w : World} {K : PySem.W.Frag} {mg : Str → Option Value} {base : Heap}
/-- a house stands, by the dict of homes -/
def has (hs : List (Key × V)) (a : Str) : Bool := (valV hs (.inr a)).isSome
/-- whether a page can be done -/
def good (hs : List (Key × V)) (kn : List Str) (z a : Str) (b : Option Str) : Bool :=
  if z = "house" then !decide (a ∈ kn) else if z = "part" then (match b with | some b => !decide (b ∈ kn) && has hs a | none => false) else has hs a && (match b with | some b => has hs b | none => true)
theorem namesP_eq (a : Str) (b : Option Str) : namesP a b = (a :: b.toList).map V.str := by cases b <;> rfl
theorem all_has {K : PySem.W.Frag} {q hm : Addr} {zs : List Str} {hs : List (Key × V)} {y1 y2 y3 y4 : Option V} {H2 : Hp} {Qt Qs : Hp → Prop} (h1 : H2 q = some (.tup (zs.map V.str))) (hh : H2 hm = some (.dK hs)) (qt : zs.all (has hs) = true → Qt H2) (qs : zs.all (has hs) = false → Qs H2) :
    ∃ W : Nat → Nat → Hp → Prop, (∃ m, W 0 m H2) ∧ ∀ i m H', W i m H' → GE.Step (Itt K q) (gName 4) tYes (tDIn (tVar 4) (tVar 0)) [4] [some (.ref hm), y1, y2, y3, y4] false Qt Qs W i m H' := by
  refine GE.ag_it (walk_tup (xs := zs.map V.str)) (fun i Hx => Hx = H2 ∧ ∀ k x, k < i → zs[k]? = some x → has hs x = true) ⟨rfl, fun k x hk => by omega⟩ ?_ ?_ ?_
  · rintro i Hx _ ⟨rfl, _⟩
    exact .inl (.inl h1)
  · rintro i x H3 H4 hi ⟨rfl, hp⟩ ⟨rfl, hx⟩
    obtain ⟨y, hy, rfl⟩ : ∃ y, zs[i]? = some y ∧ x = V.str y := by
      rw [List.getElem?_map] at hx
      cases e : zs[i]? with
      | none => rw [e] at hx; cases hx
      | some y => rw [e] at hx; exact ⟨y, rfl, (Option.some.inj hx).symm⟩
    refine ⟨rfl, tYesT ⟨_, rfl, _, rfl, hm, _, rfl, DGet.k (k := .inr y) hh, _, rfl, fun e => qs ?_, fun ne => ⟨rfl, fun k x hk hz => ?_⟩⟩⟩
    · refine Bool.eq_false_iff.mpr fun z => ?_
      have := List.all_eq_true.mp z y (List.mem_of_getElem? hy)
      unfold has at this
      rw [e] at this; cases this
    · rcases Nat.lt_succ_iff_lt_or_eq.mp hk with l | rfl
      · exact hp k x l hz
      · have e : y = x := Option.some.inj (hy.symm.trans hz)
        rw [← e]
        exact (Bool.eq_false_or_eq_true _).resolve_right ne
  · rintro H3 ⟨rfl, hp⟩
    refine qt (List.all_eq_true.mpr fun y hy => ?_)
    obtain ⟨k, hk⟩ := List.mem_iff_getElem?.mp hy
    exact hp k y (by rw [List.length_map]; exact (List.getElem?_eq_some_iff.mp hk).1) hk
theorem good_other {hs : List (Key × V)} {kn : List Str} {z a : Str} {b : Option Str} (h1 : z ≠ "house") (h2 : z ≠ "part") : good hs kn z a b = (a :: b.toList).all (has hs) := by
  unfold good
  rw [if_neg h1, if_neg h2]
  cases b <;> simp
theorem inV_strs (x : Str) : ∀ ks : List Str, inV (.str x) (ks.map V.str) = decide (x ∈ ks)
  | [] => by simp [inV]
  | k :: ks => by
    have ih := inV_strs x ks
    unfold inV at ih ⊢
    rw [List.map_cons, List.any_cons, ih]
    show ((k == x) || decide (x ∈ ks)) = _
    rw [Bool.eq_iff_iff]
    simp only [Bool.or_eq_true, beq_iff_eq, decide_eq_true_eq, List.mem_cons]
    exact or_congr ⟨Eq.symm, Eq.symm⟩ Iff.rfl
theorem flat_strs (ks : List Str) : (ks.map V.str).all flatV = true := by
  rw [List.all_map]
  exact List.all_eq_true.mpr fun _ _ => rfl
theorem at_last (zs : List V) (l : V) : atI (zs ++ [l]) (-1) = some l := by
  have e : (-1 + ((zs.length : Int) + 1)).toNat = zs.length := by omega
  have e2 : (1 : Int) ≤ (zs.length : Int) + 1 := by omega
  unfold atI ixN
  rw [List.length_append]
  simp [e, e2]
theorem cut_init (zs : List V) (l : V) : cutV (zs ++ [l]) none (some (-1)) = zs := by
  have e : (-1 + ((zs.length : Int) + 1)).toNat = zs.length := by omega
  unfold cutV HT.sIx
  simp [e]
def spCan (T : Tx K mg w) : Sp := fun vs H Q _ => ∃ (hm kn pa : Addr) (hs : List (Key × V)) (ks : List Str) (z a : Str) (b : Option Str) (lv d : V) (r : List V), vs = [.ref hm, .ref kn, .ref pa] ∧ H hm = some (.dK hs) ∧ H kn = some (.lst (ks.map V.str)) ∧ H pa = some (.tup (.str z :: d :: r)) ∧ PV z a b lv r ∧ Tbs (tbs T) H ∧
  ∀ H', Gk (tbs T) H H' → Q (.bl (good hs ks z a b)) H'
theorem ok_can (T : Tx K mg w) (B : Tb T base) : FnOk P w K mg base CX0 5 T.f_can_be_done T.d_can_be_done ["homes", "known", "page"] (spCan T) := by
  have G_page_kind : FnOk P w K mg base CX0 1 T.f_page_kind T.d_page_kind ["page"] ((spAt 0)) := ok_page_kind T
  have G_names_of : FnOk P w K mg base CX0 3 T.f_names_of T.d_names_of ["page"] (spNms T) := ok_nms T B
  refine T.F_can_be_done.ok S_can_be_done (fun vs H Q E h => ?_) (fun A outer s H vs Q E hr h => ?_)
  · obtain ⟨hm, kn, pa, hs, ks, z, a, b, lv, d, r, rfl, _⟩ := h
    rfl
  · obtain ⟨hm, kn, pa, hs, ks, z, a, b, lv, d, r, rfl, hh, hk, hp, vw, hB, q⟩ := h
    refine ⟨_, (pss_cons (ps_set (i := 3) S_can_be_done.nd rfl (.inl rfl) (pe_call G_names_of (hr.mono (by decide)) (by rfl) T.g_names_of T.F_names_of.kp T.b_names_of .nil pass0 (pa_cons (pv 2) pa_nil)))
      (pss_cons (ps_if (pt_cmpR (op_notIn_strs (hu_of hr)) (pe_call G_page_kind (hr.mono (by decide)) (by rfl) T.g_page_kind T.F_page_kind.kp T.b_page_kind .nil pass0 (pa_cons (pv 2) pa_nil)) (pe_glob (v := .ref T.a_COMING) (by rfl) T.c_COMING rfl) (by rfl)) (pss_one (ps_ret (GE.pe_allG (own := [("name", 4)]) (g := gName 4) (tt := tYes) (by rfl) S_can_be_done.nd hr (by rfl) T.m_all B.b_can_be_done rfl ⟨blkOk_by (own := [("name", 4)]) (N := N_can_be_done) (sc := defScope s_can_be_done) (by decide +kernel), rfl, (by decide +kernel), (by decide +kernel)⟩ (pi_tup (pv 3)) (fun _ _ _ _ _ _ hr => (pg_name (i := 4) S_can_be_done.nd rfl (.inl rfl))) (fun _ _ _ _ _ _ hr => pts_nil) (fun _ _ _ _ _ _ hr => (pe_cmp (pc_din (hu_of hr) (pv 4) (pv 0))))))) pss_nil)
      (pss_one (ps_ret (pe_and (pe_cmpR op_notIn_seq (pe_ix ix_tup (pv 3) (pe_un un_neg pe_int) (fun _ _ => rfl)) (pv 1) (by rfl)) (pe_one (GE.pe_allG (own := [("name", 4)]) (g := gName 4) (tt := tYes) (by rfl) S_can_be_done.nd hr (by rfl) T.m_all B.b_can_be_done rfl ⟨blkOk_by (own := [("name", 4)]) (N := N_can_be_done) (sc := defScope s_can_be_done) (by decide +kernel), rfl, (by decide +kernel), (by decide +kernel)⟩ (pi_tup (pe_slice sl_tupA (pv 3) po_none (po_some (pe_un un_neg pe_int)))) (fun _ _ _ _ _ _ hr => (pg_name (i := 4) S_can_be_done.nd rfl (.inl rfl))) (fun _ _ _ _ _ _ hr => pts_nil) (fun _ _ _ _ _ _ hr => (pe_cmp (pc_din (hu_of hr) (pv 4) (pv 0))))))))))), ?_⟩
    refine ⟨_, rfl, pa, z, a, b, lv, d, r, rfl, hp, vw, hB, fun q1 H1 g1 h1 => ?_⟩
    rw [namesP_eq] at h1
    have hh1 := g1.1 _ _ hh (fun ps z => by cases z)
    have hk1 := g1.1 _ _ hk (fun ps z => by cases z)
    refine ⟨_, rfl, pa, _, .str z, rfl, g1.tup hp, rfl, T.a_COMING, ["house", "part"], rfl, .inr T.w_COMING, trivial, _, rfl, ite2 (fun e => ?_) (fun e => ?_)⟩
    · have e : (!strIn ["house", "part"] (.str z)) = true := e
      refine ⟨_, rfl, q1, rfl, ⟨_, .inl (.inl h1)⟩, g1.2 _ (by simp [tbs]), fun H2 tab => ?_⟩
      have g2 : Gk (tbs T) H1 H2 := (Tk.of g1.2 (by simp [tbs]) tab).gk g1.2
      have gd : good hs ks z a b = (a :: b.toList).all (has hs) := by
        cases vw <;> first | (exact absurd e (by decide +kernel)) | exact good_other (by decide +kernel) (by decide +kernel)
      have qq := q H2 (g1.trans g2)
      rw [gd] at qq
      exact all_has (g2.tup h1) (g2.1 _ _ hh1 (fun ps z => by cases z)) (fun z => by rw [z] at qq; exact qq) (fun z => by rw [z] at qq; exact qq)
    · have e : ¬ (!strIn ["house", "part"] (.str z)) = true := e
      obtain ⟨zs, last, ez, gd⟩ : ∃ zs last, (a :: b.toList) = zs ++ [last] ∧ good hs ks z a b = (!decide (last ∈ ks) && zs.all (has hs)) := by
        cases vw
        case house => exact ⟨[], a, rfl, by unfold good; rw [if_pos rfl]; simp⟩
        case part => exact ⟨[a], _, rfl, by unfold good; rw [if_neg (by decide +kernel), if_pos rfl]; simp⟩
        all_goals exact absurd (by decide +kernel) e
      rw [ez, List.map_append] at h1
      have h1 : H1 q1 = some (.tup (zs.map V.str ++ [.str last])) := h1
      refine ⟨_, rfl, 1, rfl, q1, _, -1, .str last, rfl, rfl, .inl (.inl h1), at_last _ _, _, rfl, kn, ks.map V.str, rfl, .inl (.inl (.inl hk1)), rfl, flat_strs ks, _, rfl, ?_⟩
      rw [inV_strs]
      have qq : ∀ H', Gk (tbs T) H1 H' → Q (.bl (!decide (last ∈ ks) && zs.all (has hs))) H' := fun H' g => by
        have := q H' (g1.trans g)
        rw [gd] at this
        exact this
      refine ite2 (fun e2 => ?_) (fun e2 => ?_)
      · have e2 : (!decide (last ∈ ks)) = true := e2
        rw [e2] at qq
        refine ⟨_, rfl, np_in ⟨1, rfl, -1, rfl, sl_in h1 fun c H2 s2 hc => ?_⟩⟩
        rw [cut_init] at hc
        have b2 := g1.2.same s2
        have gs : Gk (tbs T) H1 H2 := .of_same s2 g1.2
        refine ⟨c, rfl, ⟨_, .inl (.inl hc)⟩, b2 _ (by simp [tbs]), fun H3 tab => ?_⟩
        have g3 : Gk (tbs T) H2 H3 := (Tk.of b2 (by simp [tbs]) tab).gk b2
        have qq := qq H3 (gs.trans g3)
        exact all_has (g3.tup hc) (g3.1 _ _ (s2 _ _ hh1) (fun ps z => by cases z)) (fun z => by rw [z] at qq; exact qq) (fun z => by rw [z] at qq; exact qq)
      · have e2 : ¬ (!decide (last ∈ ks)) = true := e2
        have qq := qq H1 (.refl g1.2)
        rw [Bool.eq_false_iff.mpr e2] at qq
        exact qq
/-- the homes, and who is known, behind a page that is done -/
def nextH (hs : List (Key × V)) (z a : Str) (b : Option Str) (lv : V) : List (Key × V) :=
  if z = "house" then putK hs (.inr a) lv else if z = "part" then putK hs (.inr (b.getD a)) lv else if z = "join" then dropK hs (.inr (b.getD a)) else if z = "home" then putK hs (.inr a) lv else hs
def nextK (kn : List Str) (z a : Str) (b : Option Str) : List Str := if z = "house" then kn ++ [a] else if z = "part" then kn ++ [b.getD a] else kn
/-- all but these two is as it was, tables beside -/
def K2 (Ts : List Addr) (hm kn : Addr) (H H' : Hp) : Prop := (∀ b o, b ≠ hm → b ≠ kn → H b = some o → (∀ ps, o ≠ .tbl ps) → H' b = some o) ∧ Tbs Ts H'
theorem K2.gk {Ts : List Addr} {hm kn : Addr} {H H' : Hp} (g : Gk Ts H H') : K2 Ts hm kn H H' := ⟨fun b o _ _ e n => g.1 b o e n, g.2⟩
theorem tbs_at {Ts : List Addr} {H : Hp} {f : Addr} {o u : HO} (h : Tbs Ts H) (hf : H f = some u) (n : ∀ ps, u ≠ .tbl ps) : Tbs Ts (upd H f o) := fun b hb => by
  obtain ⟨ps, e, q⟩ := h b hb
  exact ⟨ps, by rw [upd_ne (fun z => by rw [z, hf] at e; exact n ps (Option.some.inj e))]; exact e, q⟩
theorem K2.u0 {Ts : List Addr} {hm kn : Addr} {H H' : Hp} {o u : HO} (k : K2 Ts hm kn H H') (e : H' hm = some u) (n : ∀ ps, u ≠ .tbl ps) : K2 Ts hm kn H (upd H' hm o) := ⟨fun b x n1 n2 e n => by rw [upd_ne n1]; exact k.1 b x n1 n2 e n, tbs_at k.2 e n⟩
theorem K2.u1 {Ts : List Addr} {hm kn : Addr} {H H' : Hp} {o u : HO} (k : K2 Ts hm kn H H') (e : H' kn = some u) (n : ∀ ps, u ≠ .tbl ps) : K2 Ts hm kn H (upd H' kn o) := ⟨fun b x n1 n2 e n => by rw [upd_ne n2]; exact k.1 b x n1 n2 e n, tbs_at k.2 e n⟩
def spTurn (T : Tx K mg w) : Sp := fun vs H Q _ => ∃ (hm kn pa : Addr) (hs : List (Key × V)) (ks : List Str) (z a : Str) (b : Option Str) (lv d : V) (r : List V), vs = [.ref hm, .ref kn, .ref pa] ∧ H hm = some (.dK hs) ∧ H kn = some (.lst (ks.map V.str)) ∧ H pa = some (.tup (.str z :: d :: r)) ∧ PV z a b lv r ∧ Tbs (tbs T) H ∧ good hs ks z a b = true ∧ hs.length ≤ 500 ∧ ks.length ≤ 500 ∧
  hm ≠ kn ∧ ∀ H', K2 (tbs T) hm kn H H' → H' hm = some (.dK (nextH hs z a b lv)) → H' kn = some (.lst ((nextK ks z a b).map V.str)) → Q .non H'
theorem ok_turn (T : Tx K mg w) (B : Tb T base) : FnOk P w K mg base CX0 4 T.f_turn_houses T.d_turn_houses ["homes", "known", "page"] (spTurn T) := by
  have G_page_kind : FnOk P w K mg base CX0 1 T.f_page_kind T.d_page_kind ["page"] ((spAt 0)) := ok_page_kind T
  have G_names_of : FnOk P w K mg base CX0 3 T.f_names_of T.d_names_of ["page"] (spNms T) := ok_nms T B
  refine T.F_turn_houses.ok S_turn_houses (fun vs H Q E h => ?_) (fun cdv A outer s H vs Q E hr h => ?_)
  · obtain ⟨hm, kn, pa, hs, ks, z, a, b, lv, d, r, rfl, _⟩ := h
    rfl
  · obtain ⟨hm, kn, pa, hs, ks, z, a, b, lv, d, r, rfl, hh, hk, hp, vw, hB, gd, lh, lk, ne, q⟩ := h
    refine ⟨_, (pss_cons (ps_set (i := 3) S_turn_houses.nd rfl (.inl rfl) (pe_call G_page_kind (hr.mono (by decide)) (by rfl) T.g_page_kind T.F_page_kind.kp T.b_page_kind .nil pass0 (pa_cons (pv 2) pa_nil)))
      (pss_cons (ps_set (i := 4) S_turn_houses.nd rfl (.inl rfl) (pe_call G_names_of hr (by rfl) T.g_names_of T.F_names_of.kp T.b_names_of .nil pass0 (pa_cons (pv 2) pa_nil)))
      (pss_one (ps_if (pt_cmpR op_in_seq (pv 3) (pe_glob (v := .ref T.a_COMING) (by rfl) T.c_COMING rfl) (by rfl)) (pss_cons (ps_expr (pe_bm PySem.F.plainAttrs_list PySem.F.slot_list_append PySem.F.type_list_append mt_append (pv 1) (pa_cons (pe_ix ix_tup (pv 4) (pe_un un_neg pe_int) (fun _ _ => rfl)) pa_nil)))
      (pss_one (ps_dput (hu_of hr) (pv 0) (pe_ix ix_tup (pv 4) (pe_un un_neg pe_int) (fun _ _ => rfl)) (pe_ix ix_tup (pv 2) (pe_un un_neg pe_int) (fun _ _ => rfl)) rfl))) (pss_one (ps_if (pt_cmpR op_eq (pv 3) pe_str (nomark _)) (pss_one (ps_ddel (pv 0) (pe_ix ix_tup (pv 4) pe_int (fun _ _ => rfl)))) (pss_one (ps_if (pt_cmpR op_eq (pv 3) pe_str (nomark _)) (pss_one (ps_dput (hu_of hr) (pv 0) (pe_ix ix_tup (pv 4) pe_int (fun _ _ => rfl)) (pe_ix ix_tup (pv 2) (pe_un un_neg pe_int) (fun _ _ => rfl)) rfl)) pss_nil)))))))), ?_⟩
    refine ⟨_, rfl, pa, _, .str z, rfl, hp, rfl, ?_⟩
    refine ⟨_, rfl, pa, z, a, b, lv, d, r, rfl, hp, vw, hB, fun q1 H1 g1 h1 => ?_⟩
    have hh1 := g1.1 _ _ hh (fun ps z => by cases z)
    have hk1 := g1.1 _ _ hk (fun ps z => by cases z)
    have hp1 := g1.tup hp
    have tl : ∀ {o}, (∀ c ys, H1 c = some (.tup ys) → upd H1 kn o c = some (.tup ys)) ∧ True := fun {o} => ⟨fun c ys e => by rw [upd_ne (fun z => by rw [z, hk1] at e; cases e)]; exact e, trivial⟩
    refine ⟨_, rfl, T.a_COMING, [.str "house", .str "part"], rfl, .inr (.inr T.w_COMING), rfl, rfl, _, rfl, ?_⟩
    cases vw
    case house =>
      refine ite2 (fun _ => ?_) (fun z => absurd (by decide +kernel) z)
      · refine ⟨_, rfl, .inl ⟨rfl, _, .inl (.inl hk1)⟩, _, rfl, 1, rfl, q1, _, -1, .str a, rfl, rfl, .inl (.inl h1), rfl, kn, ks.map V.str, .str a, rfl, rfl, hk1, small1000 (by rw [List.length_map]; omega), ?_⟩
        refine ⟨_, rfl, 1, rfl, pa, _, -1, lv, rfl, rfl, .inl (.inl (tl.1 _ _ hp1)), rfl, _, rfl, _, rfl, 1, rfl, q1, _, -1, .str a, rfl, rfl, .inl (.inl (tl.1 _ _ h1)), rfl, hm, _, rfl, .inl ⟨hs, .inr a, by rw [upd_ne ne]; exact hh1, rfl, small1000 (by omega), rfl⟩, ?_⟩
        refine q _ (((K2.gk g1).u1 hk1 (fun ps z => by cases z)).u0 (by rw [upd_ne ne]; exact hh1) (fun ps z => by cases z)) upd_same ?_
        rw [upd_ne ne.symm, upd_same]
        show some (HO.lst (ks.map V.str ++ [V.str a])) = some (.lst ((ks ++ [a]).map V.str))
        rw [List.map_append]
        rfl
    case part b =>
      refine ite2 (fun _ => ?_) (fun z => absurd (by decide +kernel) z)
      · refine ⟨_, rfl, .inl ⟨rfl, _, .inl (.inl hk1)⟩, _, rfl, 1, rfl, q1, _, -1, .str b, rfl, rfl, .inl (.inl h1), rfl, kn, ks.map V.str, .str b, rfl, rfl, hk1, small1000 (by rw [List.length_map]; omega), ?_⟩
        refine ⟨_, rfl, 1, rfl, pa, _, -1, lv, rfl, rfl, .inl (.inl (tl.1 _ _ hp1)), rfl, _, rfl, _, rfl, 1, rfl, q1, _, -1, .str b, rfl, rfl, .inl (.inl (tl.1 _ _ h1)), rfl, hm, _, rfl, .inl ⟨hs, .inr b, by rw [upd_ne ne]; exact hh1, rfl, small1000 (by omega), rfl⟩, ?_⟩
        refine q _ (((K2.gk g1).u1 hk1 (fun ps z => by cases z)).u0 (by rw [upd_ne ne]; exact hh1) (fun ps z => by cases z)) upd_same ?_
        rw [upd_ne ne.symm, upd_same]
        show some (HO.lst (ks.map V.str ++ [V.str b])) = some (.lst ((ks ++ [b]).map V.str))
        rw [List.map_append]
        rfl
    case join b =>
      refine ite2 (fun z => absurd z (by decide +kernel)) (fun _ => ?_)
      refine ⟨_, rfl, rfl, _, rfl, ite2 (fun _ => ?_) (fun z => absurd (by decide +kernel) z)⟩
      have g2 : has hs b = true := by
        rw [good_other (by decide +kernel) (by decide +kernel)] at gd
        exact List.all_eq_true.mp gd b (by simp)
      refine ⟨_, rfl, _, rfl, q1, _, 1, .str b, rfl, rfl, .inl (.inl h1), rfl, hm, hs, .inr b, rfl, hh1, rfl, g2, ?_⟩
      exact q _ ((K2.gk g1).u0 hh1 (fun ps z => by cases z)) upd_same (by rw [upd_ne ne.symm]; exact hk1)
    case home =>
      refine ite2 (fun z => absurd z (by decide +kernel)) (fun _ => ?_)
      refine ⟨_, rfl, rfl, _, rfl, ite2 (fun z => absurd z (by decide +kernel)) (fun _ => ?_)⟩
      refine ⟨_, rfl, rfl, _, rfl, ite2 (fun _ => ?_) (fun z => absurd (by decide +kernel) z)⟩
      refine ⟨_, rfl, 1, rfl, pa, _, -1, lv, rfl, rfl, .inl (.inl hp1), rfl, _, rfl, _, rfl, q1, _, 0, .str a, rfl, rfl, .inl (.inl h1), rfl, hm, _, rfl, .inl ⟨hs, .inr a, hh1, rfl, small1000 (by omega), rfl⟩, ?_⟩
      exact q _ ((K2.gk g1).u0 hh1 (fun ps z => by cases z)) upd_same (by rw [upd_ne ne.symm]; exact hk1)
    all_goals
      refine ite2 (fun z => absurd z (by decide +kernel)) (fun _ => ?_)
      refine ⟨_, rfl, rfl, _, rfl, ite2 (fun z => absurd z (by decide +kernel)) (fun _ => ?_)⟩
      refine ⟨_, rfl, rfl, _, rfl, ite2 (fun z => absurd z (by decide +kernel)) (fun _ => ?_)⟩
      exact q _ (K2.gk g1) hh1 hk1
structure Vw where
  z : Str
  a : Str
  b : Option Str
  lv : V
  d : Int
/-- a page's view -/
def VwAt (H : Hp) (x : V) (v : Vw) : Prop := ∃ (pa : Addr) (r : List V), x = .ref pa ∧ H pa = some (.tup (.str v.z :: .int v.d :: r)) ∧ PV v.z v.a v.b v.lv r
theorem VwAt.at {H H' : Hp} {x : V} {v : Vw} (h : VwAt H x v) (t : Tups H H') : VwAt H' x v := let ⟨pa, r, e, hp, pv⟩ := h; ⟨pa, r, e, t _ _ hp, pv⟩
inductive Views (H : Hp) : List V → List Vw → Prop
  | nil : Views H [] []
  | cons {x : V} {v : Vw} {xs : List V} {vs : List Vw} : VwAt H x v → Views H xs vs → Views H (x :: xs) (v :: vs)
theorem Views.at {H H' : Hp} (t : Tups H H') : ∀ {xs : List V} {vs : List Vw}, Views H xs vs → Views H' xs vs
  | [], _, .nil => .nil
  | _ :: _, _, .cons a r => .cons (a.at t) (r.at t)
theorem Views.length {H : Hp} : ∀ {xs : List V} {vs : List Vw}, Views H xs vs → xs.length = vs.length
  | [], _, .nil => rfl
  | _ :: _, _, .cons _ r => congrArg (· + 1) r.length
theorem Views.get {H : Hp} : ∀ {xs : List V} {vs : List Vw} {i : Nat} {x : V}, Views H xs vs → xs[i]? = some x → ∃ v, vs[i]? = some v ∧ VwAt H x v
  | [], _, _, _, .nil, e => by simp at e
  | _ :: _, v :: _, 0, _, .cons a _, e => ⟨v, rfl, by cases e; exact a⟩
  | _ :: _, _ :: _, i + 1, _, .cons _ r, e => r.get (i := i) (by simpa using e)
theorem Views.of {H : Hp} : ∀ {xs : List V}, PgP H xs → ∃ vs, Views H xs vs
  | [], _ => ⟨[], .nil⟩
  | x :: xs, h => by
    obtain ⟨k, n, p⟩ := h x (.head _)
    obtain ⟨pa, z, a, b, lv, r, e, hp, pv⟩ := view n p
    obtain ⟨vs, r2⟩ := Views.of (xs := xs) fun y hy => h y (.tail _ hy)
    exact ⟨⟨z, a, b, lv, dayK k⟩ :: vs, .cons ⟨pa, r, e, hp, pv⟩ r2⟩
theorem VwAt.inj {H : Hp} {x : V} {v v' : Vw} (h : VwAt H x v) (h' : VwAt H x v') : v = v' := by
  obtain ⟨pa, r, rfl, hp, vw⟩ := h
  obtain ⟨pa', r', e, hp', vw'⟩ := h'
  cases e
  rw [hp] at hp'
  cases v
  cases v'
  dsimp only at *
  injection hp' with e
  injection e with e
  injection e with e1 e2
  injection e2 with e2 e3
  injection e1 with e1
  injection e2 with e2
  subst e1 e2 e3
  cases vw <;> cases vw' <;> rfl
theorem Views.inj {H : Hp} : ∀ {xs : List V} {vs vs' : List Vw}, Views H xs vs → Views H xs vs' → vs = vs'
  | [], _, _, .nil, .nil => rfl
  | _ :: _, _, _, .cons a r, .cons a' r' => by rw [a.inj a', r.inj r']
theorem Views.snoc {H : Hp} {x : V} {v : Vw} : ∀ {xs : List V} {vs : List Vw}, Views H xs vs → VwAt H x v → Views H (xs ++ [x]) (vs ++ [v])
  | [], _, .nil, h => .cons h .nil
  | _ :: _, _, .cons a r, h => .cons a (r.snoc h)
end
end L20

set_option Elab.async false
set_option linter.all false
set_option maxRecDepth 100000
set_option maxHeartbeats 4000000
namespace L20
open PySem PySem.Spec PyProof.Rows L2 My
section
variable {P : Program} {w : World} {K : PySem.W.Frag} {mg : Str → Option Value} {base : Heap}
theorem put_len {kvs : List (Key × V)} {k : Key} {v : V} : (putK kvs k v).length ≤ kvs.length + 1 := by
  unfold putK
  split
  · rw [List.length_map]; omega
  · rw [List.length_append]; exact Nat.le_refl _
/-- whether a name mourns on a day, by mournings (name, first day, how many) -/
def dayB (L : List (Str × Int × Int)) (nm : Str) (d : Int) : Bool := L.any fun t => decide (t.1 = nm) && decide (t.2.1 ≤ d) && decide (d < t.2.1 + t.2.2)
theorem dayB_snoc (L : List (Str × Int × Int)) (t : Str × Int × Int) (nm : Str) (d : Int) : dayB (L ++ [t]) nm d = (dayB L nm d || (decide (t.1 = nm) && decide (t.2.1 ≤ d) && decide (d < t.2.1 + t.2.2))) := by
  unfold dayB
  rw [List.any_append]
  simp
/-- the dict of mournings: mu, and a dict of days for each name; all of it new beside H0 -/
structure Mu (H0 H : Hp) (mu : Addr) (kvs : List (Key × V)) (L : List (Str × Int × Int)) (n : Nat) : Prop where
  sm : Same H0 H
  f0 : H0 mu = none
  hmu : H mu = some (.dK kvs)
  len : kvs.length ≤ n
  no : ∀ nm : Str, valV kvs (.inr nm) = none → ∀ d, dayB L nm d = false
  yes : ∀ (nm : Str) (v : V), valV kvs (.inr nm) = some v → ∃ da dk, v = .ref da ∧ da ≠ mu ∧ H0 da = none ∧ H da = some (.dK dk) ∧ dk.length ≤ 60 * n ∧ ∀ d, (valV dk (.inl d)).isSome = dayB L nm d
  inj : ∀ (n1 n2 : Str) (da : Addr), valV kvs (.inr n1) = some (.ref da) → valV kvs (.inr n2) = some (.ref da) → n1 = n2
theorem Mu.same {H0 H H' : Hp} {mu : Addr} {kvs : List (Key × V)} {L : List (Str × Int × Int)} {n : Nat} (m : Mu H0 H mu kvs L n) (s : Same H H') : Mu H0 H' mu kvs L n :=
  ⟨m.sm.trans s, m.f0, s _ _ m.hmu, m.len, m.no, fun nm v hv => let ⟨da, dk, a, b, c, d, e⟩ := m.yes nm v hv; ⟨da, dk, a, b, c, s _ _ d, e⟩, m.inj⟩
theorem Mu.up {H0 H : Hp} {mu : Addr} {kvs : List (Key × V)} {L : List (Str × Int × Int)} {n k : Nat} (m : Mu H0 H mu kvs L n) (l : n ≤ k) : Mu H0 H mu kvs L k :=
  ⟨m.sm, m.f0, m.hmu, Nat.le_trans m.len l, m.no, fun nm v hv => let ⟨da, dk, a, b, c, d, e, f⟩ := m.yes nm v hv; ⟨da, dk, a, b, c, d, Nat.le_trans e (Nat.mul_le_mul_left _ l), f⟩, m.inj⟩
theorem Mu.like {H0 H : Hp} {mu : Addr} {kvs : List (Key × V)} {L L' : List (Str × Int × Int)} {n : Nat} (m : Mu H0 H mu kvs L n) (e : ∀ nm d, dayB L' nm d = dayB L nm d) : Mu H0 H mu kvs L' n :=
  ⟨m.sm, m.f0, m.hmu, m.len, fun nm h d => by rw [e]; exact m.no nm h d, fun nm v hv => let ⟨da, dk, a, b, c, d, f, g⟩ := m.yes nm v hv; ⟨da, dk, a, b, c, d, f, fun x => by rw [e]; exact g x⟩, m.inj⟩
theorem day_one (nm nm' : Str) (s d : Int) (i : Nat) (L : List (Str × Int × Int)) : dayB (L ++ [(nm, s, ((i + 1 : Nat) : Int))]) nm' d = (dayB (L ++ [(nm, s, (i : Int))]) nm' d || (decide (nm = nm') && decide (d = s + i))) := by
  rw [dayB_snoc, dayB_snoc, Bool.or_assoc]
  congr 1
  by_cases c : nm = nm'
  · simp only [c, decide_true, Bool.true_and]
    rw [Bool.eq_iff_iff]
    simp only [Bool.and_eq_true, Bool.or_eq_true, decide_eq_true_eq]
    omega
  · simp [c]
theorem Mu.put {H0 H : Hp} {mu da : Addr} {kvs : List (Key × V)} {L : List (Str × Int × Int)} {n i : Nat} {nm : Str} {s : Int} {dk : List (Key × V)} (M : Mu H0 H mu kvs (L ++ [(nm, s, (i : Int))]) (n + 1)) (hv : valV kvs (.inr nm) = some (.ref da)) (hd : H da = some (.dK dk)) (l : dk.length ≤ 60 * n + i) (hi : i < 60) :
    Mu H0 (upd H da (.dK (putK dk (.inl (s + i)) (.bl true)))) mu kvs (L ++ [(nm, s, ((i + 1 : Nat) : Int))]) (n + 1) := by
  obtain ⟨da2, dk2, e, nm2, f2, h2, l2, g2⟩ := M.yes nm _ hv
  cases e
  rw [hd] at h2
  cases h2
  refine ⟨same_fresh f2 M.sm, M.f0, by rw [upd_ne nm2.symm]; exact M.hmu, M.len, fun x hx d => ?_, fun x v hx => ?_, M.inj⟩
  · rw [day_one, M.no x hx d, decide_eq_false (fun z => by rw [← z, hv] at hx; cases hx)]
    rfl
  · obtain ⟨db, dkb, e, nb, fb, hb, lb, gb⟩ := M.yes x v hx
    subst e
    by_cases c : db = da
    · subst c
      obtain rfl := M.inj x nm db hx hv
      rw [hd] at hb
      cases hb
      refine ⟨db, _, rfl, nb, fb, upd_same, Nat.le_trans put_len (by omega), fun d => ?_⟩
      rw [day_one, valV_put, decide_eq_true rfl, Bool.true_and, ← gb d]
      by_cases e : d = s + i
      · rw [if_pos (by rw [e]), decide_eq_true e, Bool.or_true]
        rfl
      · rw [if_neg (fun z => e (Sum.inl.inj z)), decide_eq_false e, Bool.or_false]
    · refine ⟨db, dkb, rfl, nb, fb, by rw [upd_ne c]; exact hb, lb, fun d => ?_⟩
      have cn : nm ≠ x := fun z => by
        rw [← z, hv] at hx
        cases hx
        exact c rfl
      rw [day_one, decide_eq_false cn, Bool.false_and, Bool.or_false]
      exact gb d
def spAdd : Sp := fun vs H Q _ => ∃ (mu pa : Addr) (H0 : Hp) (kvs : List (Key × V)) (L : List (Str × Int × Int)) (n : Nat) (nm : Str) (s m : Int), vs = [.ref mu, .ref pa] ∧ Mu H0 H mu kvs L n ∧ n ≤ 300 ∧ H pa = some (.tup [.str "mourn", .int s, .str nm, .int m]) ∧ 0 ≤ s ∧ s < 20000 ∧ 0 ≤ m ∧ m ≤ 60 ∧
  ∀ kvs' H', Mu H0 H' mu kvs' (L ++ [(nm, s, m)]) (n + 1) → Q .non H'
theorem ok_add (T : Tx K mg w) : FnOk P w K mg base CX0 1 T.f_add_mourning T.d_add_mourning ["mourning", "page"] (spAdd) := by
  refine T.F_add_mourning.ok S_add_mourning (fun vs H Q E h => ?_) (fun cdv A outer sx H vs Q E hr h => ?_)
  · obtain ⟨mu, pa, H0, kvs, L, n, nm, s, m, rfl, _⟩ := h
    rfl
  · obtain ⟨mu, pa, H0, kvs, L, n, nm, s, m, rfl, M, ln, hpa, s0, s1, m0, m1, q⟩ := h
    refine ⟨_, (pss_cons (ps_asg (pv 1) (pg_tup rfl (pgs_cons (pg_name (i := 2) S_add_mourning.nd rfl (.inl rfl)) (pgs_cons (pg_name (i := 3) S_add_mourning.nd rfl (.inl rfl)) (pgs_cons (pg_name (i := 4) S_add_mourning.nd rfl (.inl rfl)) (pgs_cons (pg_name (i := 5) S_add_mourning.nd rfl (.inl rfl)) pgs_nil))))))
      (pss_cons (ps_set (i := 6) S_add_mourning.nd rfl (.inl rfl) (pe_dsetd (pv 0) (pv 4) pe_dnewK ⟨by rfl, by rfl, by rfl, by rfl⟩))
      (pss_one (ps_for PassesOwn.never rfl (pi_range2 (by rfl) T.m_range (pa_cons (pv 3) (pa_cons (pe_op op_add (pv 3) (pv 5)) pa_nil))) (pg_name (i := 7) S_add_mourning.nd rfl (.inl rfl))
      (pss_one (ps_dput (hu_of hr) (pv 6) (pv 7) pe_bl rfl)))))), ?_⟩
    refine ⟨_, rfl, pa, _, rfl, .inl (.inl hpa), rfl, _, _, rfl, _, _, rfl, _, _, rfl, _, _, rfl, rfl, ?_⟩
    refine ⟨_, rfl, mu, rfl, .inl ⟨_, .inl M.hmu⟩, _, rfl, fun D nD => ?_⟩
    have sD := same_upd (o := .dK []) nD
    have M1 := M.same sD
    have fD : H0 D = none := by
      cases e : H0 D with
      | none => rfl
      | some o => rw [M.sm _ _ e] at nD; cases nD
    have hDD : upd H D (.dK []) D = some (.dK []) := upd_same
    have Dm : D ≠ mu := (ne_of_none M.hmu nD).symm
    /- the loop, from where the name has a dict of days -/
    refine ⟨kvs, .inr nm, M1.hmu, rfl, small1000 (by have := M.len; omega), fun v hv => ?_, fun hv => ?_⟩
    case' refine_1 =>
      obtain ⟨da, dk, e, dm, f2, hda, ldk, gdk⟩ := M1.yes nm v hv
      subst e
      have M2 := M1.up (Nat.le_succ n)
      obtain ⟨kv2, ek⟩ : ∃ kv2, kv2 = kvs := ⟨_, rfl⟩
      have hv2 := hv
      rw [← ek] at M2 hv2
      clear hv
      generalize upd H D (.dK []) = H2 at M2 hda ⊢
    case' refine_2 =>
      have M2 : Mu H0 (upd (upd H D (.dK [])) mu (.dK (putK kvs (.inr nm) (.ref D)))) mu (putK kvs (.inr nm) (.ref D)) L (n + 1) := by
        refine ⟨same_fresh M.f0 M1.sm, M.f0, upd_same, Nat.le_trans put_len (Nat.succ_le_succ M.len), fun x hx d => ?_, fun x v hx => ?_, fun x y da hx hy => ?_⟩
        · rw [valV_put] at hx
          split at hx
          · cases hx
          · exact M.no x hx d
        · rw [valV_put] at hx
          split at hx
          · rename_i e
            cases hx
            obtain rfl := Sum.inr.inj e
            refine ⟨D, [], rfl, Dm, fD, by rw [upd_ne Dm]; exact hDD, Nat.zero_le _, fun d => ?_⟩
            rw [M.no x hv d]
            rfl
          · obtain ⟨db, dkb, e, nb, fb, hb, lb, gb⟩ := M1.yes x v hx
            exact ⟨db, dkb, e, nb, fb, by rw [upd_ne nb]; exact hb, Nat.le_trans lb (by omega), gb⟩
        · have old : ∀ x : Str, valV kvs (.inr x) ≠ some (.ref D) := fun x hx => by
            obtain ⟨db, dkb, e, nb, fb, hb, lb, gb⟩ := M.yes x _ hx
            cases e
            rw [hb] at nD
            cases nD
          rw [valV_put] at hx hy
          split at hx
          · rename_i e1
            cases hx
            split at hy
            · rename_i e2
              exact (Sum.inr.inj e1).trans (Sum.inr.inj e2).symm
            · exact absurd hy (old y)
          · split at hy
            · cases hy
              exact absurd hx (old x)
            · exact M.inj x y da hx hy
      have hv2 : valV (putK kvs (.inr nm) (.ref D)) (.inr nm) = some (.ref D) := by rw [valV_put, if_pos rfl]
      obtain ⟨dk, ed⟩ : ∃ dk : List (Key × V), dk = [] := ⟨_, rfl⟩
      have hda : upd (upd H D (.dK [])) mu (.dK (putK kvs (.inr nm) (.ref D))) D = some (.dK dk) := by rw [upd_ne Dm, ed]; exact hDD
      obtain ⟨da, ea⟩ : ∃ da, da = D := ⟨_, rfl⟩
      have ldk : dk.length ≤ 60 * n := by rw [ed]; exact Nat.zero_le _
      rw [← ea] at hda hv2 M2 ⊢
      generalize putK kvs (.inr nm) (.ref da) = kv2 at M2 hv2 hda ⊢
      clear hv
      generalize upd _ mu (.dK kv2) = H2 at M2 hda ⊢
    all_goals
      obtain ⟨mN, rfl⟩ : ∃ mN : Nat, m = mN := ⟨m.toNat, by omega⟩
      have M3 : Mu H0 H2 mu kv2 (L ++ [(nm, s, ((0 : Nat) : Int))]) (n + 1) := M2.like fun x d => by
        rw [dayB_snoc]
        have : (decide (nm = x) && decide (s ≤ d) && decide (d < s + ((0 : Nat) : Int))) = false := by
          rw [Bool.eq_false_iff]
          intro z
          simp only [Bool.and_eq_true, decide_eq_true_eq] at z
          omega
        show (dayB L x d || (decide (nm = x) && decide (s ≤ d) && decide (d < s + ((0 : Nat) : Int)))) = _
        rw [this, Bool.or_false]
      refine ⟨_, rfl, _, rfl, _, rfl, _, _, rfl, rfl, s, s + (mN : Int), rfl, ⟨by omega, by omega, by omega, by omega⟩, ?_⟩
      have em : (s + (mN : Int) - s).toNat = mN := by omega
      rw [em]
      refine for_range (lo := s) (n := mN) (fun i σ Hx => (∃ y7, σ = [some (.ref mu), some (.ref pa), some (.str "mourn"), some (.int s), some (.str nm), some (.int (mN : Int)), some (.ref da), y7]) ∧ Mu H0 Hx mu kv2 (L ++ [(nm, s, (i : Int))]) (n + 1) ∧ ∃ dk, Hx da = some (.dK dk) ∧ dk.length ≤ 60 * n + i) ⟨⟨_, rfl⟩, M3, dk, hda, by omega⟩ ?_ ?_
      · rintro i σ Hx hi ⟨⟨y7, rfl⟩, Mx, dkx, hdx, lx⟩
        exact ⟨_, rfl, _, rfl, da, _, rfl, .inl ⟨dkx, .inl (s + i), hdx, rfl, Nat.lt_of_le_of_lt lx (Nat.lt_of_lt_of_le (show 60 * n + i < 20000 by omega) (by decide)), rfl⟩, ⟨_, rfl⟩, Mx.put hv2 hdx lx (by omega), _, upd_same, Nat.le_trans put_len (Nat.succ_le_succ lx)⟩
      · rintro σ Hx ⟨⟨y7, rfl⟩, Mx, _⟩
        exact q kv2 Hx Mx
def spIs : Sp := fun vs H Q _ => ∃ (mu : Addr) (H0 : Hp) (kvs : List (Key × V)) (L : List (Str × Int × Int)) (n : Nat) (nm : Str) (d : Int), vs = [.ref mu, .str nm, .int d] ∧ Mu H0 H mu kvs L n ∧ ∀ H', Same H H' → Q (.bl (dayB L nm d)) H'
theorem ok_is (T : Tx K mg w) : FnOk P w K mg base CX0 1 T.f_is_mourning T.d_is_mourning ["mourning", "name", "day"] (spIs) := by
  refine T.F_is_mourning.ok S_is_mourning (fun vs H Q E h => ?_) (fun cdv A outer sx H vs Q E hr h => ?_)
  · obtain ⟨mu, H0, kvs, L, n, nm, d, rfl, _⟩ := h
    rfl
  · obtain ⟨mu, H0, kvs, L, n, nm, d, rfl, M, q⟩ := h
    refine ⟨_, (pss_one (ps_ret (pe_cmp (pc_din (hu_of hr) (pv 2) (pe_dget2 (hu_of hr) (pv 0) (pv 1) pe_dnewK ⟨by rfl, by rfl, by rfl, by rfl⟩))))), ?_⟩
    refine ⟨_, rfl, _, rfl, mu, rfl, .inl ⟨_, .inl M.hmu⟩, _, rfl, fun D nD => ?_⟩
    have sD := same_upd (o := .dK []) nD
    have M1 := M.same sD
    refine ⟨_, DGet.k (k := .inr nm) M1.hmu, ?_⟩
    cases hv : valV kvs (.inr nm) with
    | none =>
      refine ⟨D, _, rfl, DGet.k (k := .inl d) upd_same, ?_⟩
      have := q _ sD
      rw [M.no nm hv d] at this
      exact this
    | some v =>
      obtain ⟨da, dk, rfl, nb, fb, hb, lb, gb⟩ := M1.yes nm v hv
      refine ⟨da, _, rfl, DGet.k (k := .inl d) hb, ?_⟩
      rw [gb d]
      exact q _ sD
/-- a page's data: kind, day, names, home, how many -/
structure Pg where
  z : Str
  d : Int
  a : Str
  b : Option Str
  w : List Int
  m : Int
def numsK : List NestedKey → List Int
  | .num i :: r => i :: numsK r
  | _ => []
theorem nums_map : ∀ ws : List Int, numsK (ws.map .num) = ws
  | [] => rfl
  | w :: ws => by
    rw [List.map_cons, numsK, nums_map ws]
def pgK : NestedKey → Pg
  | .tup [.text z, .num d, .text a, .tup ws] => ⟨z, d, a, none, numsK ws, 0⟩
  | .tup [.text z, .num d, .text a, .text b, .tup ws] => ⟨z, d, a, some b, numsK ws, 0⟩
  | .tup [.text z, .num d, .text a, .num m] => ⟨z, d, a, none, [], m⟩
  | .tup [.text z, .num d, .text a, .text b] => ⟨z, d, a, some b, [], 0⟩
  | _ => ⟨"", 0, "", none, [], 0⟩
/-- a page at a heap, by its data -/
theorem pg_at {H : Hp} {x : V} {k : NestedKey} (n : Nk H x k) (p : PgK k) : ∃ (pa : Addr) (lv : V) (r : List V), x = .ref pa ∧ H pa = some (.tup (.str (pgK k).z :: .int (pgK k).d :: r)) ∧ PV (pgK k).z (pgK k).a (pgK k).b lv r ∧ (pgK k).d = dayK k ∧ 0 ≤ (pgK k).d ∧ (pgK k).d < 20000 ∧
    ((pgK k).z = "house" ∨ (pgK k).z = "home" ∨ (pgK k).z = "part" → ∃ q, lv = .ref q ∧ H q = some (.tup ((pgK k).w.map V.int))) ∧ ((pgK k).z = "mourn" → lv = .int (pgK k).m ∧ 0 ≤ (pgK k).m ∧ (pgK k).m ≤ 60) := by
  obtain ⟨z, d, rr, rfl, re, d0, d1⟩ := p
  have home : ∀ {v : V} {ws : List Int}, Nk H v (.tup (ws.map .num)) → ∃ q, v = .ref q ∧ H q = some (.tup ((numsK (ws.map .num)).map V.int)) := fun {v ws} h => by
    rw [nums_map]
    cases h with
    | @tup q xs _ hq hk =>
      refine ⟨q, rfl, ?_⟩
      rw [hq]
      congr 2
      clear hq
      induction ws generalizing xs with
      | nil => cases hk; rfl
      | cons w ws ih =>
        cases hk with
        | cons n1 hk =>
          cases n1
          rw [List.map_cons, ← ih hk]
  cases n with
  | @tup pa xs _ ha hk =>
    cases hk with
    | @cons v1 _ xs1 _ n1 hk =>
      cases n1
      cases hk with
      | @cons v2 _ xs2 _ n2 hk =>
        cases n2
        cases re with
        | house _ _ =>
          cases hk with
          | cons n3 hk =>
            cases n3
            cases hk with
            | cons n4 hk =>
              cases hk
              exact ⟨pa, _, _, rfl, ha, .house _ _, rfl, d0, d1, fun _ => home n4, fun z => absurd (a := (("house" : Str) = "mourn")) z (by decide +kernel)⟩
        | home _ _ =>
          cases hk with
          | cons n3 hk =>
            cases n3
            cases hk with
            | cons n4 hk =>
              cases hk
              exact ⟨pa, _, _, rfl, ha, .home _ _, rfl, d0, d1, fun _ => home n4, fun z => absurd (a := (("home" : Str) = "mourn")) z (by decide +kernel)⟩
        | part _ _ _ =>
          cases hk with
          | cons n3 hk =>
            cases n3
            cases hk with
            | cons n4 hk =>
              cases n4
              cases hk with
              | cons n5 hk =>
                cases hk
                exact ⟨pa, _, _, rfl, ha, .part _ _ _, rfl, d0, d1, fun _ => home n5, fun z => absurd (a := (("part" : Str) = "mourn")) z (by decide +kernel)⟩
        | mourn _ m0 m1 =>
          cases hk with
          | cons n3 hk =>
            cases n3
            cases hk with
            | cons n4 hk =>
              cases n4
              cases hk
              exact ⟨pa, _, _, rfl, ha, .mourn _ _, rfl, d0, d1, fun z => absurd (a := (("mourn" : Str) = "house" ∨ ("mourn" : Str) = "home" ∨ ("mourn" : Str) = "part")) z (by decide +kernel), fun _ => ⟨rfl, m0, m1⟩⟩
        | join _ _ =>
          cases hk with
          | cons n3 hk =>
            cases n3
            cases hk with
            | cons n4 hk =>
              cases n4
              cases hk
              exact ⟨pa, _, _, rfl, ha, .join _ _, rfl, d0, d1, fun z => absurd (a := (("join" : Str) = "house" ∨ ("join" : Str) = "home" ∨ ("join" : Str) = "part")) z (by decide +kernel), fun z => absurd (a := (("join" : Str) = "mourn")) z (by decide +kernel)⟩
        | ahead _ _ =>
          cases hk with
          | cons n3 hk =>
            cases n3
            cases hk with
            | cons n4 hk =>
              cases n4
              cases hk
              exact ⟨pa, _, _, rfl, ha, .ahead _ _, rfl, d0, d1, fun z => absurd (a := (("ahead" : Str) = "house" ∨ ("ahead" : Str) = "home" ∨ ("ahead" : Str) = "part")) z (by decide +kernel), fun z => absurd (a := (("ahead" : Str) = "mourn")) z (by decide +kernel)⟩
        | card _ _ =>
          cases hk with
          | cons n3 hk =>
            cases n3
            cases hk with
            | cons n4 hk =>
              cases n4
              cases hk
              exact ⟨pa, _, _, rfl, ha, .card _ _, rfl, d0, d1, fun z => absurd (a := (("card" : Str) = "house" ∨ ("card" : Str) = "home" ∨ ("card" : Str) = "part")) z (by decide +kernel), fun z => absurd (a := (("card" : Str) = "mourn")) z (by decide +kernel)⟩
        | visit _ _ =>
          cases hk with
          | cons n3 hk =>
            cases n3
            cases hk with
            | cons n4 hk =>
              cases n4
              cases hk
              exact ⟨pa, _, _, rfl, ha, .visit _ _, rfl, d0, d1, fun z => absurd (a := (("visit" : Str) = "house" ∨ ("visit" : Str) = "home" ∨ ("visit" : Str) = "part")) z (by decide +kernel), fun z => absurd (a := (("visit" : Str) = "mourn")) z (by decide +kernel)⟩
structure Due where
  ow : Str
  od : Str
  vis : Bool
  pg : NestedKey
  fl : List Int
def sortS (v : Bool) : Str := if v then "visit" else "card"
def dueK (u : Due) : NestedKey := .tup [.text u.ow, .text u.od, .text (sortS u.vis), u.pg, .tup (u.fl.map .num)]
/-- the walk's state, as data -/
structure WS where
  hs : Str → Option (List Int)
  kn : List Str
  L : List (Str × Int × Int)
  ds : List Due
  mks : List NestedKey
  an : List (NestedKey × List Due)
  cp : Int
  sk : Int
  sp : Int
/-- where the walk stands -/
structure WA where
  wa : Addr
  hm : Addr
  mu : Addr
  kn : Addr
  du : Addr
  mks : Addr
  an : Addr
  dx : Addr
  lim : Addr
def fldsW (A : WA) (s : WS) : List (Str × V) := [("limits", .ref A.lim), ("homes", .ref A.hm), ("mourning", .ref A.mu), ("known", .ref A.kn), ("dues", .ref A.du), ("marks", .ref A.mks), ("answers", .ref A.an), ("copied", .int s.cp), ("struck", .int s.sk), ("spare", .int s.sp)]
/-- a dict of homes -/
def HmAt (H : Hp) (kvs : List (Key × V)) (hs : Str → Option (List Int)) : Prop := ∀ a : Str, (valV kvs (.inr a) = none ∧ hs a = none) ∨ ∃ q is, valV kvs (.inr a) = some (.ref q) ∧ H q = some (.tup (is.map V.int)) ∧ hs a = some is
theorem HmAt.at {H H' : Hp} {kvs : List (Key × V)} {hs : Str → Option (List Int)} (h : HmAt H kvs hs) (t : Tups H H') : HmAt H' kvs hs := fun a => (h a).imp id fun ⟨q, is, e1, e2, e3⟩ => ⟨q, is, e1, t _ _ e2, e3⟩
/-- own of a dict of mournings -/
def ownM (mu : Addr) (kvs : List (Key × V)) (b : Addr) : Prop := b = mu ∨ ∃ nm : Str, valV kvs (.inr nm) = some (.ref b)
/-- the dict of mournings, whatever stands beside it -/
structure Mw (H : Hp) (mu : Addr) (kvs : List (Key × V)) (L : List (Str × Int × Int)) (n : Nat) : Prop where
  hmu : H mu = some (.dK kvs)
  len : kvs.length ≤ n
  no : ∀ nm : Str, valV kvs (.inr nm) = none → ∀ d, dayB L nm d = false
  yes : ∀ (nm : Str) (v : V), valV kvs (.inr nm) = some v → ∃ da dk, v = .ref da ∧ da ≠ mu ∧ H da = some (.dK dk) ∧ dk.length ≤ 60 * n ∧ ∀ d, (valV dk (.inl d)).isSome = dayB L nm d
  inj : ∀ (n1 n2 : Str) (da : Addr), valV kvs (.inr n1) = some (.ref da) → valV kvs (.inr n2) = some (.ref da) → n1 = n2
open Classical in
/-- the heap without them -/
noncomputable def Hv (H : Hp) (mu : Addr) (kvs : List (Key × V)) : Hp := fun b => if ownM mu kvs b then none else H b
theorem Mw.mu {H : Hp} {mu : Addr} {kvs : List (Key × V)} {L : List (Str × Int × Int)} {n : Nat} (m : Mw H mu kvs L n) : Mu (Hv H mu kvs) H mu kvs L n := by
  refine ⟨fun b o e => ?_, if_pos (.inl rfl), m.hmu, m.len, m.no, fun nm v hv => ?_, m.inj⟩
  · unfold Hv at e
    split at e
    · cases e
    · exact e
  · obtain ⟨da, dk, e, a, b, c, d⟩ := m.yes nm v hv
    exact ⟨da, dk, e, a, if_pos (.inr ⟨nm, by rw [hv, e]⟩), b, c, d⟩
theorem Mu.mw {H0 H : Hp} {mu : Addr} {kvs : List (Key × V)} {L : List (Str × Int × Int)} {n : Nat} (m : Mu H0 H mu kvs L n) : Mw H mu kvs L n :=
  ⟨m.hmu, m.len, m.no, fun nm v hv => let ⟨da, dk, a, b, _, c, d, e⟩ := m.yes nm v hv; ⟨da, dk, a, b, c, d, e⟩, m.inj⟩
theorem Mu.own {H0 H : Hp} {mu : Addr} {kvs : List (Key × V)} {L : List (Str × Int × Int)} {n : Nat} (m : Mu H0 H mu kvs L n) {b : Addr} (o : ownM mu kvs b) : H0 b = none := by
  rcases o with rfl | ⟨nm, hv⟩
  · exact m.f0
  · obtain ⟨da, dk, e, _, c, _⟩ := m.yes nm _ hv
    cases e
    exact c
theorem hv_some {H : Hp} {mu b : Addr} {kvs : List (Key × V)} {o : HO} (e : H b = some o) (n : ¬ ownM mu kvs b) : Hv H mu kvs b = some o := by
  unfold Hv
  rw [if_neg n]
  exact e
theorem hv_none {H : Hp} {mu b : Addr} {kvs : List (Key × V)} (e : Hv H mu kvs b = none) : ownM mu kvs b ∨ H b = none := by
  unfold Hv at e
  split at e
  · exact .inl (by assumption)
  · exact .inr e
theorem Mw.dk {H : Hp} {mu b : Addr} {kvs : List (Key × V)} {L : List (Str × Int × Int)} {n : Nat} (m : Mw H mu kvs L n) (o : ownM mu kvs b) : ∃ dk, H b = some (.dK dk) := by
  rcases o with rfl | ⟨nm, hv⟩
  · exact ⟨_, m.hmu⟩
  · obtain ⟨da, dk, e, _, c, _⟩ := m.yes nm _ hv
    cases e
    exact ⟨_, c⟩
theorem Mw.keep {H H' : Hp} {mu : Addr} {kvs : List (Key × V)} {L : List (Str × Int × Int)} {n : Nat} (m : Mw H mu kvs L n) (k : ∀ b o, ownM mu kvs b → H b = some o → H' b = some o) : Mw H' mu kvs L n :=
  ⟨k _ _ (.inl rfl) m.hmu, m.len, m.no, fun nm v hv => let ⟨da, dk, a, b, c, d, e⟩ := m.yes nm v hv; ⟨da, dk, a, b, k _ _ (.inr ⟨nm, by rw [hv, a]⟩) c, d, e⟩, m.inj⟩
/-- nothing stood there but perhaps a table -/
def Frs (H0 : Hp) (b : Addr) : Prop := ∀ o, H0 b = some o → ∃ ps, o = .tbl ps
theorem Frs.of {H0 : Hp} {b : Addr} (e : H0 b = none) : Frs H0 b := fun o h => by rw [e] at h; cases h
theorem fr_new {Ts : List Addr} {H0 H : Hp} {b : Addr} (g : Gk Ts H0 H) (e : H b = none) : Frs H0 b := fun o h => by
  cases o with
  | tbl ps => exact ⟨ps, rfl⟩
  | _ => rw [g.1 _ _ h (fun ps z => by cases z)] at e; cases e
/-- what a going answered, at a heap -/
def AnsAt (H : Hp) (A : WA) (x : V) (p : NestedKey × List Due) : Prop := ∃ (r l : Addr) (v : V) (ys : List V), x = .ref r ∧ H r = some (.tup [v, .ref l]) ∧ Nk H v p.1 ∧ H l = some (.lst ys) ∧ NkAll H ys (p.2.map dueK) ∧ l ≠ A.kn ∧ l ≠ A.du ∧ l ≠ A.mks ∧ l ≠ A.an
inductive AnsAll (H : Hp) (A : WA) : List V → List (NestedKey × List Due) → Prop
  | nil : AnsAll H A [] []
  | cons {x : V} {p : NestedKey × List Due} {xs : List V} {ps : List (NestedKey × List Due)} : AnsAt H A x p → AnsAll H A xs ps → AnsAll H A (x :: xs) (p :: ps)
theorem AnsAll.length {H : Hp} {A : WA} : ∀ {xs : List V} {ps : List (NestedKey × List Due)}, AnsAll H A xs ps → xs.length = ps.length
  | _, _, .nil => rfl
  | _, _, .cons _ h => congrArg (· + 1) h.length
theorem AnsAll.imp {H H' : Hp} {A A' : WA} (f : ∀ x p, AnsAt H A x p → AnsAt H' A' x p) : ∀ {xs : List V} {ps : List (NestedKey × List Due)}, AnsAll H A xs ps → AnsAll H' A' xs ps
  | _, _, .nil => .nil
  | _, _, .cons a h => .cons (f _ _ a) (AnsAll.imp f h)
theorem AnsAll.snoc {H : Hp} {A : WA} {x : V} {p : NestedKey × List Due} (a : AnsAt H A x p) : ∀ {xs : List V} {ps : List (NestedKey × List Due)}, AnsAll H A xs ps → AnsAll H A (xs ++ [x]) (ps ++ [p])
  | _, _, .nil => .cons a .nil
  | _, _, .cons b h => .cons b (AnsAll.snoc a h)
theorem AnsAll.get {H : Hp} {A : WA} : ∀ {xs : List V} {ps : List (NestedKey × List Due)} {i : Nat} {x : V}, AnsAll H A xs ps → xs[i]? = some x → ∃ p, ps[i]? = some p ∧ AnsAt H A x p
  | _, _, _, _, .nil, h => by cases h
  | _, _, 0, _, .cons a _, h => by cases h; exact ⟨_, rfl, a⟩
  | _, _, i + 1, _, .cons _ t, h => AnsAll.get (i := i) t h
theorem AnsAll.keep {H H' : Hp} {A : WA} (t : Tups H H') (k : ∀ l ys, l ≠ A.kn → l ≠ A.du → l ≠ A.mks → l ≠ A.an → H l = some (.lst ys) → H' l = some (.lst ys)) {xs : List V} {ps : List (NestedKey × List Due)} (h : AnsAll H A xs ps) : AnsAll H' A xs ps :=
  h.imp fun x p ⟨r, l, v, ys, e, h1, h2, h3, h4, n1, n2, n3, n4⟩ => ⟨r, l, v, ys, e, t _ _ h1, h2.at t, k l ys n1 n2 n3 n4 h3, h4.at t, n1, n2, n3, n4⟩
/-- beside another list of dues, made anew -/
theorem AnsAll.swap {H H' : Hp} {A : WA} {D : Addr} (nD : H D = none) (m : Same H H') {xs : List V} {ps : List (NestedKey × List Due)} (h : AnsAll H A xs ps) : AnsAll H' { A with du := D } xs ps :=
  h.imp fun x p ⟨r, l, v, ys, e, h1, h2, h3, h4, n1, n2, n3, n4⟩ => ⟨r, l, v, ys, e, m _ _ h1, h2.at (.same m), m _ _ h3, h4.at (.same m), n1, ne_of_none h3 nD, n3, n4⟩
/-- the walk at a heap -/
structure WkAt (T : Tx K mg w) (t1 t2 : Int) (H0 H : Hp) (A : WA) (s : WS) (n : Nat) : Prop where
  gk : Gk (tbs T) H0 H
  ob : H A.wa = some (.ins T.C_Walk A.dx (fldsW A s))
  lim : H A.lim = some (.tup [.int t1, .int t2])
  hm : ∃ kvs, H A.hm = some (.dK kvs) ∧ kvs.length ≤ n ∧ HmAt H kvs s.hs
  mo : ∃ kvs, Mw H A.mu kvs s.L n ∧ ∀ b, ownM A.mu kvs b → Frs H0 b ∧ b ≠ A.hm
  kn : H A.kn = some (.lst (s.kn.map V.str))
  knl : s.kn.length ≤ n
  du : ∃ xs, H A.du = some (.lst xs) ∧ NkAll H xs (s.ds.map dueK)
  mks : ∃ xs, H A.mks = some (.lst xs) ∧ NkAll H xs s.mks
  an : ∃ xs, H A.an = some (.lst xs) ∧ AnsAll H A xs s.an
  fw : Frs H0 A.wa
  fh : Frs H0 A.hm
  fk : Frs H0 A.kn
  fd : Frs H0 A.du
  fm : Frs H0 A.mks
  fa : Frs H0 A.an
  kd : A.kn ≠ A.du
  km : A.kn ≠ A.mks
  ka : A.kn ≠ A.an
  dm : A.du ≠ A.mks
  da : A.du ≠ A.an
  ma : A.mks ≠ A.an
/-- things made anew only -/
theorem WkAt.same {T : Tx K mg w} {t1 t2 : Int} {H0 H H' : Hp} {A : WA} {s : WS} {n : Nat} (W : WkAt T t1 t2 H0 H A s n) (m : Same H H') : WkAt T t1 t2 H0 H' A s n := by
  obtain ⟨kvs, h1, h2, h3⟩ := W.hm
  obtain ⟨kv2, m1, m2⟩ := W.mo
  obtain ⟨xs, d1, d2⟩ := W.du
  obtain ⟨ys, k1, k2⟩ := W.mks
  obtain ⟨zs, a1, a2⟩ := W.an
  exact { W with
    gk := W.gk.trans (.of_same m W.gk.2), ob := m _ _ W.ob, lim := m _ _ W.lim, hm := ⟨kvs, m _ _ h1, h2, h3.at (.same m)⟩, mo := ⟨kv2, m1.keep fun b o _ e => m _ _ e, m2⟩, kn := m _ _ W.kn
    du := ⟨xs, m _ _ d1, d2.at (.same m)⟩, mks := ⟨ys, m _ _ k1, k2.at (.same m)⟩, an := ⟨zs, m _ _ a1, a2.keep (.same m) fun l ys _ _ _ _ e => m _ _ e⟩ }
theorem WkAt.gkk {T : Tx K mg w} {t1 t2 : Int} {H0 H H' : Hp} {A : WA} {s : WS} {n : Nat} (W : WkAt T t1 t2 H0 H A s n) (m : Gk (tbs T) H H') : WkAt T t1 t2 H0 H' A s n := by
  obtain ⟨kvs, h1, h2, h3⟩ := W.hm
  obtain ⟨kv2, m1, m2⟩ := W.mo
  obtain ⟨xs, d1, d2⟩ := W.du
  obtain ⟨ys, k1, k2⟩ := W.mks
  obtain ⟨zs, a1, a2⟩ := W.an
  exact { W with
    gk := W.gk.trans m, ob := m.1 _ _ W.ob (fun ps z => by cases z), lim := m.tup W.lim, hm := ⟨kvs, m.1 _ _ h1 (fun ps z => by cases z), h2, h3.at (.gk m)⟩
    mo := ⟨kv2, m1.keep fun b o ow e => by obtain ⟨dk, e2⟩ := m1.dk ow; rw [e2] at e; cases e; exact m.1 _ _ e2 (fun ps z => by cases z), m2⟩
    kn := m.1 _ _ W.kn (fun ps z => by cases z)
    du := ⟨xs, m.1 _ _ d1 (fun ps z => by cases z), d2.at (.gk m)⟩, mks := ⟨ys, m.1 _ _ k1 (fun ps z => by cases z), k2.at (.gk m)⟩, an := ⟨zs, m.1 _ _ a1 (fun ps z => by cases z), a2.keep (.gk m) fun l ys _ _ _ _ e => m.1 _ _ e (fun ps z => by cases z)⟩ }
end
end L20

set_option Elab.async false
set_option linter.all false
set_option maxRecDepth 100000
set_option maxHeartbeats 4000000
namespace L20
open PySem PySem.Spec PyProof.Rows L2 My
section
variable {P : Program} {w : World} {K : PySem.W.Frag} {mg : Str → Option Value} {base : Heap}
def spWeek : Sp := fun vs H Q _ => ∃ d : Int, vs = [.int d] ∧ Q (.int (d % 7)) H
theorem ok_week (T : Tx K mg w) : FnOk P w K mg base CX0 1 T.f_weekday T.d_weekday ["day"] (spWeek) := by
  refine T.F_weekday.ok S_weekday (fun vs H Q E h => ?_) (fun cdv A outer sx H vs Q E hr h => ?_)
  · obtain ⟨d, rfl, _⟩ := h
    rfl
  · obtain ⟨d, rfl, q⟩ := h
    refine ⟨_, (pss_one (ps_ret (pe_op op_mod (pv 0) (pe_glob (v := .int 7) (by rfl) T.c_WEEK ⟨_, rfl⟩)))), ?_⟩
    exact ⟨_, rfl, _, _, rfl, rfl, (by decide : (0 : Int) < 7), q⟩
theorem inV_int (x : Int) : ∀ ks : List Int, inV (.int x) (ks.map V.int) = decide (x ∈ ks)
  | [] => by simp [inV]
  | k :: ks => by
    have ih := inV_int x ks
    unfold inV at ih ⊢
    rw [List.map_cons, List.any_cons, ih]
    show ((k == x) || decide (x ∈ ks)) = _
    rw [Bool.eq_iff_iff]
    simp only [Bool.or_eq_true, beq_iff_eq, decide_eq_true_eq, List.mem_cons]
    exact or_congr ⟨Eq.symm, Eq.symm⟩ Iff.rfl
theorem flat_int (ks : List Int) : (ks.map V.int).all flatV = true := by
  rw [List.all_map]
  exact List.all_eq_true.mpr fun _ _ => rfl
def spMn (T : Tx K mg w) : Sp := fun vs H Q _ => ∃ (t1 t2 : Int) (H0 : Hp) (A : WA) (s : WS) (n : Nat) (nm : Str) (d : Int), vs = [.ref A.wa, .str nm, .int d] ∧ WkAt T t1 t2 H0 H A s n ∧ ∀ H', Same H H' → Q (.bl (dayB s.L nm d)) H'
theorem ok_mn (T : Tx K mg w) : FnOk P w K mg base CX0 2 T.f_Walk_mourns_on T.d_Walk_mourns_on ["self", "name", "day"] (spMn T) := by
  have G_is_mourning : FnOk P w K mg base CX0 1 T.f_is_mourning T.d_is_mourning ["mourning", "name", "day"] (spIs) := ok_is T
  refine T.F_Walk_mourns_on.ok S_Walk_mourns_on (fun vs H Q E h => ?_) (fun cdv A0 outer sx H vs Q E hr h => ?_)
  · obtain ⟨t1, t2, H0, A, s, n, nm, d, rfl, _⟩ := h
    rfl
  · obtain ⟨t1, t2, H0, A, s, n, nm, d, rfl, W, q⟩ := h
    refine ⟨_, (pss_one (ps_ret (pe_call G_is_mourning hr (by rfl) T.g_is_mourning T.F_is_mourning.kp T.b_is_mourning .nil pass0 (pa_cons (pe_fld (pv 0) rfl) (pa_cons (pv 1) (pa_cons (pv 2) pa_nil)))))), ?_⟩
    obtain ⟨kvs, M, _⟩ := W.mo
    exact ⟨_, rfl, A.wa, _, _, _, _, rfl, W.ob, T.cl_Walk, T.na_Walk_mourning, rfl, _, rfl, _, rfl, A.mu, _, kvs, s.L, n, nm, d, rfl, M.mu, q⟩
def homeB (s : WS) (nm : Str) (d : Int) : Bool := (match s.hs nm with | some is => decide (d % 7 ∈ is) | none => false) && !dayB s.L nm d
def spHo (T : Tx K mg w) : Sp := fun vs H Q _ => ∃ (t1 t2 : Int) (H0 : Hp) (A : WA) (s : WS) (n : Nat) (nm : Str) (d : Int), vs = [.ref A.wa, .str nm, .int d] ∧ WkAt T t1 t2 H0 H A s n ∧ (s.hs nm).isSome = true ∧ ∀ H', Same H H' → Q (.bl (homeB s nm d)) H'
theorem ok_ho (T : Tx K mg w) : FnOk P w K mg base CX0 3 T.f_Walk_at_home_on T.d_Walk_at_home_on ["self", "name", "day"] (spHo T) := by
  have G_weekday : FnOk P w K mg base CX0 1 T.f_weekday T.d_weekday ["day"] (spWeek) := ok_week T
  have G_Walk_mourns_on : FnOk P w K mg base CX0 2 T.f_Walk_mourns_on T.d_Walk_mourns_on ["self", "name", "day"] (spMn T) := ok_mn T
  refine T.F_Walk_at_home_on.ok S_Walk_at_home_on (fun vs H Q E h => ?_) (fun cdv A0 outer sx H vs Q E hr h => ?_)
  · obtain ⟨t1, t2, H0, A, s, n, nm, d, rfl, _⟩ := h
    rfl
  · obtain ⟨t1, t2, H0, A, s, n, nm, d, rfl, W, hh, q⟩ := h
    refine ⟨_, (pss_one (ps_ret (pe_and (pe_cmpR op_in_seq (pe_call G_weekday (hr.mono (by decide)) (by rfl) T.g_weekday T.F_weekday.kp T.b_weekday .nil pass0 (pa_cons (pv 2) pa_nil)) (pe_dget (hu_of hr) (pe_fld (pv 0) rfl) (pv 1) (fun _ _ => rfl)) (by rfl)) (pe_one (pe_not (pe_meth (pv 0) T.cl_Walk T.me_Walk_mourns_on G_Walk_mourns_on hr T.b_Walk_mourns_on .nil pass0 (pa_cons (pv 1) (pa_cons (pv 2) pa_nil)))))))), ?_⟩
    obtain ⟨kvs, h1, _, h2⟩ := W.hm
    obtain ⟨q1, is, e1, e2, e3⟩ : ∃ q is, valV kvs (.inr nm) = some (.ref q) ∧ H q = some (.tup (is.map V.int)) ∧ s.hs nm = some is := by
      rcases h2 nm with ⟨_, e⟩ | h
      · rw [e] at hh; cases hh
      · exact h
    refine ⟨_, rfl, d, rfl, _, rfl, A.wa, _, _, _, _, rfl, W.ob, T.cl_Walk, T.na_Walk_homes, rfl, _, rfl, A.hm, _, rfl, by have := DGet.k (k := .inr nm) h1; rw [e1] at this; exact this, q1, _, rfl, .inr (.inl (.inl e2)), rfl, flat_int is, _, rfl, ?_⟩
    have iv : inV (.int (d % 7)) (is.map V.int) = decide (d % 7 ∈ is) := inV_int _ _
    have qq : ∀ H', Same H H' → Q (.bl (decide (d % 7 ∈ is) && !dayB s.L nm d)) H' := fun H' m => by
      have := q H' m
      unfold homeB at this
      rw [e3] at this
      exact this
    refine ite2 (fun e => ?_) (fun e => ?_)
    · have e : inV (.int (d % 7)) (is.map V.int) = true := e
      rw [iv] at e
      rw [e] at qq
      exact ⟨_, rfl, A.wa, _, _, rfl, W.ob, rfl, _, rfl, _, rfl, t1, t2, H0, A, s, n, nm, d, rfl, W, fun H1 m => ⟨_, rfl, qq _ m⟩⟩
    · have e : ¬ inV (.int (d % 7)) (is.map V.int) = true := e
      rw [iv] at e
      rw [Bool.eq_false_iff.mpr e] at qq
      exact qq _ (fun _ _ e => e)
end
end L20

set_option Elab.async false
set_option linter.all false
set_option maxRecDepth 100000
set_option maxHeartbeats 4000000
namespace L20
open PySem PySem.Spec PyProof.Rows L2 My
section
variable {P : Program} {w : World} {K : PySem.W.Frag} {mg : Str → Option Value} {base : Heap}
theorem WkAt.tupne {T : Tx K mg w} {t1 t2 : Int} {H0 H : Hp} {A : WA} {s : WS} {n : Nat} (W : WkAt T t1 t2 H0 H A s n) {o : HO} : Tups H (upd H A.wa o) := fun b xs e => by
  rw [upd_ne (fun z => by rw [z, W.ob] at e; cases e)]
  exact e
theorem gk_upd {Ts : List Addr} {H0 H : Hp} {b : Addr} {o u : HO} (g : Gk Ts H0 H) (fb : Frs H0 b) (e : H b = some u) (n : ∀ ps, u ≠ .tbl ps) : Gk Ts H0 (upd H b o) :=
  ⟨fun c x h t => by rw [upd_ne (fun z => by obtain ⟨ps, e⟩ := fb x (z ▸ h); exact t ps e)]; exact g.1 c x h t, tbs_at g.2 e n⟩
theorem smallL {n : Nat} (h : n ≤ 100000) : n < sizeLine := by rw [sizeLine_eq]; omega
/-- another list of dues, other counts -/
theorem WkAt.putDu {T : Tx K mg w} {t1 t2 : Int} {H0 H1 H : Hp} {A : WA} {s : WS} {n : Nat} (W0 : WkAt T t1 t2 H0 H1 A s n) (m : Same H1 H) {du' : Addr} (nD : H1 du' = none) {xs : List V} (ds' : List Due) (cp sk sp : Int) (e : H du' = some (.lst xs)) (nk : NkAll H xs (ds'.map dueK)) :
    WkAt T t1 t2 H0 (upd H A.wa (.ins T.C_Walk A.dx (fldsW { A with du := du' } { s with ds := ds', cp := cp, sk := sk, sp := sp }))) { A with du := du' } { s with ds := ds', cp := cp, sk := sk, sp := sp } n := by
  have W := W0.same m
  have tp := W.tupne (o := .ins T.C_Walk A.dx (fldsW { A with du := du' } { s with ds := ds', cp := cp, sk := sk, sp := sp }))
  have ne : ∀ {b : Addr} {o : HO}, H b = some o → (∀ C dx fs, o ≠ .ins C dx fs) → b ≠ A.wa := fun {b o} h k z => by
    rw [z, W.ob] at h
    exact k _ _ _ (Option.some.inj h).symm
  obtain ⟨kvs, h1, h2, h3⟩ := W.hm
  obtain ⟨kv2, m1, m2⟩ := W.mo
  obtain ⟨ys, k1, k2⟩ := W.mks
  obtain ⟨ys0, k10, _⟩ := W0.mks
  obtain ⟨zs, a1, a2⟩ := W0.an
  exact { gk := gk_upd W.gk W.fw W.ob (fun ps z => by cases z), ob := upd_same, lim := tp _ _ W.lim
          hm := ⟨kvs, by rw [upd_ne (ne h1 (fun _ _ _ z => by cases z))]; exact h1, h2, h3.at tp⟩
          mo := ⟨kv2, m1.keep fun b o ow eb => by obtain ⟨dk, e2⟩ := m1.dk ow; rw [upd_ne (ne e2 (fun _ _ _ z => by cases z))]; exact eb, m2⟩
          kn := by rw [upd_ne (ne W.kn (fun _ _ _ z => by cases z))]; exact W.kn
          knl := W.knl
          du := ⟨xs, by rw [upd_ne (ne e (fun _ _ _ z => by cases z))]; exact e, nk.at tp⟩
          mks := ⟨ys, by rw [upd_ne (ne k1 (fun _ _ _ z => by cases z))]; exact k1, k2.at tp⟩
          an := ⟨zs, by rw [upd_ne (ne (m _ _ a1) (fun _ _ _ z => by cases z))]; exact m _ _ a1, (a2.swap nD m).keep tp fun l ys _ _ _ _ e => by rw [upd_ne (ne e (fun _ _ _ z => by cases z))]; exact e⟩
          fw := W.fw, fh := W.fh, fk := W.fk, fd := fr_new W0.gk nD, fm := W.fm, fa := W.fa, kd := ne_of_none W0.kn nD, km := W.km, ka := W.ka, dm := (ne_of_none k10 nD).symm, da := (ne_of_none a1 nD).symm, ma := W.ma }
/-- the same, where it was made a while ago -/
theorem WkAt.putDu2 {T : Tx K mg w} {t1 t2 : Int} {H0 H : Hp} {A : WA} {s : WS} {n : Nat} (W : WkAt T t1 t2 H0 H A s n) {du' : Addr} {xs zs : List V} (ds' : List Due) (cp sk sp : Int) (e : H du' = some (.lst xs)) (nk : NkAll H xs (ds'.map dueK)) (a1 : H A.an = some (.lst zs)) (ha : AnsAll H { A with du := du' } zs s.an) (f0 : Frs H0 du') (n1 : A.kn ≠ du') (n2 : du' ≠ A.mks) (n3 : du' ≠ A.an) :
    WkAt T t1 t2 H0 (upd H A.wa (.ins T.C_Walk A.dx (fldsW { A with du := du' } { s with ds := ds', cp := cp, sk := sk, sp := sp }))) { A with du := du' } { s with ds := ds', cp := cp, sk := sk, sp := sp } n := by
  have tp := W.tupne (o := .ins T.C_Walk A.dx (fldsW { A with du := du' } { s with ds := ds', cp := cp, sk := sk, sp := sp }))
  have ne : ∀ {b : Addr} {o : HO}, H b = some o → (∀ C dx fs, o ≠ .ins C dx fs) → b ≠ A.wa := fun {b o} h k z => by
    rw [z, W.ob] at h
    exact k _ _ _ (Option.some.inj h).symm
  obtain ⟨kvs, h1, h2, h3⟩ := W.hm
  obtain ⟨kv2, m1, m2⟩ := W.mo
  obtain ⟨ys, k1, k2⟩ := W.mks
  exact { gk := gk_upd W.gk W.fw W.ob (fun ps z => by cases z), ob := upd_same, lim := tp _ _ W.lim
          hm := ⟨kvs, by rw [upd_ne (ne h1 (fun _ _ _ z => by cases z))]; exact h1, h2, h3.at tp⟩
          mo := ⟨kv2, m1.keep fun b o ow eb => by obtain ⟨dk, e2⟩ := m1.dk ow; rw [upd_ne (ne e2 (fun _ _ _ z => by cases z))]; exact eb, m2⟩
          kn := by rw [upd_ne (ne W.kn (fun _ _ _ z => by cases z))]; exact W.kn
          knl := W.knl
          du := ⟨xs, by rw [upd_ne (ne e (fun _ _ _ z => by cases z))]; exact e, nk.at tp⟩
          mks := ⟨ys, by rw [upd_ne (ne k1 (fun _ _ _ z => by cases z))]; exact k1, k2.at tp⟩
          an := ⟨zs, by rw [upd_ne (ne a1 (fun _ _ _ z => by cases z))]; exact a1, ha.keep tp fun l ys _ _ _ _ e => by rw [upd_ne (ne e (fun _ _ _ z => by cases z))]; exact e⟩
          fw := W.fw, fh := W.fh, fk := W.fk, fd := f0, fm := W.fm, fa := W.fa, kd := n1, km := W.km, ka := W.ka, dm := n2, da := n3, ma := W.ma }
/-- other counts -/
theorem WkAt.putC {T : Tx K mg w} {t1 t2 : Int} {H0 H : Hp} {A : WA} {s : WS} {n : Nat} (W : WkAt T t1 t2 H0 H A s n) (cp sk sp : Int) : WkAt T t1 t2 H0 (upd H A.wa (.ins T.C_Walk A.dx (fldsW A { s with cp := cp, sk := sk, sp := sp }))) A { s with cp := cp, sk := sk, sp := sp } n := by
  obtain ⟨xs, d1, d2⟩ := W.du
  obtain ⟨zs, a1, a2⟩ := W.an
  exact W.putDu2 (du' := A.du) s.ds cp sk sp d1 d2 a1 a2 W.fd W.kd W.dm W.da
/-- what stays where an own list is changed -/
theorem WkAt.lst {T : Tx K mg w} {t1 t2 : Int} {H0 H : Hp} {A : WA} {s : WS} {n : Nat} (W : WkAt T t1 t2 H0 H A s n) {b : Addr} {ys : List V} (zs : List V) (hb : H b = some (.lst ys)) (fb : Frs H0 b) :
    Gk (tbs T) H0 (upd H b (.lst zs)) ∧ upd H b (.lst zs) A.wa = some (.ins T.C_Walk A.dx (fldsW A s)) ∧ Tups H (upd H b (.lst zs)) ∧ (∃ kvs, upd H b (.lst zs) A.hm = some (.dK kvs) ∧ kvs.length ≤ n ∧ HmAt (upd H b (.lst zs)) kvs s.hs) ∧
    (∃ kvs, Mw (upd H b (.lst zs)) A.mu kvs s.L n ∧ ∀ b, ownM A.mu kvs b → Frs H0 b ∧ b ≠ A.hm) ∧ ∀ c, c ≠ b → upd H b (.lst zs) c = H c := by
  have tp : Tups H (upd H b (.lst zs)) := fun c xs e => by rw [upd_ne (fun z => by rw [z, hb] at e; cases e)]; exact e
  have ne : ∀ {c : Addr} {o : HO}, H c = some o → (∀ xs, o ≠ .lst xs) → c ≠ b := fun {c o} h k z => by
    rw [z, hb] at h
    exact k _ (Option.some.inj h).symm
  obtain ⟨kvs, h1, h2, h3⟩ := W.hm
  obtain ⟨kv2, m1, m2⟩ := W.mo
  exact ⟨gk_upd W.gk fb hb (fun ps z => by cases z), by rw [upd_ne (ne W.ob (fun _ z => by cases z))]; exact W.ob, tp, ⟨kvs, by rw [upd_ne (ne h1 (fun _ z => by cases z))]; exact h1, h2, h3.at tp⟩,
    ⟨kv2, m1.keep fun b o ow eb => by obtain ⟨dk, e2⟩ := m1.dk ow; rw [upd_ne (ne e2 (fun _ z => by cases z))]; exact eb, m2⟩, fun c hc => upd_ne hc⟩
/-- the dues' list told anew -/
theorem WkAt.setDu {T : Tx K mg w} {t1 t2 : Int} {H0 H : Hp} {A : WA} {s : WS} {n : Nat} (W : WkAt T t1 t2 H0 H A s n) {xs : List V} {ds' : List Due} (nk : NkAll H xs (ds'.map dueK)) : WkAt T t1 t2 H0 (upd H A.du (.lst xs)) A { s with ds := ds' } n := by
  obtain ⟨ws, d1, d2⟩ := W.du
  obtain ⟨ys, k1, k2⟩ := W.mks
  obtain ⟨zs, a1, a2⟩ := W.an
  obtain ⟨r1, r2, r3, r4, r5, r6⟩ := W.lst xs d1 W.fd
  exact { gk := r1, ob := r2, lim := r3 _ _ W.lim, hm := r4, mo := r5, kn := by rw [r6 _ W.kd]; exact W.kn, knl := W.knl, du := ⟨xs, upd_same, nk.at r3⟩, mks := ⟨ys, by rw [r6 _ W.dm.symm]; exact k1, k2.at r3⟩, an := ⟨zs, by rw [r6 _ W.da.symm]; exact a1, a2.keep r3 fun l ys _ n2 _ _ e => by rw [r6 _ n2]; exact e⟩
          fw := W.fw, fh := W.fh, fk := W.fk, fd := W.fd, fm := W.fm, fa := W.fa, kd := W.kd, km := W.km, ka := W.ka, dm := W.dm, da := W.da, ma := W.ma }
theorem WkAt.setMk {T : Tx K mg w} {t1 t2 : Int} {H0 H : Hp} {A : WA} {s : WS} {n : Nat} (W : WkAt T t1 t2 H0 H A s n) {xs : List V} {mk' : List NestedKey} (nk : NkAll H xs mk') : WkAt T t1 t2 H0 (upd H A.mks (.lst xs)) A { s with mks := mk' } n := by
  obtain ⟨ws, d1, d2⟩ := W.du
  obtain ⟨ys, k1, k2⟩ := W.mks
  obtain ⟨zs, a1, a2⟩ := W.an
  obtain ⟨r1, r2, r3, r4, r5, r6⟩ := W.lst xs k1 W.fm
  exact { gk := r1, ob := r2, lim := r3 _ _ W.lim, hm := r4, mo := r5, kn := by rw [r6 _ W.km]; exact W.kn, knl := W.knl, du := ⟨ws, by rw [r6 _ W.dm]; exact d1, d2.at r3⟩, mks := ⟨xs, upd_same, nk.at r3⟩, an := ⟨zs, by rw [r6 _ W.ma.symm]; exact a1, a2.keep r3 fun l ys _ _ n3 _ e => by rw [r6 _ n3]; exact e⟩
          fw := W.fw, fh := W.fh, fk := W.fk, fd := W.fd, fm := W.fm, fa := W.fa, kd := W.kd, km := W.km, ka := W.ka, dm := W.dm, da := W.da, ma := W.ma }
theorem WkAt.setAn {T : Tx K mg w} {t1 t2 : Int} {H0 H : Hp} {A : WA} {s : WS} {n : Nat} (W : WkAt T t1 t2 H0 H A s n) {xs : List V} {an' : List (NestedKey × List Due)} (h : AnsAll H A xs an') : WkAt T t1 t2 H0 (upd H A.an (.lst xs)) A { s with an := an' } n := by
  obtain ⟨ws, d1, d2⟩ := W.du
  obtain ⟨ys, k1, k2⟩ := W.mks
  obtain ⟨zs, a1, a2⟩ := W.an
  obtain ⟨r1, r2, r3, r4, r5, r6⟩ := W.lst xs a1 W.fa
  exact { gk := r1, ob := r2, lim := r3 _ _ W.lim, hm := r4, mo := r5, kn := by rw [r6 _ W.ka]; exact W.kn, knl := W.knl, du := ⟨ws, by rw [r6 _ W.da]; exact d1, d2.at r3⟩, mks := ⟨ys, by rw [r6 _ W.ma]; exact k1, k2.at r3⟩, an := ⟨xs, upd_same, h.keep r3 fun l ys _ _ _ n4 e => by rw [r6 _ n4]; exact e⟩
          fw := W.fw, fh := W.fh, fk := W.fk, fd := W.fd, fm := W.fm, fa := W.fa, kd := W.kd, km := W.km, ka := W.ka, dm := W.dm, da := W.da, ma := W.ma }
def termB (t1 t2 : Int) (u : Due) : Int := if u.vis then t1 else t2
/-- the falls that are left -/
def leftD (t1 t2 : Int) (u : Due) : Int := termB t1 t2 u - (u.fl.length : Int)
def spLeft : Sp := fun vs H Q _ => ∃ (a b : Addr) (t1 t2 : Int) (u : Due), vs = [.ref a, .ref b] ∧ H a = some (.tup [.int t1, .int t2]) ∧ Nk H (.ref b) (dueK u) ∧ Q (.int (leftD t1 t2 u)) H
/-- a due at a heap -/
theorem due_at {H : Hp} {x : V} {u : Due} (h : Nk H x (dueK u)) : ∃ (b c : Addr) (pv : V), x = .ref b ∧ H b = some (.tup [.str u.ow, .str u.od, .str (sortS u.vis), pv, .ref c]) ∧ Nk H pv u.pg ∧ H c = some (.tup (u.fl.map V.int)) := by
  have nums : ∀ {ws : List Int} {xs : List V}, NkAll H xs (ws.map .num) → xs = ws.map V.int := fun {ws} => by
    induction ws with
    | nil => intro xs h; cases h; rfl
    | cons w ws ih =>
      intro xs h
      cases h with
      | cons n1 hk =>
        cases n1
        rw [List.map_cons, ← ih hk]
  cases h with
  | @tup b xs _ hb hk =>
    cases hk with
    | cons n1 hk =>
      cases n1
      cases hk with
      | cons n2 hk =>
        cases n2
        cases hk with
        | cons n3 hk =>
          cases n3
          cases hk with
          | @cons pv _ _ _ n4 hk =>
            cases hk with
            | cons n5 hk =>
              cases hk
              cases n5 with
              | @tup c ys _ hc hl =>
                rw [nums hl] at hc
                exact ⟨b, c, pv, rfl, hb, n4, hc⟩
theorem due_mk {H : Hp} {b c : Addr} {pv : V} {u : Due} (hb : H b = some (.tup [.str u.ow, .str u.od, .str (sortS u.vis), pv, .ref c])) (hp : Nk H pv u.pg) (hc : H c = some (.tup (u.fl.map V.int))) : Nk H (.ref b) (dueK u) := by
  have nums : ∀ ws : List Int, NkAll H (ws.map V.int) (ws.map .num) := fun ws => by
    induction ws with
    | nil => exact .nil
    | cons w ws ih => exact .cons (.int w) ih
  exact .tup hb (.cons (.str _) (.cons (.str _) (.cons (.str _) (.cons hp (.cons (.tup hc (nums _)) .nil)))))
theorem ok_left (T : Tx K mg w) : FnOk P w K mg base CX0 1 T.f_falls_left T.d_falls_left ["terms", "due"] (spLeft) := by
  refine T.F_falls_left.ok S_falls_left (fun vs H Q E h => ?_) (fun cdv A0 outer sx H vs Q E hr h => ?_)
  · obtain ⟨a, b, t1, t2, u, rfl, _⟩ := h
    rfl
  · obtain ⟨a, b, t1, t2, u, rfl, ha, hu, q⟩ := h
    refine ⟨_, (pss_cons (ps_asg (pv 1) (pg_tup rfl (pgs_cons (pg_name (i := 2) S_falls_left.nd rfl (.inl rfl)) (pgs_cons (pg_name (i := 3) S_falls_left.nd rfl (.inl rfl)) (pgs_cons (pg_name (i := 4) S_falls_left.nd rfl (.inl rfl)) (pgs_cons (pg_name (i := 5) S_falls_left.nd rfl (.inl rfl)) (pgs_cons (pg_name (i := 6) S_falls_left.nd rfl (.inl rfl)) pgs_nil)))))))
      (pss_cons (ps_set (i := 7) S_falls_left.nd rfl (.inl rfl) (pe_ifExp (pt_cmpR op_eq (pv 4) pe_str (nomark _)) (pe_ix ix_tup (pv 0) pe_int (fun _ _ => rfl)) (pe_ix ix_tup (pv 0) pe_int (fun _ _ => rfl))))
      (pss_one (ps_ret (pe_op op_sub (pv 7) (pe_callB call_len_seq (by rfl) T.m_len PySem.boot_len (pa_cons (pv 6) pa_nil))))))), ?_⟩
    obtain ⟨b', c, pv, e, hb, hp, hc⟩ := due_at hu
    cases e
    refine ⟨_, rfl, b, _, rfl, .inl (.inl hb), rfl, _, _, rfl, _, _, rfl, _, _, rfl, _, _, rfl, _, _, rfl, rfl, ?_⟩
    have fin : Q (.int (termB t1 t2 u - ((u.fl.map V.int).length : Int))) H := by
      rw [List.length_map]
      exact q
    unfold termB at fin
    cases hv : u.vis
    · rw [hv, if_neg (by decide)] at fin
      refine ⟨_, rfl, rfl, _, rfl, iteF ?_⟩
      exact ⟨_, rfl, a, _, 1, .int t2, rfl, rfl, .inl (.inl ha), rfl, _, rfl, _, rfl, c, _, rfl, .inr (.inl (.inl hc)), _, _, rfl, rfl, fin⟩
    · rw [hv, if_pos rfl] at fin
      refine ⟨_, rfl, rfl, _, rfl, iteT ?_⟩
      exact ⟨_, rfl, a, _, 0, .int t1, rfl, rfl, .inl (.inl ha), rfl, _, rfl, _, rfl, c, _, rfl, .inr (.inl (.inl hc)), _, _, rfl, rfl, fin⟩
def spRude : Sp := fun vs H Q _ => ∃ (a b : Addr) (t1 t2 : Int) (u : Due), vs = [.ref a, .ref b] ∧ H a = some (.tup [.int t1, .int t2]) ∧ Nk H (.ref b) (dueK u) ∧ Q (.bl (decide (leftD t1 t2 u = 0))) H
theorem ok_rude (T : Tx K mg w) : FnOk P w K mg base CX0 2 T.f_is_rude T.d_is_rude ["terms", "due"] (spRude) := by
  have G_falls_left : FnOk P w K mg base CX0 1 T.f_falls_left T.d_falls_left ["terms", "due"] (spLeft) := ok_left T
  refine T.F_is_rude.ok S_is_rude (fun vs H Q E h => ?_) (fun cdv A0 outer sx H vs Q E hr h => ?_)
  · obtain ⟨a, b, t1, t2, u, rfl, _⟩ := h
    rfl
  · obtain ⟨a, b, t1, t2, u, rfl, ha, hu, q⟩ := h
    refine ⟨_, (pss_one (ps_ret (pe_cmpR op_eq (pe_call G_falls_left hr (by rfl) T.g_falls_left T.F_falls_left.kp T.b_falls_left .nil pass0 (pa_cons (pv 0) (pa_cons (pv 1) pa_nil))) pe_int (nomark _)))), ?_⟩
    exact ⟨_, rfl, _, rfl, a, b, t1, t2, u, rfl, ha, hu, rfl, by
      show Q (.bl (decide (V.int (leftD t1 t2 u) = V.int 0))) H
      rw [show decide (V.int (leftD t1 t2 u) = V.int 0) = decide (leftD t1 t2 u = 0) by simp]
      exact q⟩
/-- whether a due falls on a day -/
def fallsB (t1 t2 : Int) (s : WS) (u : Due) (d : Int) : Bool := !(decide (leftD t1 t2 u = 0) || decide (dayK u.pg ≥ d)) && (!dayB s.L u.ow d && !dayB s.L u.od d)
def spFalls (T : Tx K mg w) : Sp := fun vs H Q _ => ∃ (t1 t2 : Int) (H0 : Hp) (A : WA) (s : WS) (n : Nat) (b : Addr) (u : Due) (d : Int), vs = [.ref A.wa, .ref b, .int d] ∧ WkAt T t1 t2 H0 H A s n ∧ Nk H (.ref b) (dueK u) ∧ PgK u.pg ∧ ∀ H', Same H H' → Q (.bl (fallsB t1 t2 s u d)) H'
theorem ok_falls (T : Tx K mg w) : FnOk P w K mg base CX0 3 T.f_Walk_falls_on T.d_Walk_falls_on ["self", "due", "day"] (spFalls T) := by
  have G_is_rude : FnOk P w K mg base CX0 2 T.f_is_rude T.d_is_rude ["terms", "due"] (spRude) := ok_rude T
  have G_page_day : FnOk P w K mg base CX0 1 T.f_page_day T.d_page_day ["page"] ((spAt 1)) := ok_page_day T
  have G_Walk_mourns_on : FnOk P w K mg base CX0 2 T.f_Walk_mourns_on T.d_Walk_mourns_on ["self", "name", "day"] (spMn T) := ok_mn T
  refine T.F_Walk_falls_on.ok S_Walk_falls_on (fun vs H Q E h => ?_) (fun cdv A0 outer sx H vs Q E hr h => ?_)
  · obtain ⟨t1, t2, H0, A, s, n, b, u, d, rfl, _⟩ := h
    rfl
  · obtain ⟨t1, t2, H0, A, s, n, b, u, d, rfl, W, hu, hp, q⟩ := h
    refine ⟨_, (pss_cons (ps_if (PW.pt (pw_or (pt_val (pe_call G_is_rude hr (by rfl) T.g_is_rude T.F_is_rude.kp T.b_is_rude .nil pass0 (pa_cons (pe_fld (pv 0) rfl) (pa_cons (pv 1) pa_nil)))) (pw_or1 (pt_cmpR op_ge (pe_call G_page_day (hr.mono (by decide)) (by rfl) T.g_page_day T.F_page_day.kp T.b_page_day .nil pass0 (pa_cons (pe_ix ix_tup (pv 1) pe_int (fun _ _ => rfl)) pa_nil)) (pv 2) (nomark _))))) (pss_one (ps_ret pe_bl)) pss_nil)
      (pss_one (ps_ret (pe_and (pe_not (pe_meth (pv 0) T.cl_Walk T.me_Walk_mourns_on G_Walk_mourns_on hr T.b_Walk_mourns_on .nil pass0 (pa_cons (pe_ix ix_tup (pv 1) pe_int (fun _ _ => rfl)) (pa_cons (pv 2) pa_nil)))) (pe_one (pe_not (pe_meth (pv 0) T.cl_Walk T.me_Walk_mourns_on G_Walk_mourns_on hr T.b_Walk_mourns_on .nil pass0 (pa_cons (pe_ix ix_tup (pv 1) pe_int (fun _ _ => rfl)) (pa_cons (pv 2) pa_nil))))))))), ?_⟩
    obtain ⟨b', c, pv, e, hb, np, hc⟩ := due_at hu
    cases e
    obtain ⟨pa, ys, rfl, hpa, ed⟩ := day_at np hp
    have fin : ∀ H', Same H H' → Q (.bl (fallsB t1 t2 s u d)) H' := q
    unfold fallsB at fin
    refine ⟨_, rfl, A.wa, _, _, _, _, rfl, W.ob, T.cl_Walk, T.na_Walk_limits, rfl, _, rfl, A.lim, b, t1, t2, u, rfl, W.lim, hu, _, rfl, ite2 (fun e => ?_) (fun e => ?_)⟩
    · have := fin H (fun _ _ e => e)
      rw [e] at this
      exact iteT this
    rw [Bool.eq_false_iff.mpr e] at fin
    refine ⟨_, rfl, b, _, 3, _, rfl, rfl, .inl (.inl hb), rfl, pa, ys, _, rfl, hpa, ed, _, rfl, _, _, rfl, rfl, _, rfl, ite2 (fun e2 => ?_) (fun e2 => ?_)⟩
    · have := fin H (fun _ _ e => e)
      rw [show decide (dayK u.pg ≥ d) = true from e2] at this
      exact this
    rw [show decide (dayK u.pg ≥ d) = false from Bool.eq_false_iff.mpr e2] at fin
    refine ⟨_, rfl, A.wa, _, _, rfl, W.ob, rfl, _, rfl, b, _, 0, .str u.ow, rfl, rfl, .inl (.inl hb), rfl, _, rfl, t1, t2, H0, A, s, n, u.ow, d, rfl, W, fun H1 m => ⟨_, rfl, _, rfl, ite2 (fun e3 => ?_) (fun e3 => ?_)⟩⟩
    · rw [e3] at fin
      have W1 := W.same m
      exact ⟨_, rfl, A.wa, _, _, rfl, W1.ob, rfl, _, rfl, b, _, 1, .str u.od, rfl, rfl, .inl (.inl (m _ _ hb)), rfl, _, rfl, t1, t2, H0, A, s, n, u.od, d, rfl, W1, fun H2 m2 => ⟨_, rfl, fin _ (m.trans m2)⟩⟩
    · rw [Bool.eq_false_iff.mpr e3] at fin
      exact fin _ m
def spEnd (T : Tx K mg w) : Sp := fun vs H Q _ => ∃ (t1 t2 : Int) (H0 : Hp) (A : WA) (s : WS) (n : Nat) (d : Int), vs = [.ref A.wa, .int d] ∧ WkAt T t1 t2 H0 H A s n ∧ (∀ u ∈ s.ds, PgK u.pg) ∧ s.ds.length ≤ 60000 ∧ (∀ u ∈ s.ds, u.fl.length ≤ 500) ∧ 0 ≤ d ∧ d < 20000 ∧
  ∀ du' H', WkAt T t1 t2 H0 H' { A with du := du' } { s with ds := s.ds.map fun u => if fallsB t1 t2 s u d then { u with fl := u.fl ++ [d] } else u } n → Tups H H' → Q .non H'
theorem ok_end (T : Tx K mg w) : FnOk P w K mg base CX0 4 T.f_Walk_end_day T.d_Walk_end_day ["self", "day"] (spEnd T) := by
  have G_Walk_falls_on : FnOk P w K mg base CX0 3 T.f_Walk_falls_on T.d_Walk_falls_on ["self", "due", "day"] (spFalls T) := ok_falls T
  refine T.F_Walk_end_day.ok S_Walk_end_day (fun vs H Q E h => ?_) (fun cdv A0 outer sx H vs Q E hr h => ?_)
  · obtain ⟨t1, t2, H0, A, s, n, d, rfl, _⟩ := h
    rfl
  · obtain ⟨t1, t2, H0, A, s, n, d, rfl, W, pk, l1, l2, d0, d1, q⟩ := h
    refine ⟨_, (pss_one (ps_fld (pv 0) (pe_lc (own := [("due", 2)]) (g := gName 2) (tt := tYes) (by rfl) S_Walk_end_day.nd (pi_list (pe_fld (pv 0) rfl)) (blkOk_by (own := [("due", 2)]) (N := N_Walk_end_day) (sc := defScope s_Walk_end_day) (by decide +kernel)) (fun _ _ _ _ _ => (pg_name (i := 2) S_Walk_end_day.nd rfl (.inl rfl))) (fun _ _ _ _ _ => pts_nil) (fun _ _ _ _ _ => (pe_ifExp (pt_val (pe_meth (pv 0) T.cl_Walk T.me_Walk_falls_on G_Walk_falls_on hr T.b_Walk_falls_on .nil pass0 (pa_cons (pv 2) (pa_cons (pv 1) pa_nil)))) (pe_op (r := rCatA K) op_catA (pe_slice (r := rSlA K) sl_tupA (pv 2) po_none (po_some pe_int)) (pe_tup (pa_cons (pe_op (r := rCatA K) op_catA (pe_ix (r := rIxT K) ix_tup (pv 2) pe_int (fun _ _ => rfl)) (pe_tup (pa_cons (pv 1) pa_nil))) pa_nil))) (pv 2)))) rfl)), ?_⟩
    obtain ⟨us, u1, u2⟩ := W.du
    refine ⟨_, rfl, A.wa, _, _, _, _, rfl, W.ob, T.cl_Walk, T.na_Walk_dues, rfl, A.du, rfl, ⟨_, .inl (.inl u1)⟩, fun D nD => ?_⟩
    have lu : us.length = s.ds.length := by rw [u2.length, List.length_map]
    obtain ⟨f, ef⟩ : ∃ f : Due → Due, f = fun u => if fallsB t1 t2 s u d then { u with fl := u.fl ++ [d] } else u := ⟨_, rfl⟩
    rw [← ef] at q
    refine lc_list (xs := us) (fun i Hx => ∃ acc, Same H Hx ∧ Hx D = some (.lst acc) ∧ NkAll Hx acc (((s.ds.take i).map f).map dueK) ∧ acc.length ≤ i) ⟨[], same_upd nD, upd_same, .nil, Nat.le_refl _⟩ (fun i Hx hi ⟨_, m, _⟩ => .inl (.inl (m _ _ u1))) ?_ ?_
    · rintro i x Hx hi ⟨acc, m, hD, nk, la⟩
      obtain ⟨kk, hk, nx⟩ := u2.get hi
      rw [List.getElem?_map] at hk
      obtain ⟨u, hu, rfl⟩ := Option.map_eq_some_iff.mp hk
      have nx := nx.at (.same m)
      obtain ⟨b, c, pv, rfl, hb, np, hc⟩ := due_at nx
      have Wx := W.same m
      have um : u ∈ s.ds := List.mem_of_getElem? hu
      have lt : i < us.length := (List.getElem?_eq_some_iff.mp hi).1
      have fin : ∀ (y : V) (H4 : Hp), Same Hx H4 → Nk H4 y (dueK (f u)) → ∃ acc, H4 D = some (.lst acc) ∧ acc.length < sizeLine ∧ (∃ acc', Same H (upd H4 D (.lst (acc ++ [y]))) ∧ upd H4 D (.lst (acc ++ [y])) D = some (.lst acc') ∧ NkAll (upd H4 D (.lst (acc ++ [y]))) acc' (((s.ds.take (i + 1)).map f).map dueK) ∧ acc'.length ≤ i + 1) := fun y H4 m4 ny => by
        have tp : Tups H4 (upd H4 D (.lst (acc ++ [y]))) := fun c xs e => by rw [upd_ne (fun z => by rw [z, m4 _ _ hD] at e; cases e)]; exact e
        refine ⟨acc, m4 _ _ hD, smallL (by omega), acc ++ [y], same_fresh nD (m.trans m4), upd_same, ?_, by rw [List.length_append]; exact Nat.succ_le_succ la⟩
        rw [List.take_add_one, hu, List.map_append, List.map_append]
        exact (nk.at ((Tups.same m4).trans tp)).app (.cons (ny.at tp) .nil)
      refine ⟨rfl, _, rfl, A.wa, _, _, rfl, Wx.ob, rfl, _, rfl, _, rfl, t1, t2, H0, A, s, n, b, u, d, rfl, Wx, nx, pk u um, fun H4 m4 => ⟨_, rfl, ite2 (fun e => ?_) (fun e => ?_)⟩⟩
      · have hb4 := m4 _ _ hb
        have ef2 : f u = { u with fl := u.fl ++ [d] } := by rw [ef]; exact if_pos e
        refine ⟨_, rfl, np_in ⟨4, rfl, sl_in hb4 fun c1 H5 s5 h5 => ?_⟩⟩
        refine ⟨_, rfl, b, _, 4, .ref c, rfl, rfl, .inl (.inl (s5 _ _ hb4)), rfl, ?_⟩
        refine ⟨_, rfl, sz (by show 1 ≤ 1000; decide), fun p np1 => ?_⟩
        have s6 := same_upd (o := .tup [.int d]) np1
        have hp6 := upd_same (H := H5) (a := p) (o := .tup [.int d])
        generalize upd H5 p (.tup [.int d]) = H6 at s6 hp6 ⊢
        refine cat_in (s6 _ _ (s5 _ _ (m4 _ _ hc))) hp6 (by rw [List.length_map]; have := l2 u um; show _ + 1 ≤ 1000; omega) fun r1 H7 s7 h7 => ?_
        refine ⟨sz (by show 1 ≤ 1000; decide), fun p2 np2 => ?_⟩
        have s8 := same_upd (o := .tup [.ref r1]) np2
        have hp8 := upd_same (H := H7) (a := p2) (o := .tup [.ref r1])
        generalize upd H7 p2 (.tup [.ref r1]) = H8 at s8 hp8 ⊢
        refine cat_in (s8 _ _ (s7 _ _ (s6 _ _ h5))) hp8 (by show 4 + 1 ≤ 1000; decide) fun r2 H9 s9 h9 => ?_
        refine fin _ _ (m4.trans (s5.trans (s6.trans (s7.trans (s8.trans s9))))) ?_
        rw [ef2]
        refine due_mk (c := r1) (pv := pv) h9 (np.at (.same (m4.trans (s5.trans (s6.trans (s7.trans (s8.trans s9))))))) ?_
        rw [show (({ u with fl := u.fl ++ [d] } : Due).fl).map V.int = u.fl.map V.int ++ [.int d] by simp]
        exact s9 _ _ (s8 _ _ h7)
      · have ef2 : f u = u := by rw [ef]; exact if_neg e
        exact ⟨_, rfl, fin _ _ m4 (by rw [ef2]; exact nx.at (.same m4))⟩
    · rintro Hx ⟨acc, m, hD, nk, la⟩
      have Wx := W.same m
      rw [List.take_of_length_le (by rw [lu]; exact Nat.le_refl _)] at nk
      refine ⟨_, rfl, A.wa, _, _, _, rfl, Wx.ob, T.cl_Walk, T.na_Walk_dues, (by show 10 < 1000; decide), ?_⟩
      have hf : putF "dues" (V.ref D) (fldsW A s) = fldsW { A with du := D } { s with ds := s.ds.map f, cp := s.cp, sk := s.sk, sp := s.sp } := rfl
      rw [hf]
      obtain ⟨ys, k1, _⟩ := W.mks
      obtain ⟨zs, a1, _⟩ := W.an
      refine q D _ (W.putDu m nD (s.ds.map f) s.cp s.sk s.sp hD nk) ((Tups.same m).trans Wx.tupne)
end
end L20

set_option Elab.async false
set_option linter.all false
set_option maxRecDepth 100000
set_option maxHeartbeats 4000000
/-! Things of any kind: None, truths, numbers, texts, lists, tuples, dicts of none, nested. t is the feed's own list: no thing is it. -/
namespace My
open PySem PySem.Spec PyProof.Rows L2
mutual
inductive Dq (fz : Bool) (t : Addr) (H : Hp) : V → PyData → Prop
  | non : Dq fz t H .non .none
  | bl (b : Bool) : Dq fz t H (.bl b) (.bool b)
  | int (i : Int) : Dq fz t H (.int i) (.int i)
  | str (x : Str) : Dq fz t H (.str x) (.str x)
  | lst {a : Addr} {xs : List V} {ds : List PyData} : a ≠ t → H a = some (.lst xs) → DqAll fz t H xs ds → Dq fz t H (.ref a) (.list ds)
  | tup {a : Addr} {xs : List V} {ds : List PyData} : a ≠ t → H a = some (.tup xs) → DqAll fz t H xs ds → Dq fz t H (.ref a) (.tuple ds)
  | frz {a : Addr} {o : Obj} {xs : List V} {ds : List PyData} : fz = true → a ≠ t → H a = some (.frz o (.tup xs)) → DqAll fz t H xs ds → Dq fz t H (.ref a) (.tuple ds)
  | dct {a : Addr} : a ≠ t → H a = some (.dK []) → Dq fz t H (.ref a) (.dict [])
inductive DqAll (fz : Bool) (t : Addr) (H : Hp) : List V → List PyData → Prop
  | nil : DqAll fz t H [] []
  | cons {v : V} {vs : List V} {d : PyData} {ds : List PyData} : Dq fz t H v d → DqAll fz t H vs ds → DqAll fz t H (v :: vs) (d :: ds)
end
section
variable {fz : Bool} {t : Addr} {H H' : Hp}
mutual
theorem Dq.keep (k : ∀ b o, b ≠ t → (∀ ps, o ≠ .tbl ps) → H b = some o → H' b = some o) : ∀ {d : PyData} {v : V}, Dq fz t H v d → Dq fz t H' v d
  | .none, _, .non => .non
  | .bool _, _, .bl b => .bl b
  | .int _, _, .int i => .int i
  | .str _, _, .str x => .str x
  | .list _, _, .lst n e h => .lst n (k _ _ n (fun ps z => by cases z) e) (DqAll.keep k h)
  | .tuple _, _, .tup n e h => .tup n (k _ _ n (fun ps z => by cases z) e) (DqAll.keep k h)
  | .tuple _, _, .frz fn n e h => .frz fn n (k _ _ n (fun ps z => by cases z) e) (DqAll.keep k h)
  | .dict _, _, .dct n e => .dct n (k _ _ n (fun ps z => by cases z) e)
theorem DqAll.keep (k : ∀ b o, b ≠ t → (∀ ps, o ≠ .tbl ps) → H b = some o → H' b = some o) : ∀ {ds : List PyData} {vs : List V}, DqAll fz t H vs ds → DqAll fz t H' vs ds
  | [], _, .nil => .nil
  | _ :: _, _, .cons a h => .cons (Dq.keep k a) (DqAll.keep k h)
end
theorem Dq.same {v : V} {d : PyData} (h : Dq fz t H v d) (s : Same H H') : Dq fz t H' v d := h.keep fun b o _ _ e => s b o e
theorem Dq.kp {v : V} {d : PyData} (h : Dq fz t H v d) (s : Kp t H H') : Dq fz t H' v d := h.keep fun b o n _ e => s b o n e
theorem DqAll.same {vs : List V} {ds : List PyData} (h : DqAll fz t H vs ds) (s : Same H H') : DqAll fz t H' vs ds := h.keep fun b o _ _ e => s b o e
theorem DqAll.kp {vs : List V} {ds : List PyData} (h : DqAll fz t H vs ds) (s : Kp t H H') : DqAll fz t H' vs ds := h.keep fun b o n _ e => s b o n e
theorem DqAll.length : ∀ {ds : List PyData} {vs : List V}, DqAll fz t H vs ds → vs.length = ds.length
  | [], _, .nil => rfl
  | _ :: _, _, .cons _ h => congrArg Nat.succ (DqAll.length h)
theorem DqAll.get : ∀ {ds : List PyData} {vs : List V} {i : Nat} {v : V}, DqAll fz t H vs ds → vs[i]? = some v → ∃ d, ds[i]? = some d ∧ Dq fz t H v d
  | [], _, _, _, h, e => by cases h; cases e
  | _ :: _, _, 0, _, .cons a _, e => by cases e; exact ⟨_, rfl, a⟩
  | _ :: _, _, i + 1, _, .cons _ h, e => DqAll.get (i := i) h e
theorem DqAll.app : ∀ {ds es : List PyData} {vs us : List V}, DqAll fz t H vs ds → DqAll fz t H us es → DqAll fz t H (vs ++ us) (ds ++ es)
  | [], _, _, _, .nil, k => k
  | _ :: _, _, _, _, .cons a h, k => .cons a (h.app k)
theorem DqAll.drop : ∀ {ds : List PyData} {vs : List V}, DqAll fz t H vs ds → ∀ i : Nat, DqAll fz t H (vs.drop i) (ds.drop i)
  | _, _, h, 0 => h
  | _, _, .nil, _ + 1 => .nil
  | _, _, .cons _ h, i + 1 => DqAll.drop h i
theorem DqAll.take : ∀ {ds : List PyData} {vs : List V}, DqAll fz t H vs ds → ∀ i : Nat, DqAll fz t H (vs.take i) (ds.take i)
  | _, _, _, 0 => by rw [List.take_zero, List.take_zero]; exact .nil
  | _, _, .nil, _ + 1 => .nil
  | _, _, .cons a h, i + 1 => .cons a (DqAll.take h i)
theorem DqAll.rev : ∀ {ds : List PyData} {vs : List V}, DqAll fz t H vs ds → DqAll fz t H vs.reverse ds.reverse
  | _, _, .nil => .nil
  | _, _, .cons a h => by
    rw [List.reverse_cons, List.reverse_cons]
    exact (DqAll.rev h).app (.cons a .nil)
theorem dq_texts : ∀ zs : List Str, DqAll fz t H (zs.map V.str) (zs.map PyData.str)
  | [] => .nil
  | _ :: zs => .cons (.str _) (dq_texts zs)
theorem DqAll.mem {v : V} : ∀ {ds : List PyData} {vs : List V}, DqAll fz t H vs ds → v ∈ vs → ∃ d ∈ ds, Dq fz t H v d
  | [], _, h, m => by cases h; cases m
  | _ :: _, _, .cons a h, m => by
    rcases List.mem_cons.mp m with rfl | m
    · exact ⟨_, .head _, a⟩
    · obtain ⟨d, hd, q⟩ := DqAll.mem h m
      exact ⟨d, .tail _ hd, q⟩
theorem DqAll.of {vs : List V} (h : ∀ v ∈ vs, ∃ d, Dq fz t H v d) : ∃ ds, DqAll fz t H vs ds := by
  induction vs with
  | nil => exact ⟨[], .nil⟩
  | cons v vs ih =>
    obtain ⟨ds, q⟩ := ih fun u hu => h u (.tail _ hu)
    obtain ⟨d, p⟩ := h v (.head _)
    exact ⟨d :: ds, .cons p q⟩
end
/-! ### repr -/
section
variable {X : Cx} {pins : List (Addr × Obj)} {σ : L2.St} {H : Hp} {s : Shared} {fz : Bool} {t : Addr}
/-- the heap's own objects behind a thing's address -/
theorem dq_list {a : Addr} {xs : List V} (I : Inv X pins σ H s) (e : H a = some (.lst xs)) : ∃ (o : Obj) (us : List Value) (n : Nat), s.heap.get? a = some o ∧ o.cls = .type "list" ∧ o.data = .seq us.toArray n ∧ Vals xs us := by
  obtain ⟨us, rv, ⟨o, n, ho, hc, _, hd⟩, _⟩ := I.list (.inl (.inl e))
  exact ⟨o, us, n, ho, hc, hd, rv⟩
theorem dq_tuple {a : Addr} {xs : List V} (I : Inv X pins σ H s) (e : SqT X.K H a xs) : ∃ (o : Obj) (us : List Value) (n : Nat), s.heap.get? a = some o ∧ o.cls = .type "tuple" ∧ o.data = .seq us.toArray n ∧ Vals xs us := by
  obtain ⟨us, rv, ⟨o, ho, hc, n, hd⟩, _⟩ := I.tuple e
  exact ⟨o, us, n, ho, hc, hd, rv⟩
theorem dq_dict {a : Addr} (I : Inv X pins σ H s) (e : H a = some (.dK [])) : ∃ (o : Obj) (n : Nat), s.heap.get? a = some o ∧ o.cls = .type "dict" ∧ o.data = .dict #[] n ∧ (a == sysModules) = false := by
  obtain ⟨_, ns, vs, kv, o, es, n, ho, hx, hd, _, pr, _⟩ := (show ObjOk X.prog X.w H s.heap a (.dK []) from I.hok a _ e)
  have ve : vs = [] := by
    cases kv
    rfl
  subst ve
  have ee : es.toList = [] := by
    cases h : es.toList with
    | nil => rfl
    | cons x l => rw [h] at pr; cases pr
  obtain ⟨es⟩ := es
  have ee : es = [] := ee
  subst ee
  exact ⟨o, n, ho, hx.1, hd, ns⟩
mutual
theorem dq_reads (I : Inv X pins σ H s) : ∀ {d : PyData} {v : V} {u : Value}, Dq fz t H v d → RelV v u → ∃ as, Reads s.heap u d as
  | .none, _, _, .non, r => by cases r; exact ⟨_, .none⟩
  | .bool b, _, _, .bl _, r => by cases r; exact ⟨_, .bool b⟩
  | .int i, _, _, .int _, r => by obtain ⟨k, rfl⟩ := r; exact ⟨_, .int i k⟩
  | .str x, _, _, .str _, r => by obtain ⟨k, rfl⟩ := r; exact ⟨_, .str x k⟩
  | .list ds, _, _, .lst _ e h, r => by
    cases r
    obtain ⟨o, us, n, h1, h2, h3, rv⟩ := dq_list I e
    obtain ⟨as, q⟩ := dq_readsAll I h rv
    exact ⟨_, .list h1 h2 h3 q⟩
  | .tuple ds, _, _, .tup _ e h, r => by
    cases r
    obtain ⟨o, us, n, h1, h2, h3, rv⟩ := dq_tuple I (.inl (.inl e))
    obtain ⟨as, q⟩ := dq_readsAll I h rv
    exact ⟨_, .tuple h1 h2 h3 q⟩
  | .tuple ds, _, _, .frz fn _ e h, r => by
    cases r
    obtain ⟨o, us, n, h1, h2, h3, rv⟩ := dq_tuple I (.inl (.inr ⟨_, e⟩))
    obtain ⟨as, q⟩ := dq_readsAll I h rv
    exact ⟨_, .tuple h1 h2 h3 q⟩
  | .dict _, _, _, .dct _ e, r => by
    cases r
    obtain ⟨o, n, h1, h2, h3, _⟩ := dq_dict I e
    exact ⟨_, .dict (as := []) (bs := []) h1 h2 h3 .nil .nil⟩
theorem dq_readsAll (I : Inv X pins σ H s) : ∀ {ds : List PyData} {vs : List V} {us : List Value}, DqAll fz t H vs ds → Vals vs us → ∃ as, ReadsAll s.heap us ds as
  | [], _, _, .nil, .nil => ⟨_, .nil⟩
  | _ :: _, _, _, .cons a h, .cons r1 r2 => by
    obtain ⟨as, q1⟩ := dq_reads I a r1
    obtain ⟨bs, q2⟩ := dq_readsAll I h r2
    exact ⟨_, .cons q1 q2⟩
end
mutual
/-- how a thing is shown within another one -/
theorem dq_shows (I : Inv X pins σ H s) : ∀ {d : PyData} {v : V} {u : Value}, Dq fz t H v d → RelV v u → d.showable = true → d.shown.length ≤ sizeLine → ∃ bs, ReadAtMost s.heap d.depth bs ∧ ReprK X.prog X.w bs s.heap d.depth u d.shown
  | .none, _, _, .non, r, _, _ => by cases r; exact ⟨[], (fun _ h => nomatch h), by simp only [PyData.shown]; exact .of_is ReprIs.none _ _ _⟩
  | .bool b, _, _, .bl _, r, _, _ => by cases r; exact ⟨[], (fun _ h => nomatch h), by simp only [PyData.shown]; exact .of_is (ReprIs.bool b) _ _ _⟩
  | .int i, _, _, .int _, r, hs, _ => by obtain ⟨k, rfl⟩ := r; exact ⟨[], (fun _ h => nomatch h), by simp only [PyData.shown]; exact .of_is (ReprIs.int k (by simpa [PyData.showable] using hs)) _ _ _⟩
  | .str x, _, _, .str _, r, _, hz => by obtain ⟨k, rfl⟩ := r; exact ⟨[], (fun _ h => nomatch h), by simp only [PyData.shown]; exact .of_is (ReprIs.str x k (by simpa only [PyData.shown] using hz)) _ _ _⟩
  | .list ds, _, _, .lst n e h, r, hs, hz => by
    cases r
    obtain ⟨as, rd⟩ := dq_reads (u := .ref _) I (Dq.lst n e h) rfl
    obtain ⟨o, us, m, h1, h2, h3, rv⟩ := dq_list I e
    have room : ∀ x ∈ PyData.shownAll ds, x.length ≤ sizeLine := fun x hx => Nat.le_trans (listText_mem_le hx) (by simpa only [PyData.shown] using hz)
    obtain ⟨bs, b1, b2⟩ := dq_showsAll I h rv (by simpa [PyData.showable] using hs) room
    have lt : PyData.depthAll ds < (PyData.list ds).depth := by simp only [PyData.depth]; omega
    refine ⟨_, ReadAtMost.cons rd (Nat.le_of_lt lt) b1, ?_⟩
    have out := not_mem_of_deeper rd lt b1
    simp only [PyData.depth, PyData.shown]
    cases us with
    | nil =>
      cases rv
      cases h
      simp only [PyData.shownAll, listText_nil]
      exact ReprK.listEmpty h1 h2 h3
    | cons x l => exact ReprK.list h1 h2 h3 out (by simpa using b2.length_eq) fun i y q => b2.item i y (by simpa using q)
  | .tuple ds, _, _, .tup n e h, r, hs, hz => by
    cases r
    obtain ⟨as, rd⟩ := dq_reads (u := .ref _) I (Dq.tup n e h) rfl
    obtain ⟨o, us, m, h1, h2, h3, rv⟩ := dq_tuple I (.inl (.inl e))
    have room : ∀ x ∈ PyData.shownAll ds, x.length ≤ sizeLine := fun x hx => Nat.le_trans (tupleText_mem_le hx) (by simpa only [PyData.shown] using hz)
    obtain ⟨bs, b1, b2⟩ := dq_showsAll I h rv (by simpa [PyData.showable] using hs) room
    have lt : PyData.depthAll ds < (PyData.tuple ds).depth := by simp only [PyData.depth]; omega
    refine ⟨_, ReadAtMost.cons rd (Nat.le_of_lt lt) b1, ?_⟩
    simp only [PyData.depth, PyData.shown]
    exact ReprK.tuple h1 h2 h3 (not_mem_of_deeper rd lt b1) b2
  | .tuple ds, _, _, .frz fn n e h, r, hs, hz => by
    cases r
    obtain ⟨as, rd⟩ := dq_reads (u := .ref _) I (Dq.frz fn n e h) rfl
    obtain ⟨o, us, m, h1, h2, h3, rv⟩ := dq_tuple I (.inl (.inr ⟨_, e⟩))
    have room : ∀ x ∈ PyData.shownAll ds, x.length ≤ sizeLine := fun x hx => Nat.le_trans (tupleText_mem_le hx) (by simpa only [PyData.shown] using hz)
    obtain ⟨bs, b1, b2⟩ := dq_showsAll I h rv (by simpa [PyData.showable] using hs) room
    have lt : PyData.depthAll ds < (PyData.tuple ds).depth := by simp only [PyData.depth]; omega
    refine ⟨_, ReadAtMost.cons rd (Nat.le_of_lt lt) b1, ?_⟩
    simp only [PyData.depth, PyData.shown]
    exact ReprK.tuple h1 h2 h3 (not_mem_of_deeper rd lt b1) b2
  | .dict _, _, _, .dct n e, r, hs, hz => by
    cases r
    obtain ⟨as, rd⟩ := dq_reads (u := .ref _) I (Dq.dct (fz := fz) n e) rfl
    obtain ⟨o, m, h1, h2, h3, h4⟩ := dq_dict I e
    refine ⟨[_], ReadAtMost.cons (n := 0) rd (Nat.zero_le _) (fun _ h => nomatch h), ?_⟩
    have k := ReprK.dict (prog := X.prog) (w := X.w) (as := []) (d := PyData.depthKv []) (ps := []) h1 h2 h3 h4 (fun z => nomatch z) .nil
    simp only [PyData.depth, PyData.shown, PyData.shownKv]
    exact k
theorem dq_showsAll (I : Inv X pins σ H s) : ∀ {ds : List PyData} {vs : List V} {us : List Value}, DqAll fz t H vs ds → Vals vs us → PyData.showableAll ds = true → (∀ x ∈ PyData.shownAll ds, x.length ≤ sizeLine) → ∃ bs, ReadAtMost s.heap (PyData.depthAll ds) bs ∧ ReprAllK X.prog X.w bs s.heap (PyData.depthAll ds) us (PyData.shownAll ds)
  | [], _, _, .nil, .nil, _, _ => ⟨[], (fun _ h => nomatch h), by simp only [PyData.shownAll]; exact .nil⟩
  | d :: ds, _, _, .cons a h, .cons r1 r2, hs, hz => by
    have hs : d.showable = true ∧ PyData.showableAll ds = true := by simpa [PyData.showableAll] using hs
    obtain ⟨b1, m1, k1⟩ := dq_shows I a r1 hs.1 (hz _ (by simp only [PyData.shownAll]; exact .head _))
    obtain ⟨b2, m2, k2⟩ := dq_showsAll I h r2 hs.2 fun x hx => hz x (by simp only [PyData.shownAll]; exact .tail _ hx)
    have l1 : d.depth ≤ PyData.depthAll (d :: ds) := by simp only [PyData.depthAll]; exact Nat.le_max_left _ _
    have l2 : PyData.depthAll ds ≤ PyData.depthAll (d :: ds) := by simp only [PyData.depthAll]; exact Nat.le_max_right _ _
    refine ⟨b1 ++ b2, (m1.mono l1).append (m2.mono l2), ?_⟩
    simp only [PyData.shownAll]
    exact .cons ((k1.more fun b hb => List.mem_append_left _ hb).level_le l1) (k2.more_le (fun b hb => List.mem_append_right _ hb) l2)
end
end
end My

set_option Elab.async false
set_option linter.all false
set_option maxRecDepth 100000
set_option maxHeartbeats 4000000
/-! repr of things of any kind; what kind a thing is of. -/
namespace My
open PySem PySem.Spec PyProof.Rows L2
mutual
def ShQ : PyData → Prop
  | .none => True
  | .bool _ => True
  | .int i => i.natAbs.log2 < 1920
  | .str x => ∀ c ∈ x.cps.toList, c < 16 ^ 8
  | .list xs => ShQs xs
  | .tuple xs => ShQs xs
  | .dict xs => xs = []
def ShQs : List PyData → Prop
  | [] => True
  | x :: xs => ShQ x ∧ ShQs xs
end
mutual
def wt : PyData → Nat
  | .none => 4
  | .bool _ => 5
  | .int _ => 1921
  | .str x => 10 * x.length + 4
  | .list xs => wts xs + 3
  | .tuple xs => wts xs + 3
  | .dict _ => 2
def wts : List PyData → Nat
  | [] => 0
  | x :: xs => wt x + 2 + wts xs
end
theorem shqs_mem : ∀ {ds : List PyData}, ShQs ds ↔ ∀ d ∈ ds, ShQ d
  | [] => ⟨fun _ d h => (by cases h), fun _ => trivial⟩
  | x :: xs => by
    rw [ShQs, shqs_mem (ds := xs)]
    exact ⟨fun h d hd => (List.mem_cons.mp hd).elim (fun e => by rw [e]; exact h.1) (h.2 d), fun h => ⟨h x (.head _), fun d hd => h d (.tail _ hd)⟩⟩
theorem wts_app : ∀ {ds es : List PyData}, wts (ds ++ es) = wts ds + wts es
  | [], _ => by rw [List.nil_append, wts]; omega
  | x :: xs, es => by
    rw [List.cons_append, wts, wts, wts_app (ds := xs)]
    omega
theorem wts_drop : ∀ {ds : List PyData} (i : Nat), wts (ds.drop i) ≤ wts ds
  | _, 0 => Nat.le_refl _
  | [], _ + 1 => by rw [List.drop_nil]; exact Nat.le_refl _
  | x :: xs, i + 1 => by
    rw [List.drop_succ_cons, wts]
    have := wts_drop (ds := xs) i
    omega
theorem wts_take : ∀ {ds : List PyData} (i : Nat), wts (ds.take i) ≤ wts ds
  | _, 0 => by rw [List.take_zero, wts]; exact Nat.zero_le _
  | [], _ + 1 => by rw [List.take_nil]; exact Nat.le_refl _
  | x :: xs, i + 1 => by
    rw [List.take_succ_cons, wts, wts]
    have := wts_take (ds := xs) i
    omega
theorem wts_mem {d : PyData} : ∀ {ds : List PyData}, d ∈ ds → wt d + 2 ≤ wts ds
  | x :: xs, h => by
    rw [wts]
    rcases List.mem_cons.mp h with rfl | h
    · omega
    · have := wts_mem h
      omega
theorem wts_len : ∀ {ds : List PyData}, ds.length ≤ wts ds
  | [] => Nat.zero_le _
  | x :: xs => by
    have := wts_len (ds := xs)
    rw [wts, List.length_cons]
    omega
theorem depths_mem {d : PyData} : ∀ {ds : List PyData}, d ∈ ds → d.depth ≤ PyData.depthAll ds
  | x :: xs, h => by
    rw [PyData.depthAll]
    rcases List.mem_cons.mp h with rfl | h
    · exact Nat.le_max_left _ _
    · exact Nat.le_trans (depths_mem h) (Nat.le_max_right _ _)
theorem depths_le {n : Nat} : ∀ {ds : List PyData}, (∀ d ∈ ds, d.depth ≤ n) → PyData.depthAll ds ≤ n
  | [], _ => by rw [PyData.depthAll]; exact Nat.zero_le _
  | x :: xs, h => by
    rw [PyData.depthAll]
    exact Nat.max_le.mpr ⟨h x (.head _), depths_le fun d hd => h d (.tail _ hd)⟩
mutual
theorem shq_ok : ∀ {d : PyData}, ShQ d → d.showable = true ∧ d.shown.length ≤ wt d
  | .none, _ => ⟨rfl, by decide +kernel⟩
  | .bool b, _ => ⟨rfl, by cases b <;> decide +kernel⟩
  | .int i, h => ⟨decide_eq_true h, int_text_len_1921 h⟩
  | .str x, h => ⟨rfl, Nat.le_trans (StrLaws.reprText_len x h) (Nat.add_le_add_left (by decide) _)⟩
  | .list xs, h => by
    obtain ⟨a, c⟩ := shqs_ok (xs := xs) h
    refine ⟨by rw [PyData.showable]; exact a, ?_⟩
    rw [PyData.shown, wt]
    exact Nat.le_trans (listText_len_le _) (by omega)
  | .tuple xs, h => by
    obtain ⟨a, c⟩ := shqs_ok (xs := xs) h
    refine ⟨by rw [PyData.showable]; exact a, ?_⟩
    rw [PyData.shown, wt]
    exact Nat.le_trans (tupleText_len_le _) (by omega)
  | .dict xs, h => by
    have h : xs = [] := h
    subst h
    exact ⟨by rw [PyData.showable, PyData.showableKv], by rw [PyData.shown, PyData.shownKv, wt]; decide +kernel⟩
theorem shqs_ok : ∀ {xs : List PyData}, ShQs xs → PyData.showableAll xs = true ∧ ((PyData.shownAll xs).map (·.length)).sum + 2 * (PyData.shownAll xs).length ≤ wts xs
  | [], _ => ⟨rfl, Nat.le_refl _⟩
  | x :: xs, h => by
    obtain ⟨a1, c1⟩ := shq_ok h.1
    obtain ⟨a2, c2⟩ := shqs_ok h.2
    refine ⟨by rw [PyData.showableAll, a1, a2]; rfl, ?_⟩
    rw [PyData.shownAll, wts, List.map_cons, List.sum_cons, List.length_cons]
    omega
end
section
variable {X : Cx} {k : Nat} {fz : Bool} {t : Addr}
/-- repr of a thing of any kind -/
theorem call_reprQ (gd : X.A.guards = some []) (hr : Room k X.A) : CallR X (.builtin "repr") (fun xs H Q => ∃ fz t v d, xs = [v] ∧ Dq fz t H v d ∧ ShQ d ∧ d.depth ≤ 50 ∧ wt d ≤ 4000000 ∧ Q (.str d.shown) H) := by
  intro pins s σ H xs us Q I r h
  obtain ⟨fz, t, v, d, rfl, dq, sh, deep, few, q⟩ := h
  obtain ⟨u, rfl, ru⟩ := vals1 r
  obtain ⟨a, c⟩ := shq_ok sh
  have fits : wt d ≤ sizeLine := Nat.le_trans few (by decide)
  have hz := Nat.le_trans c fits
  have hu := hr.un
  have turn : ∀ h' u tk, (∀ b o, s.heap.get? b = some o → h'.get? b = some o) → EP X pins σ Q (.str d.shown u) { s with heap := h', toks := tk } := fun h' u tk kp => ⟨.str _, H, I.turnedL (ch := []) (h' := h') (t' := tk) (fun b o _ e => kp b o e) (fun b hb => by cases hb), ⟨_, rfl⟩, q⟩
  cases dq with
  | non => cases ru; exact PySem.P.repr_of_none ⟨.str _, H, I.tok _, ⟨_, rfl⟩, q⟩
  | bl x => cases ru; exact PySem.P.repr_of_bool ⟨.str _, H, I.tok _, ⟨_, rfl⟩, q⟩
  | int i =>
    obtain ⟨tt, rfl⟩ := ru
    exact PySem.P.repr_of_int sh ⟨.str _, H, I.tok _, ⟨_, rfl⟩, q⟩
  | str x =>
    obtain ⟨tt, rfl⟩ := ru
    exact PySem.P.repr_of_str ⟨.str _, H, I.tok _, ⟨_, rfl⟩, q⟩ hz
  | @lst p vs ds n e h =>
    cases ru
    obtain ⟨as, rd⟩ := dq_reads (u := .ref _) I (Dq.lst n e h) rfl
    obtain ⟨o, us, m, h1, h2, h3, rv⟩ := dq_list I e
    obtain ⟨bs, b1, b2⟩ := dq_showsAll I h rv (by simpa [PyData.showable] using a) fun x hx => Nat.le_trans (listText_mem_le hx) (by simpa only [PyData.shown] using hz)
    have lt : PyData.depthAll ds < (PyData.list ds).depth := by simp only [PyData.depth]; omega
    have out := not_mem_of_deeper rd lt b1
    refine call_repr_slot (by omega) ⟨o, h1, h2⟩ F.slot_list_repr.toG ?_
    have turn2 : ∀ h' u tk, (∀ b o, s.heap.get? b = some o → h'.get? b = some o) → ∃ x z, Value.str (PyData.list ds).shown u = .str x z ∧ EP X pins σ Q (.str (PyData.list ds).shown u) { s with heap := h', toks := tk } := fun h' u tk kp => ⟨_, _, rfl, turn h' u tk kp⟩
    simp only [PyData.shown] at turn2 hz
    cases us with
    | nil =>
      cases rv
      cases h
      simp only [PyData.shownAll, listText_nil] at turn2
      exact call_list_repr_empty ⟨o, h1, h2⟩ h1 h3 (turn2 s.heap _ _ fun _ _ e => e)
    | cons x l => exact call_list_reprK h1 h2 h3 out (by simpa using b2.length_eq) (fun i y q => b2.item i y (by simpa using q)) gd (fun b _ => Clear.nil b) (by simp only [PyData.depth] at deep; show X.A.units + 1 + _ < _; omega) (fun _ _ e => e) turn2 hz
  | @tup p vs ds n e h =>
    cases ru
    obtain ⟨as, rd⟩ := dq_reads (u := .ref _) I (Dq.tup n e h) rfl
    obtain ⟨o, us, m, h1, h2, h3, rv⟩ := dq_tuple I (.inl (.inl e))
    obtain ⟨bs, b1, b2⟩ := dq_showsAll I h rv (by simpa [PyData.showable] using a) fun x hx => Nat.le_trans (tupleText_mem_le hx) (by simpa only [PyData.shown] using hz)
    have lt : PyData.depthAll ds < (PyData.tuple ds).depth := by simp only [PyData.depth]; omega
    refine call_repr_slot (by omega) ⟨o, h1, h2⟩ F.slot_tuple_repr ?_
    have turn2 : ∀ h' u tk, (∀ b o, s.heap.get? b = some o → h'.get? b = some o) → ∃ x z, Value.str (PyData.tuple ds).shown u = .str x z ∧ EP X pins σ Q (.str (PyData.tuple ds).shown u) { s with heap := h', toks := tk } := fun h' u tk kp => ⟨_, _, rfl, turn h' u tk kp⟩
    simp only [PyData.shown] at turn2 hz
    exact call_tuple_reprK h1 h2 h3 (not_mem_of_deeper rd lt b1) b2 gd (fun b _ => Clear.nil b) (by simp only [PyData.depth] at deep; show X.A.units + 1 + _ < _; omega) (fun _ _ e => e) turn2 hz
  | @frz p o' vs ds fn n e h =>
    cases ru
    obtain ⟨as, rd⟩ := dq_reads (u := .ref _) I (Dq.frz fn n e h) rfl
    obtain ⟨o, us, m, h1, h2, h3, rv⟩ := dq_tuple I (.inl (.inr ⟨_, e⟩))
    obtain ⟨bs, b1, b2⟩ := dq_showsAll I h rv (by simpa [PyData.showable] using a) fun x hx => Nat.le_trans (tupleText_mem_le hx) (by simpa only [PyData.shown] using hz)
    have lt : PyData.depthAll ds < (PyData.tuple ds).depth := by simp only [PyData.depth]; omega
    refine call_repr_slot (by omega) ⟨o, h1, h2⟩ F.slot_tuple_repr ?_
    have turn2 : ∀ h' u tk, (∀ b o, s.heap.get? b = some o → h'.get? b = some o) → ∃ x z, Value.str (PyData.tuple ds).shown u = .str x z ∧ EP X pins σ Q (.str (PyData.tuple ds).shown u) { s with heap := h', toks := tk } := fun h' u tk kp => ⟨_, _, rfl, turn h' u tk kp⟩
    simp only [PyData.shown] at turn2 hz
    exact call_tuple_reprK h1 h2 h3 (not_mem_of_deeper rd lt b1) b2 gd (fun b _ => Clear.nil b) (by simp only [PyData.depth] at deep; show X.A.units + 1 + _ < _; omega) (fun _ _ e => e) turn2 hz
  | @dct p n e =>
    cases ru
    obtain ⟨o, m, h1, h2, h3, h4⟩ := dq_dict I e
    refine call_repr_slot (by omega) ⟨o, h1, h2⟩ F.slot_dict_repr ?_
    have turn2 : ∀ h' u tk, (∀ b o, s.heap.get? b = some o → h'.get? b = some o) → ∃ x z, Value.str (PyData.dict []).shown u = .str x z ∧ EP X pins σ Q (.str (PyData.dict []).shown u) { s with heap := h', toks := tk } := fun h' u tk kp => ⟨_, _, rfl, turn h' u tk kp⟩
    simp only [PyData.shown, PyData.shownKv] at turn2 hz
    exact call_dict_reprK (as := []) (d := 0) (ps := []) h1 h2 h3 h4 (fun z => nomatch z) .nil gd (fun b _ => Clear.nil b) (by show X.A.units + 1 + _ < _; omega) (fun _ _ e => e) turn2 hz
end
/-! ### kinds -/
theorem dq_typed {fz : Bool} {t : Addr} {H : Hp} {v : V} {d : PyData} (h : Dq fz t H v d) : (∃ a o xs, v = .ref a ∧ H a = some (.frz o (.tup xs))) ∨ Typed H v := by
  cases h with
  | non => exact .inr trivial
  | bl => exact .inr trivial
  | int => exact .inr trivial
  | str => exact .inr trivial
  | lst n e h => exact .inr (.inr (.inl ⟨_, e⟩))
  | tup n e h => exact .inr (.inl ⟨_, e⟩)
  | frz fn n e h => exact .inl ⟨_, _, _, rfl, e⟩
  | dct n e => exact .inr (.inr (.inr ⟨_, e⟩))
/-- whether a thing's data are of a built-in kind -/
def kindQ (n : String) : PyData → Bool
  | .none => false
  | .bool _ => n == "bool" || n == "int"
  | .int _ => n == "int"
  | .str _ => n == "str"
  | .tuple _ => n == "tuple"
  | .list _ => n == "list"
  | .dict _ => n == "dict"
theorem dq_kind {K : PySem.W.Frag} {fz : Bool} {t : Addr} {H : Hp} {v : V} {d : PyData} {n : String} (hn : n = "int" ∨ n = "bool" ∨ n = "str" ∨ n = "tuple") (h : Dq fz t H v d) : ∃ u, TyX K H v u ∧ PySem.W.kitOne K u (.type n) = some (kindQ n d) := by
  cases h with
  | non => rcases hn with rfl | rfl | rfl | rfl <;> exact ⟨_, .base .non, kit_ty (r := false) (by decide +kernel)⟩
  | bl b =>
    rcases hn with rfl | rfl | rfl | rfl
    · exact ⟨_, .base (.bl b), kit_ty (r := true) (by decide +kernel)⟩
    · exact ⟨_, .base (.bl b), kit_ty (r := true) (by decide +kernel)⟩
    · exact ⟨_, .base (.bl b), kit_ty (r := false) (by decide +kernel)⟩
    · exact ⟨_, .base (.bl b), kit_ty (r := false) (by decide +kernel)⟩
  | int i =>
    rcases hn with rfl | rfl | rfl | rfl
    · exact ⟨_, .base (.int i), kit_ty (r := true) (by decide +kernel)⟩
    · exact ⟨_, .base (.int i), kit_ty (r := false) (by decide +kernel)⟩
    · exact ⟨_, .base (.int i), kit_ty (r := false) (by decide +kernel)⟩
    · exact ⟨_, .base (.int i), kit_ty (r := false) (by decide +kernel)⟩
  | str x =>
    rcases hn with rfl | rfl | rfl | rfl
    · exact ⟨_, .base (.str x), kit_ty (r := false) (by decide +kernel)⟩
    · exact ⟨_, .base (.str x), kit_ty (r := false) (by decide +kernel)⟩
    · exact ⟨_, .base (.str x), kit_ty (r := true) (by decide +kernel)⟩
    · exact ⟨_, .base (.str x), kit_ty (r := false) (by decide +kernel)⟩
  | lst _ e _ => rcases hn with rfl | rfl | rfl | rfl <;> exact ⟨_, .base (.lst e), kit_ty (r := false) (by decide +kernel)⟩
  | tup _ e _ => rcases hn with rfl | rfl | rfl | rfl <;> first | exact ⟨_, .base (.tup e), kit_ty (r := false) (by decide +kernel)⟩ | exact ⟨_, .base (.tup e), kit_ty (r := true) (by decide +kernel)⟩
  | frz _ _ e _ => rcases hn with rfl | rfl | rfl | rfl <;> first | exact ⟨_, .fTuple e, kit_ty (r := false) (by decide +kernel)⟩ | exact ⟨_, .fTuple e, kit_ty (r := true) (by decide +kernel)⟩
  | dct _ e => rcases hn with rfl | rfl | rfl | rfl <;> exact ⟨_, .base (.dK e), kit_ty (r := false) (by decide +kernel)⟩
end My

set_option Elab.async false
set_option linter.all false
set_option maxRecDepth 100000
set_option maxHeartbeats 4000000
/-! in, not in: a thing of any kind in texts or in pairs of texts; a text in things of any kind. -/
namespace My
open PySem PySem.Spec PyProof.Rows L2 PySem.SeqAt
theorem tuple_declines_dict (b l : Addr) (items : Array Value) (n m : Nat) (dd d2 : Option Addr) (sl s2 : Array (Option Value)) (es : Array DictEntry) :
    Meets (Builtin.«tuple.__eq__» ⟨[.ref b, .ref l], []⟩) (fun _ R s => s.heap.get? b = some { cls := .type "tuple", dict := dd, data := .seq items n, slots := sl } ∧ s.heap.get? l = some { cls := .type "dict", dict := d2, data := .dict es m, slots := s2 } ∧ R (.ok (.ret .notImplemented)) s) := by
  refine .of_wp fun prog w A R s h => ?_
  obtain ⟨hp, g, d, tk, os⟩ := s
  obtain ⟨hb, hl, h⟩ := h
  have f1 := F.sub_dict_tuple
  wp_walk using wpAny_loadPart' hb, wpAny_loadPart' hl
  exact ⟨_, rfl, h⟩
theorem dict_declines_tuple (b l : Addr) (items : Array Value) (n m : Nat) (dd d2 : Option Addr) (sl s2 : Array (Option Value)) (es : Array DictEntry) :
    Meets (Builtin.«dict.__eq__» ⟨[.ref l, .ref b], []⟩) (fun _ R s => s.heap.get? b = some { cls := .type "tuple", dict := dd, data := .seq items n, slots := sl } ∧ s.heap.get? l = some { cls := .type "dict", dict := d2, data := .dict es m, slots := s2 } ∧ R (.ok (.ret .notImplemented)) s) := by
  refine .of_wp fun prog w A R s h => ?_
  obtain ⟨hp, g, d, tk, os⟩ := s
  obtain ⟨hb, hl, h⟩ := h
  wp_walk using wpAny_loadPart' hl, wpAny_loadPart' hb, wpAny_load hl
  refine wpAny_of_eq F.sub_tuple_dict ?_
  rw [if_pos (by decide)]
  exact wpAny_bind (wpAny_rule (wpAny_pure ⟨_, rfl, h⟩))
section
variable {A : Around} {s : Shared}
theorem eq_tuple_dict {b l : Addr} {items : Array Value} {o : Obj} {es : Array DictEntry} {m : Nat} (hb : s.heap.IsTuple b items) (ho : s.heap.get? l = some o) (hc : o.cls = .type "dict") (hd : o.data = .dict es m) (hu : A.units < cLine) : EqAt A s (.ref b) (.ref l) false := by
  obtain ⟨⟨cls, dd, data, sl⟩, hb, hbc, n, hbd⟩ := hb
  obtain ⟨c2, d2, da2, s2⟩ := o
  simp only at hc hd hbc hbd
  subst hc hd hbc hbd
  have ne : b ≠ l := fun e => by
    subst e
    rw [ho] at hb
    simp at hb
  refine .of_refs ne fun prog w E Q h => ?_
  exact rc_eq_decline_or (k := false) ⟨_, hb, rfl⟩ ⟨_, ho, rfl⟩ (by decide) F.sub_dict_tuple F.slot_tuple_eq F.slot_dict_eq_refl
    (fun _ hq => call_meets F.slot_tuple_eq ⟨_, hb, rfl⟩ F.entry_tuple_eq (F.args_tuple_eq_2 _ _) (tuple_declines_dict b l items n m dd d2 sl s2 es) ⟨hb, ho, hq⟩)
    (fun _ hq => call_meets F.slot_dict_eq_refl ⟨_, ho, rfl⟩ F.entry_dict_eq (F.args_dict_eq_2 _ _) (dict_declines_tuple b l items n m dd d2 sl s2 es) ⟨hb, ho, hq⟩)
    (fun _ hq => by first | exact wpAny_isSame_ref_other' ne hb ho (by simp) hq | exact wpAny_isSame_ref_other ne hb ho (by simp) hq) (.inr hu) h
theorem eq_dict_str {l : Addr} {o : Obj} {es : Array DictEntry} {n : Nat} (b : Str) (u : Tok) (ho : s.heap.get? l = some o) (hc : o.cls = .type "dict") (hd : o.data = .dict es n) (hu : A.units < cLine) : EqAt A s (.ref l) (.str b u) false := fun prog w E Q h => by
  unfold eqBool
  refine wpAny_holding (wpAny_ite_split (fun hab => absurd (eq_of_beq hab) nofun) fun _ => ?_)
  refine wpAny_bind (rc_eq_decline_or (k := false) ⟨_, ho, hc⟩ (typeIs_str s b u) (by decide) (show isSubtype (.type "str") (.type "dict") = pure false by rw [isSubtype_type]; kernel_rfl) F.slot_dict_eq F.slot_str_eq_refl
    (fun _ hq => call_meets F.slot_dict_eq ⟨_, ho, hc⟩ F.entry_dict_eq (F.args_dict_eq_2 _ _) (dict_declines_str b u l o es n hc hd) ⟨ho, hq⟩)
    (fun _ hq => call_meets F.slot_str_eq_refl (typeIs_str s b u) F.entry_str_eq (F.args_str_eq_2 _ _) (str_declines_dict b u l o es n hd) ⟨ho, hq⟩)
    (fun _ hq => wpAny_of_eq (rfl : isSame (.ref l) (.str b u) = pure false) hq) (.inr hu) (wpAny_truthy_bool h))
end
/-! ### a text, a pair of texts against a thing -/
/-- the thing is that text -/
def isT (z : Str) : PyData → Bool
  | .str y => z == y
  | _ => false
/-- the thing is that pair -/
def isP (p : Str × Str) : PyData → Bool
  | .tuple [x, y] => isT p.1 x && isT p.2 y
  | _ => false
section
variable {X : Cx} {pins : List (Addr × Obj)} {σ : L2.St} {H : Hp} {s : Shared} {fz : Bool} {t : Addr} {A : Around}
theorem dq_isTuple {a : Addr} {xs : List V} (I : Inv X pins σ H s) (e : SqT X.K H a xs) : ∃ us : List Value, s.heap.IsTuple a us.toArray ∧ Vals xs us := by
  obtain ⟨us, rv, p, _⟩ := I.tuple e
  exact ⟨us, p, rv⟩
/-- a text, then the thing -/
theorem eq_text {x : V} {d : PyData} {v : Value} (I : Inv X pins σ H s) (h : Dq fz t H x d) (r : RelV x v) (hu : A.units < cLine) (z : Str) (k : Tok) : EqAt A s (.str z k) v (isT z d) := by
  cases h with
  | non => cases r; exact EqAt.str_none z k
  | bl b => cases r; exact EqAt.str_bool z k b
  | int i => obtain ⟨u, rfl⟩ := r; exact EqAt.str_int z k i u
  | str y => obtain ⟨u, rfl⟩ := r; exact EqAt.str_str z k y u
  | lst n e h =>
    cases r
    obtain ⟨us, rv, pl, _⟩ := I.list (.inl (.inl e))
    exact EqAt.str_list z k pl.isList hu
  | tup n e h =>
    cases r
    obtain ⟨us, p, _⟩ := dq_isTuple I (.inl (.inl e))
    exact EqAt.str_tuple z k p hu
  | frz fn n e h =>
    cases r
    obtain ⟨us, p, _⟩ := dq_isTuple I (.inl (.inr ⟨_, e⟩))
    exact EqAt.str_tuple z k p hu
  | dct n e =>
    cases r
    obtain ⟨o, m, h1, h2, h3, _⟩ := dq_dict I e
    exact eq_str_dict z k h1 h2 h3 hu
/-- the thing, then a text -/
theorem eq_text2 {x : V} {d : PyData} {v : Value} (I : Inv X pins σ H s) (h : Dq fz t H x d) (r : RelV x v) (hu : A.units < cLine) (z : Str) (k : Tok) : EqAt A s v (.str z k) (isT z d) := by
  cases h with
  | non => cases r; exact EqAt.none_str z k
  | bl b => cases r; exact EqAt.bool_str b z k
  | int i => obtain ⟨u, rfl⟩ := r; exact EqAt.int_str i u z k
  | str y =>
    obtain ⟨u, rfl⟩ := r
    have e := EqAt.str_str (A := A) (s := s) y u z k
    rw [show (y == z) = isT z (.str y) by show (y == z) = (z == y); rw [Bool.eq_iff_iff, beq_iff_eq, beq_iff_eq]; exact eq_comm] at e
    exact e
  | lst n e h =>
    cases r
    obtain ⟨us, rv, pl, _⟩ := I.list (.inl (.inl e))
    exact EqAt.list_str z k pl.isList hu
  | tup n e h =>
    cases r
    obtain ⟨us, p, _⟩ := dq_isTuple I (.inl (.inl e))
    exact EqAt.tuple_str z k p hu
  | frz fn n e h =>
    cases r
    obtain ⟨us, p, _⟩ := dq_isTuple I (.inl (.inr ⟨_, e⟩))
    exact EqAt.tuple_str z k p hu
  | dct n e =>
    cases r
    obtain ⟨o, m, h1, h2, h3, _⟩ := dq_dict I e
    exact eq_dict_str z k h1 h2 h3 hu
theorem vals_at : ∀ {xs : List V} {us : List Value}, Vals xs us → ∀ (j : Nat) (u : Value), us[j]? = some u → ∃ v, xs[j]? = some v ∧ RelV v u
  | _, _, .nil, _, _, e => by cases e
  | _, _, .cons a _, 0, _, e => by cases e; exact ⟨_, rfl, a⟩
  | _, _, .cons _ r, j + 1, u, e => vals_at r j u e
theorem dqs_two {xs : List V} {ds : List PyData} {us : List Value} (h : DqAll fz t H xs ds) (r : Vals xs us) (n : us.length = 2) : ∃ x y d e u v, xs = [x, y] ∧ ds = [d, e] ∧ us = [u, v] ∧ Dq fz t H x d ∧ Dq fz t H y e ∧ RelV x u ∧ RelV y v := by
  cases r with
  | nil => cases n
  | cons r1 r =>
    cases r with
    | nil => cases n
    | cons r2 r =>
      cases r with
      | cons _ _ => simp at n
      | nil =>
        cases h with
        | cons h1 h =>
          cases h with
          | cons h2 h =>
            cases h
            exact ⟨_, _, _, _, _, _, rfl, rfl, rfl, h1, h2, r1, r2⟩
theorem eq_pair_tup {a b : Addr} {xs : List V} {ds : List PyData} {p : Str × Str} {k1 k2 : Tok} (I : Inv X pins σ H s) (hu : A.units + 1 < cLine) (hb : s.heap.IsTuple b #[.str p.1 k1, .str p.2 k2]) (e : SqT X.K H a xs) (h : DqAll fz t H xs ds) : EqAt A s (.ref b) (.ref a) (isP p (.tuple ds)) := by
  obtain ⟨us, ha, rv⟩ := dq_isTuple I e
  by_cases ab : b = a
  · subst ab
    have eu : us.toArray = #[.str p.1 k1, .str p.2 k2] := by
      obtain ⟨o, h1, _, n1, d1⟩ := hb
      obtain ⟨o2, h2, _, n2, d2⟩ := ha
      rw [h1] at h2
      cases h2
      rw [d1] at d2
      cases d2
      rfl
    have eu : us = [.str p.1 k1, .str p.2 k2] := by simpa using congrArg Array.toList eu
    obtain ⟨x, y, d, e', u, v, rfl, rfl, eu2, h1, h2, r1, r2⟩ := dqs_two h rv (by rw [eu]; rfl)
    rw [eu] at eu2
    cases eu2
    have dx : ∀ {x : V} {d : PyData} {z : Str} {k : Tok}, Dq fz t H x d → RelV x (.str z k) → isT z d = true := fun {x d z k} h r => by
      cases h with
      | str y =>
        obtain ⟨u, e⟩ := r
        cases e
        show (z == z) = true
        exact beq_self_eq_true z
      | non => cases r
      | bl b => cases r
      | int i => obtain ⟨u, e⟩ := r; cases e
      | lst => cases r
      | tup => cases r
      | frz => cases r
      | dct => cases r
    rw [show isP p (.tuple [d, e']) = true by show (isT p.1 d && isT p.2 e') = true; rw [dx h1 r1, dx h2 r2]; rfl]
    exact EqAt.same _
  · refine EqAt.of_refs ab ?_
    let e : Nat → Bool := fun j => match ds[j]? with | some d => isT (if j = 0 then p.1 else p.2) d | none => false
    have q := RcAt.tuples (A := A) (e := e) hb ha (by omega) (fun j j1 j2 => by
      have j2 : j < us.length := by simpa using j2
      obtain ⟨v, hv, rel⟩ := vals_at rv j us[j] (List.getElem?_eq_getElem j2)
      obtain ⟨d, hd, dq⟩ := h.get hv
      have ee : e j = isT (if j = 0 then p.1 else p.2) d := by show (match ds[j]? with | some d => isT (if j = 0 then p.1 else p.2) d | none => false) = _; rw [hd]
      rw [ee]
      match j, j1 with
      | 0, _ => exact eq_text I dq rel (by show A.units + 1 < cLine; exact hu) p.1 k1
      | 1, _ => exact eq_text I dq rel (by show A.units + 1 < cLine; exact hu) p.2 k2
      | j + 2, j1 => exact absurd j1 (by simp))
    have l1 := h.length
    have l2 := rv.length
    have fin : ((List.range (min (#[Value.str p.1 k1, Value.str p.2 k2] : Array Value).size us.toArray.size)).all e && (#[Value.str p.1 k1, Value.str p.2 k2] : Array Value).size == us.toArray.size) = isP p (.tuple ds) := by
      rw [show us.toArray.size = ds.length by rw [List.size_toArray, ← l2, l1]]
      show ((List.range (min 2 ds.length)).all e && (2 == ds.length)) = _
      clear q l1 h
      rcases ds with _ | ⟨d, _ | ⟨d', _ | ⟨d3, r⟩⟩⟩
      · rfl
      · simp [isP]
      · show ((List.range 2).all _ && true) = (isT p.1 d && isT p.2 d')
        rw [show List.range 2 = [0, 1] from rfl]
        simp [e]
      · have : (2 == (r.length + 3)) = false := by simp
        show (_ && (2 == (r.length + 3))) = false
        rw [this, Bool.and_false]
    rw [fin] at q
    exact q
/-- a pair of texts, then the thing -/
theorem eq_pair {x : V} {d : PyData} {v : Value} {b : Addr} {p : Str × Str} {k1 k2 : Tok} (I : Inv X pins σ H s) (h : Dq fz t H x d) (r : RelV x v) (hu : A.units + 1 < cLine) (hb : s.heap.IsTuple b #[.str p.1 k1, .str p.2 k2]) : EqAt A s (.ref b) v (isP p d) := by
  cases h with
  | non => cases r; exact EqAt.tuple_none hb (by omega)
  | bl c => cases r; exact EqAt.tuple_bool c hb (by omega)
  | int i => obtain ⟨u, rfl⟩ := r; exact EqAt.tuple_int i u hb (by omega)
  | str y => obtain ⟨u, rfl⟩ := r; exact EqAt.tuple_str y u hb (by omega)
  | lst n e h =>
    cases r
    obtain ⟨us, rv, pl, _⟩ := I.list (.inl (.inl e))
    exact EqAt.tuple_list hb pl.isList (by omega)
  | tup n e h =>
    cases r
    exact eq_pair_tup I hu hb (.inl (.inl e)) h
  | frz fn n e h =>
    cases r
    exact eq_pair_tup I hu hb (.inl (.inr ⟨_, e⟩)) h
  | dct n e =>
    cases r
    obtain ⟨o, m, h1, h2, h3, _⟩ := dq_dict I e
    exact eq_tuple_dict hb h1 h2 h3 (by omega)
end
/-- the thing is among the texts -/
def inT (zs : List Str) (d : PyData) : Bool := zs.any fun z => isT z d
/-- the thing is among the pairs -/
def inPs (ps : List (Str × Str)) (d : PyData) : Bool := ps.any fun p => isP p d
open Classical in
/-- what == tells of an item, by what the item is -/
noncomputable def tells {α : Type} (R : Value → α → Prop) (f : α → Bool) (y : Value) : Bool := if h : ∃ a, R y a then f h.choose else false
theorem tells_is {α : Type} {R : Value → α → Prop} {f : α → Bool} {y : Value} {a : α} (h : R y a) (u : ∀ b, R y b → f b = f a) : tells R f y = f a := by
  have e : ∃ a, R y a := ⟨a, h⟩
  unfold tells
  rw [dif_pos e]
  exact u _ e.choose_spec
inductive EachI {α : Type} (R : Value → α → Prop) : List Value → List α → Prop
  | nil : EachI R [] []
  | cons {y : Value} {a : α} {us : List Value} {as : List α} : R y a → EachI R us as → EachI R (y :: us) (a :: as)
/-- a text's value -/
def ValT (y : Value) (z : Str) : Prop := ∃ k, y = .str z k
theorem valT_one {y : Value} {z z' : Str} (h : ValT y z) (k : ValT y z') : z = z' := by
  obtain ⟨a, rfl⟩ := h
  obtain ⟨b, e⟩ := k
  cases e
  rfl
theorem valsT : ∀ {zs : List Str} {us : List Value}, Vals (zs.map V.str) us → EachI ValT us zs
  | [], _, .nil => .nil
  | _ :: _, _, .cons r t => .cons r (valsT t)
def ValP (h : Heap) (y : Value) (p : Str × Str) : Prop := ∃ b k1 k2, y = .ref b ∧ h.IsTuple b #[.str p.1 k1, .str p.2 k2]
theorem valP_one {h : Heap} {y : Value} {p q : Str × Str} (a : ValP h y p) (b : ValP h y q) : p = q := by
  obtain ⟨c, k1, k2, rfl, o, h1, _, n, d1⟩ := a
  obtain ⟨c', l1, l2, e, o', h2, _, n', d2⟩ := b
  cases e
  rw [h1] at h2
  cases h2
  rw [d1] at d2
  simp at d2
  exact Prod.ext d2.1.1.1 d2.1.2.1
theorem any_tells {α : Type} {R : Value → α → Prop} {f : α → Bool} (one : ∀ y a b, R y a → R y b → a = b) : ∀ {us : List Value} {as : List α}, EachI R us as → us.any (tells R f) = as.any f
  | _, _, .nil => rfl
  | _, _, .cons h t => by
    rw [List.any_cons, List.any_cons, any_tells one t, tells_is h fun b hb => by rw [one _ _ _ h hb]]
theorem each_get {α : Type} {R : Value → α → Prop} : ∀ {us : List Value} {as : List α} {y : Value}, EachI R us as → y ∈ us → ∃ a, R y a
  | _, _, _, .nil, m => by cases m
  | _, _, _, .cons h t, m => by
    rcases List.mem_cons.mp m with rfl | m
    · exact ⟨_, h⟩
    · exact each_get t m
section
variable {X : Cx} {pins : List (Addr × Obj)} {σ : L2.St} {H : Hp} {s : Shared}
theorem valsP (I : Inv X pins σ H s) : ∀ {ps : List (Str × Str)} {xs : List V} {us : List Value}, NkAll H xs (ps.map fun p => NestedKey.tup [.text p.1, .text p.2]) → Vals xs us → EachI (ValP s.heap) us ps
  | [], _, _, .nil, .nil => .nil
  | p :: ps, _, _, .cons n h, .cons r1 r2 => by
    refine .cons ?_ (valsP I h r2)
    cases n with
    | @tup q xs _ e hk =>
      cases hk with
      | cons n1 hk =>
        cases n1
        cases hk with
        | cons n2 hk =>
          cases n2
          cases hk
          cases r1
          obtain ⟨us, rv, pl, _⟩ := I.tuple (.inl (.inl e))
          cases rv with
          | cons q1 rv =>
            cases rv with
            | cons q2 rv =>
              cases rv
              obtain ⟨k1, rfl⟩ := q1
              obtain ⟨k2, rfl⟩ := q2
              exact ⟨q, k1, k2, rfl, pl⟩
end
/-! ### the rules -/
def rInQT (K : PySem.W.Frag) (neg : Bool) : R2 := fun x y H Q => ∃ (fz : Bool) (t p : Addr) (zs : List Str) (d : PyData), y = .ref p ∧ (SqL K H p (zs.map V.str) ∨ SqT K H p (zs.map V.str)) ∧ Dq fz t H x d ∧ Q (.bl (if neg then !inT zs d else inT zs d)) H
def rInQP (K : PySem.W.Frag) (neg : Bool) : R2 := fun x y H Q => ∃ (fz : Bool) (t p : Addr) (xs : List V) (ps : List (Str × Str)) (d : PyData), y = .ref p ∧ (SqL K H p xs ∨ SqT K H p xs) ∧ NkAll H xs (ps.map fun p => NestedKey.tup [.text p.1, .text p.2]) ∧ Dq fz t H x d ∧ Q (.bl (if neg then !inPs ps d else inPs ps d)) H
def rInTQ (K : PySem.W.Frag) (neg : Bool) : R2 := fun x y H Q => ∃ (fz : Bool) (t p : Addr) (z : Str) (xs : List V) (ds : List PyData), x = .str z ∧ y = .ref p ∧ (SqL K H p xs ∨ SqT K H p xs) ∧ DqAll fz t H xs ds ∧ Q (.bl (if neg then !(ds.any fun d => isT z d) else ds.any fun d => isT z d)) H
section
variable {X : Cx}
theorem op_inQT (hu : X.A.units + 64 < cLine) : OpR X (compareOp .In) (rInQT X.K false) := by
  intro pins s σ H x y v u Q I rx ry h
  obtain ⟨fz, t, p, zs, d, rfl, hq, hx, q⟩ := h
  cases ry
  have each {us : List Value} (r : Vals (zs.map V.str) us) : us.any (tells ValT fun z => isT z d) = inT zs d ∧ ∀ y ∈ us, EqAt X.A.in1 s y v (tells ValT (fun z => isT z d) y) := by
    refine ⟨any_tells (R := ValT) (fun y a b => valT_one) (valsT r), fun y hy => ?_⟩
    obtain ⟨z, hz⟩ := each_get (valsT r) hy
    rw [tells_is hz fun b hb => by rw [valT_one hz hb]]
    obtain ⟨k, rfl⟩ := hz
    exact eq_text I hx rx (by show X.A.units + 1 < cLine; omega) z k
  rcases hq with hq | hq
  · obtain ⟨its, r, pl, _⟩ := I.list hq
    obtain ⟨e1, e2⟩ := each r
    refine in_listAt (tells ValT fun z => isT z d) pl.isList (fun y hy => e2 y (by simpa using hy)) ⟨.bl _, H, I, rfl, ?_⟩
    rw [show its.toArray.any (tells ValT fun z => isT z d) = its.any (tells ValT fun z => isT z d) by simp, e1]
    exact q
  · obtain ⟨its, r, pl, _⟩ := I.tuple hq
    obtain ⟨e1, e2⟩ := each r
    refine in_tupleAt (tells ValT fun z => isT z d) pl (fun y hy => e2 y (by simpa using hy)) ⟨.bl _, H, I, rfl, ?_⟩
    rw [show its.toArray.any (tells ValT fun z => isT z d) = its.any (tells ValT fun z => isT z d) by simp, e1]
    exact q
theorem op_notInQT (hu : X.A.units + 64 < cLine) : OpR X (compareOp .NotIn) (rInQT X.K true) := by
  intro pins s σ H x y v u Q I rx ry h
  obtain ⟨fz, t, p, zs, d, rfl, hq, hx, q⟩ := h
  cases ry
  have each {us : List Value} (r : Vals (zs.map V.str) us) : us.any (tells ValT fun z => isT z d) = inT zs d ∧ ∀ y ∈ us, EqAt X.A.in1 s y v (tells ValT (fun z => isT z d) y) := by
    refine ⟨any_tells (R := ValT) (fun y a b => valT_one) (valsT r), fun y hy => ?_⟩
    obtain ⟨z, hz⟩ := each_get (valsT r) hy
    rw [tells_is hz fun b hb => by rw [valT_one hz hb]]
    obtain ⟨k, rfl⟩ := hz
    exact eq_text I hx rx (by show X.A.units + 1 < cLine; omega) z k
  rcases hq with hq | hq
  · obtain ⟨its, r, pl, _⟩ := I.list hq
    obtain ⟨e1, e2⟩ := each r
    refine notIn_listAt (tells ValT fun z => isT z d) pl.isList (fun y hy => e2 y (by simpa using hy)) ⟨.bl _, H, I, rfl, ?_⟩
    rw [show its.toArray.any (tells ValT fun z => isT z d) = its.any (tells ValT fun z => isT z d) by simp, e1]
    exact q
  · obtain ⟨its, r, pl, _⟩ := I.tuple hq
    obtain ⟨e1, e2⟩ := each r
    refine notIn_tupleAt (tells ValT fun z => isT z d) pl (fun y hy => e2 y (by simpa using hy)) ⟨.bl _, H, I, rfl, ?_⟩
    rw [show its.toArray.any (tells ValT fun z => isT z d) = its.any (tells ValT fun z => isT z d) by simp, e1]
    exact q
theorem op_inQP (hu : X.A.units + 64 < cLine) : OpR X (compareOp .In) (rInQP X.K false) := by
  intro pins s σ H x y v u Q I rx ry h
  obtain ⟨fz, t, p, xs, ps, d, rfl, hq, nk, hx, q⟩ := h
  cases ry
  have each {us : List Value} (r : Vals xs us) : us.any (tells (ValP s.heap) fun z => isP z d) = inPs ps d ∧ ∀ y ∈ us, EqAt X.A.in1 s y v (tells (ValP s.heap) (fun z => isP z d) y) := by
    refine ⟨any_tells (R := ValP s.heap) (fun y a b => valP_one) (valsP I nk r), fun y hy => ?_⟩
    obtain ⟨z, hz⟩ := each_get (valsP I nk r) hy
    rw [tells_is hz fun b hb => by rw [valP_one hz hb]]
    obtain ⟨b, k1, k2, rfl, hb⟩ := hz
    exact eq_pair I hx rx (by show X.A.units + 1 + 1 < cLine; omega) hb
  rcases hq with hq | hq
  · obtain ⟨its, r, pl, _⟩ := I.list hq
    obtain ⟨e1, e2⟩ := each r
    refine in_listAt (tells (ValP s.heap) fun z => isP z d) pl.isList (fun y hy => e2 y (by simpa using hy)) ⟨.bl _, H, I, rfl, ?_⟩
    rw [show its.toArray.any (tells (ValP s.heap) fun z => isP z d) = its.any (tells (ValP s.heap) fun z => isP z d) by simp, e1]
    exact q
  · obtain ⟨its, r, pl, _⟩ := I.tuple hq
    obtain ⟨e1, e2⟩ := each r
    refine in_tupleAt (tells (ValP s.heap) fun z => isP z d) pl (fun y hy => e2 y (by simpa using hy)) ⟨.bl _, H, I, rfl, ?_⟩
    rw [show its.toArray.any (tells (ValP s.heap) fun z => isP z d) = its.any (tells (ValP s.heap) fun z => isP z d) by simp, e1]
    exact q
theorem op_notInQP (hu : X.A.units + 64 < cLine) : OpR X (compareOp .NotIn) (rInQP X.K true) := by
  intro pins s σ H x y v u Q I rx ry h
  obtain ⟨fz, t, p, xs, ps, d, rfl, hq, nk, hx, q⟩ := h
  cases ry
  have each {us : List Value} (r : Vals xs us) : us.any (tells (ValP s.heap) fun z => isP z d) = inPs ps d ∧ ∀ y ∈ us, EqAt X.A.in1 s y v (tells (ValP s.heap) (fun z => isP z d) y) := by
    refine ⟨any_tells (R := ValP s.heap) (fun y a b => valP_one) (valsP I nk r), fun y hy => ?_⟩
    obtain ⟨z, hz⟩ := each_get (valsP I nk r) hy
    rw [tells_is hz fun b hb => by rw [valP_one hz hb]]
    obtain ⟨b, k1, k2, rfl, hb⟩ := hz
    exact eq_pair I hx rx (by show X.A.units + 1 + 1 < cLine; omega) hb
  rcases hq with hq | hq
  · obtain ⟨its, r, pl, _⟩ := I.list hq
    obtain ⟨e1, e2⟩ := each r
    refine notIn_listAt (tells (ValP s.heap) fun z => isP z d) pl.isList (fun y hy => e2 y (by simpa using hy)) ⟨.bl _, H, I, rfl, ?_⟩
    rw [show its.toArray.any (tells (ValP s.heap) fun z => isP z d) = its.any (tells (ValP s.heap) fun z => isP z d) by simp, e1]
    exact q
  · obtain ⟨its, r, pl, _⟩ := I.tuple hq
    obtain ⟨e1, e2⟩ := each r
    refine notIn_tupleAt (tells (ValP s.heap) fun z => isP z d) pl (fun y hy => e2 y (by simpa using hy)) ⟨.bl _, H, I, rfl, ?_⟩
    rw [show its.toArray.any (tells (ValP s.heap) fun z => isP z d) = its.any (tells (ValP s.heap) fun z => isP z d) by simp, e1]
    exact q
end
end My

set_option Elab.async false
set_option linter.all false
set_option maxRecDepth 100000
set_option maxHeartbeats 2000000
/-! t == (), t != (): a tuple of any things against the tuple of none. -/
namespace My
open PySem PySem.Spec PyProof.Rows L2 PySem.SeqAt
def rEqTE (K : PySem.W.Frag) (f : Bool → Bool) : R2 := fun x y H Q => ∃ (p q : Addr) (xs : List V), x = .ref p ∧ y = .ref q ∧ SqT K H p xs ∧ SqT K H q [] ∧ Q (.bl (f xs.isEmpty)) H
section
variable {X : Cx}
theorem op_eqTE (hu : X.A.units + 1 < cLine) : OpR X (compareOp .Eq) (rEqTE X.K fun b => b) := by
  intro pins s σ H x y v u Q I rx ry h
  obtain ⟨p, q, xs, rfl, rfl, hp, hq, h⟩ := h
  cases (show v = Value.ref p from rx)
  cases (show u = Value.ref q from ry)
  obtain ⟨us, r1, p1, _⟩ := I.tuple hp
  obtain ⟨ws, r2, p2, _⟩ := I.tuple hq
  cases r2
  have e := RcAt.tuples (A := X.A) (e := fun _ => true) p1 p2 (by omega) (fun j _ h2 => absurd h2 (Nat.not_lt_zero j)) X.prog X.w
  cases r1 with
  | nil => exact e _ _ ⟨.bl true, H, I, rfl, h⟩
  | cons _ _ => exact e _ _ ⟨.bl false, H, I, by simp; rfl, h⟩
theorem op_neTE (hu : X.A.units + 1 < cLine) : OpR X (compareOp .NotEq) (rEqTE X.K fun b => !b) := by
  intro pins s σ H x y v u Q I rx ry h
  obtain ⟨p, q, xs, rfl, rfl, hp, hq, h⟩ := h
  cases (show v = Value.ref p from rx)
  cases (show u = Value.ref q from ry)
  obtain ⟨us, r1, p1, _⟩ := I.tuple hp
  obtain ⟨ws, r2, p2, _⟩ := I.tuple hq
  cases r2
  have e := RcNeAt.tuples (A := X.A) (e := fun _ => true) p1 p2 (by omega) (fun j _ h2 => absurd h2 (Nat.not_lt_zero j)) X.prog X.w
  cases r1 with
  | nil => exact e _ _ ⟨.bl false, H, I, rfl, h⟩
  | cons _ _ => exact e _ _ ⟨.bl true, H, I, by simp; rfl, h⟩
end
end My

set_option Elab.async false
set_option linter.all false
set_option maxRecDepth 100000
set_option maxHeartbeats 2000000
/-! a thing of any kind == a text, != a text. -/
namespace My
open PySem PySem.Spec PyProof.Rows L2 PySem.SeqAt
theorem str_ne_declines_dict (b : Str) (u : Tok) (l : Addr) (o : Obj) (es : Array DictEntry) (n : Nat) (hd : o.data = .dict es n) :
    Meets (Builtin.«str.__ne__» ⟨[.str b u, .ref l], []⟩) (fun _ R s => s.heap.get? l = some o ∧ R (.ok (.ret .notImplemented)) s) := by
  obtain ⟨cls, dd, data, sl⟩ := o
  simp only at hd
  subst hd
  refine .of_wp fun prog w A R s h => ?_
  obtain ⟨hp, g, d, tk, os⟩ := s
  obtain ⟨hl, h⟩ := h
  wp_walk using wpAny_loadPart' hl, wpAny_load hl
  exact ⟨_, rfl, h⟩
theorem dict_ne_declines_str (b : Str) (u : Tok) (l : Addr) (o : Obj) (es : Array DictEntry) (n : Nat) (hc : o.cls = .type "dict") (hd : o.data = .dict es n) :
    Meets (Builtin.«dict.__ne__» ⟨[.ref l, .str b u], []⟩) (fun _ R s => s.heap.get? l = some o ∧ R (.ok (.ret .notImplemented)) s) := by
  obtain ⟨cls, dd, data, sl⟩ := o
  simp only at hd hc
  subst hd hc
  refine .of_wp fun prog w A R s h => ?_
  obtain ⟨hp, g, d, tk, os⟩ := s
  obtain ⟨hl, h⟩ := h
  wp_walk using wpAny_loadPart' hl, wpAny_load hl
  refine wpAny_of_eq (show isSubtype (.type "str") (.type "dict") = pure false by rw [isSubtype_type]; kernel_rfl) ?_
  rw [if_pos (by decide)]
  exact wpAny_bind (wpAny_rule (wpAny_pure ⟨_, rfl, h⟩))
section
variable {A : Around} {s : Shared}
theorem rc_dict_str {l : Addr} {o : Obj} {es : Array DictEntry} {n : Nat} (b : Str) (u : Tok) (ho : s.heap.get? l = some o) (hc : o.cls = .type "dict") (hd : o.data = .dict es n) (hu : A.units < cLine) : RcAt A s (.ref l) (.str b u) false := fun prog w E Q h =>
  rc_eq_decline_or (k := false) ⟨_, ho, hc⟩ (typeIs_str s b u) (by decide) (show isSubtype (.type "str") (.type "dict") = pure false by rw [isSubtype_type]; kernel_rfl) F.slot_dict_eq F.slot_str_eq_refl
    (fun _ hq => call_meets F.slot_dict_eq ⟨_, ho, hc⟩ F.entry_dict_eq (F.args_dict_eq_2 _ _) (dict_declines_str b u l o es n hc hd) ⟨ho, hq⟩)
    (fun _ hq => call_meets F.slot_str_eq_refl (typeIs_str s b u) F.entry_str_eq (F.args_str_eq_2 _ _) (str_declines_dict b u l o es n hd) ⟨ho, hq⟩)
    (fun _ hq => wpAny_of_eq (rfl : isSame (.ref l) (.str b u) = pure false) hq) (.inr hu) h
theorem ne_dict_str {l : Addr} {o : Obj} {es : Array DictEntry} {n : Nat} (b : Str) (u : Tok) (ho : s.heap.get? l = some o) (hc : o.cls = .type "dict") (hd : o.data = .dict es n) (hu : A.units < cLine) : RcNeAt A s (.ref l) (.str b u) true := fun prog w E Q h =>
  rc_ne_decline_or (k := false) ⟨_, ho, hc⟩ (typeIs_str s b u) (by decide) (show isSubtype (.type "str") (.type "dict") = pure false by rw [isSubtype_type]; kernel_rfl) F.slot_dict_ne F.slot_str_ne_refl
    (fun _ hq => call_meets F.slot_dict_ne ⟨_, ho, hc⟩ F.entry_dict_ne (F.args_dict_ne_2 _ _) (dict_ne_declines_str b u l o es n hc hd) ⟨ho, hq⟩)
    (fun _ hq => call_meets F.slot_str_ne_refl (typeIs_str s b u) F.entry_str_ne (F.args_str_ne_2 _ _) (str_ne_declines_dict b u l o es n hd) ⟨ho, hq⟩)
    (fun _ hq => wpAny_of_eq (rfl : isSame (.ref l) (.str b u) = pure false) hq) (.inr hu) h
theorem ne_list_str {l : Addr} {items : Array Value} (b : Str) (u : Tok) (hl : s.heap.IsList l items) (hu : A.units < cLine) : RcNeAt A s (.ref l) (.str b u) true := fun prog w E Q h => by
  obtain ⟨⟨cls, dd, data, sl⟩, ho, hc, n, hd⟩ := id hl
  simp only at hc hd
  subst hc hd
  exact rc_ne_decline_or (k := false) ⟨_, ho, rfl⟩ (typeIs_str s b u) (by decide) F.sub_str_list F.slot_list_ne F.slot_str_ne_refl
    (fun _ hq => call_meets F.slot_list_ne ⟨_, ho, rfl⟩ F.entry_list_ne (F.args_list_ne_2 _ _) (list_ne_declines_str l items n dd sl b u) ⟨ho, hq⟩)
    (fun _ hq => call_meets F.slot_str_ne_refl (typeIs_str s b u) F.entry_str_ne (F.args_str_ne_2 _ _) (str_ne_declines_seq_str b u l (.type "list") items n dd sl) ⟨ho, hq⟩)
    (fun _ hq => wpAny_of_eq (rfl : isSame (.ref l) (.str b u) = pure false) hq) (.inr hu) h
theorem ne_tuple_str {l : Addr} {items : Array Value} (b : Str) (u : Tok) (hl : s.heap.IsTuple l items) (hu : A.units < cLine) : RcNeAt A s (.ref l) (.str b u) true := fun prog w E Q h => by
  obtain ⟨⟨cls, dd, data, sl⟩, ho, hc, n, hd⟩ := id hl
  simp only at hc hd
  subst hc hd
  exact rc_ne_decline_or (k := false) ⟨_, ho, rfl⟩ (typeIs_str s b u) (by decide) F.sub_str_tuple F.slot_tuple_ne F.slot_str_ne_refl
    (fun _ hq => call_meets F.slot_tuple_ne ⟨_, ho, rfl⟩ F.entry_tuple_ne (F.args_tuple_ne_2 _ _) (tuple_ne_declines_str l items n dd sl b u) ⟨ho, hq⟩)
    (fun _ hq => call_meets F.slot_str_ne_refl (typeIs_str s b u) F.entry_str_ne (F.args_str_ne_2 _ _) (str_ne_declines_seq_str b u l (.type "tuple") items n dd sl) ⟨ho, hq⟩)
    (fun _ hq => wpAny_of_eq (rfl : isSame (.ref l) (.str b u) = pure false) hq) (.inr hu) h
end
section
variable {X : Cx} {pins : List (Addr × Obj)} {σ : L2.St} {H : Hp} {s : Shared} {fz : Bool} {t : Addr} {A : Around}
theorem beq_flip (y z : Str) : (y == z) = isT z (.str y) := by
  show (y == z) = (z == y)
  rw [Bool.eq_iff_iff, beq_iff_eq, beq_iff_eq]
  exact eq_comm
theorem rc_thing_text {x : V} {d : PyData} {v : Value} (I : Inv X pins σ H s) (h : Dq fz t H x d) (r : RelV x v) (hu : A.units < cLine) (z : Str) (k : Tok) : RcAt A s v (.str z k) (isT z d) := by
  cases h with
  | non => cases r; exact RcAt.none_str z k
  | bl b => cases r; exact RcAt.bool_str b z k
  | int i => obtain ⟨u, rfl⟩ := r; exact RcAt.int_str i u z k
  | str y =>
    obtain ⟨u, rfl⟩ := r
    have e := RcAt.str_str (A := A) (s := s) y u z k
    rw [beq_flip] at e
    exact e
  | lst n e h =>
    cases r
    obtain ⟨us, rv, pl, _⟩ := I.list (.inl (.inl e))
    exact RcAt.list_str z k pl.isList hu
  | tup n e h =>
    cases r
    obtain ⟨us, p, _⟩ := dq_isTuple I (.inl (.inl e))
    exact RcAt.tuple_str z k p hu
  | frz fn n e h =>
    cases r
    obtain ⟨us, p, _⟩ := dq_isTuple I (.inl (.inr ⟨_, e⟩))
    exact RcAt.tuple_str z k p hu
  | dct n e =>
    cases r
    obtain ⟨o, m, h1, h2, h3, _⟩ := dq_dict I e
    exact rc_dict_str z k h1 h2 h3 hu
theorem ne_thing_text {x : V} {d : PyData} {v : Value} (I : Inv X pins σ H s) (h : Dq fz t H x d) (r : RelV x v) (hu : A.units < cLine) (z : Str) (k : Tok) : RcNeAt A s v (.str z k) (!isT z d) := by
  cases h with
  | non => cases r; exact RcNeAt.none_str z k
  | bl b => cases r; exact RcNeAt.bool_str b z k
  | int i => obtain ⟨u, rfl⟩ := r; exact RcNeAt.int_str i u z k
  | str y =>
    obtain ⟨u, rfl⟩ := r
    have e := RcNeAt.str_str (A := A) (s := s) y u z k
    rw [beq_flip] at e
    exact e
  | lst n e h =>
    cases r
    obtain ⟨us, rv, pl, _⟩ := I.list (.inl (.inl e))
    exact ne_list_str z k pl.isList hu
  | tup n e h =>
    cases r
    obtain ⟨us, p, _⟩ := dq_isTuple I (.inl (.inl e))
    exact ne_tuple_str z k p hu
  | frz fn n e h =>
    cases r
    obtain ⟨us, p, _⟩ := dq_isTuple I (.inl (.inr ⟨_, e⟩))
    exact ne_tuple_str z k p hu
  | dct n e =>
    cases r
    obtain ⟨o, m, h1, h2, h3, _⟩ := dq_dict I e
    exact ne_dict_str z k h1 h2 h3 hu
end
def rEqQT (f : Bool → Bool) : R2 := fun x y H Q => ∃ (fz : Bool) (t : Addr) (z : Str) (d : PyData), y = .str z ∧ Dq fz t H x d ∧ Q (.bl (f (isT z d))) H
section
variable {X : Cx}
theorem op_eqQT (hu : X.A.units + 64 < cLine) : OpR X (compareOp .Eq) (rEqQT fun b => b) := by
  intro pins s σ H x y v u Q I rx ry h
  obtain ⟨fz, t, z, d, rfl, dq, h⟩ := h
  obtain ⟨k, rfl⟩ : ∃ k, u = Value.str z k := ry
  exact rc_thing_text (A := X.A) I dq rx (by omega) z k X.prog X.w _ _ ⟨.bl (isT z d), H, I, rfl, h⟩
theorem op_neQT (hu : X.A.units + 64 < cLine) : OpR X (compareOp .NotEq) (rEqQT fun b => !b) := by
  intro pins s σ H x y v u Q I rx ry h
  obtain ⟨fz, t, z, d, rfl, dq, h⟩ := h
  obtain ⟨k, rfl⟩ : ∃ k, u = Value.str z k := ry
  exact ne_thing_text (A := X.A) I dq rx (by omega) z k X.prog X.w _ _ ⟨.bl (!isT z d), H, I, rfl, h⟩
end
end My

set_option Elab.async false
set_option linter.all false
set_option maxRecDepth 100000
set_option maxHeartbeats 2000000
/-! a pair of texts != another one. -/
namespace My
open PySem PySem.Spec PyProof.Rows L2 PySem.SeqAt
def rEqP (K : PySem.W.Frag) (f : Bool → Bool) : R2 := fun x y H Q => ∃ (a b : Addr) (p q : Str × Str), x = .ref a ∧ y = .ref b ∧ SqT K H a [.str p.1, .str p.2] ∧ SqT K H b [.str q.1, .str q.2] ∧ Q (.bl (f (decide (p = q)))) H
section
variable {X : Cx}
theorem two_vals {u v : Str} {us : List Value} (h : Vals [.str u, .str v] us) : ∃ k l, us = [.str u k, .str v l] := by
  cases h with
  | cons r1 h =>
    cases h with
    | cons r2 h =>
      cases h
      obtain ⟨k, rfl⟩ := r1
      obtain ⟨l, rfl⟩ := r2
      exact ⟨k, l, rfl⟩
theorem op_neP (hu : X.A.units + 64 < cLine) : OpR X (compareOp .NotEq) (rEqP X.K fun b => !b) := by
  intro pins s σ H x y v u Q I rx ry h
  obtain ⟨a, b, p, q, rfl, rfl, ha, hb, h⟩ := h
  cases (show v = Value.ref a from rx)
  cases (show u = Value.ref b from ry)
  obtain ⟨us, r1, p1, _⟩ := I.tuple ha
  obtain ⟨ws, r2, p2, _⟩ := I.tuple hb
  obtain ⟨k1, l1, rfl⟩ := two_vals r1
  obtain ⟨k2, l2, rfl⟩ := two_vals r2
  have e := RcNeAt.tuples (A := X.A) (e := fun j => if j = 0 then p.1 == q.1 else p.2 == q.2) p1 p2 (by omega) (fun j h1 h2 => by
    have h1 : j < 2 := h1
    match j, h1 with
    | 0, _ => exact EqAt.str_str p.1 k1 q.1 k2
    | 1, _ => exact EqAt.str_str p.2 l1 q.2 l2) X.prog X.w
  have ev : ((List.range (min 2 2)).all (fun j => if j = 0 then p.1 == q.1 else p.2 == q.2) && (2 == 2)) = decide (p = q) := by
    rw [Bool.eq_iff_iff]
    simp only [Nat.min_self, List.range_succ, List.range_zero, List.nil_append, List.all_append, List.all_cons, List.all_nil, Bool.and_true, if_pos, beq_self_eq_true, Bool.and_eq_true, decide_eq_true_eq, beq_iff_eq]
    constructor
    · rintro ⟨e1, e2⟩
      exact Prod.ext e1 (by simpa using e2)
    · rintro rfl
      exact ⟨rfl, by simp⟩
  have ev2 : (!((List.range (min ([Value.str p.1 k1, Value.str p.2 l1].toArray.size) ([Value.str q.1 k2, Value.str q.2 l2].toArray.size))).all (fun j => if j = 0 then p.1 == q.1 else p.2 == q.2) && [Value.str p.1 k1, Value.str p.2 l1].toArray.size == [Value.str q.1 k2, Value.str q.2 l2].toArray.size)) = !decide (p = q) := congrArg (!·) ev
  rw [ev2] at e
  exact e _ _ ⟨.bl (!decide (p = q)), H, I, rfl, h⟩
end
end My

set_option Elab.async false
set_option linter.all false
set_option maxRecDepth 100000
set_option maxHeartbeats 2000000
/-! a pair of texts == another one. -/
namespace My
open PySem PySem.Spec PyProof.Rows L2 PySem.SeqAt
section
variable {X : Cx}
theorem op_eqP (hu : X.A.units + 64 < cLine) : OpR X (compareOp .Eq) (rEqP X.K fun b => b) := by
  intro pins s σ H x y v u Q I rx ry h
  obtain ⟨a, b, p, q, rfl, rfl, ha, hb, h⟩ := h
  cases (show v = Value.ref a from rx)
  cases (show u = Value.ref b from ry)
  obtain ⟨us, r1, p1, _⟩ := I.tuple ha
  obtain ⟨ws, r2, p2, _⟩ := I.tuple hb
  obtain ⟨k1, l1, rfl⟩ := two_vals r1
  obtain ⟨k2, l2, rfl⟩ := two_vals r2
  have e := RcAt.tuples (A := X.A) (e := fun j => if j = 0 then p.1 == q.1 else p.2 == q.2) p1 p2 (by omega) (fun j h1 h2 => by
    have h1 : j < 2 := h1
    match j, h1 with
    | 0, _ => exact EqAt.str_str p.1 k1 q.1 k2
    | 1, _ => exact EqAt.str_str p.2 l1 q.2 l2) X.prog X.w
  have ev : ((List.range (min 2 2)).all (fun j => if j = 0 then p.1 == q.1 else p.2 == q.2) && (2 == 2)) = decide (p = q) := by
    rw [Bool.eq_iff_iff]
    simp only [Nat.min_self, List.range_succ, List.range_zero, List.nil_append, List.all_append, List.all_cons, List.all_nil, Bool.and_true, if_pos, beq_self_eq_true, Bool.and_eq_true, decide_eq_true_eq, beq_iff_eq]
    constructor
    · rintro ⟨e1, e2⟩
      exact Prod.ext e1 (by simpa using e2)
    · rintro rfl
      exact ⟨rfl, by simp⟩
  have ev2 : ((List.range (min ([Value.str p.1 k1, Value.str p.2 l1].toArray.size) ([Value.str q.1 k2, Value.str q.2 l2].toArray.size))).all (fun j => if j = 0 then p.1 == q.1 else p.2 == q.2) && [Value.str p.1 k1, Value.str p.2 l1].toArray.size == [Value.str q.1 k2, Value.str q.2 l2].toArray.size) = decide (p = q) := ev
  rw [ev2] at e
  exact e _ _ ⟨.bl (decide (p = q)), H, I, rfl, h⟩
end
end My

set_option Elab.async false
set_option linter.all false
set_option maxRecDepth 100000
set_option maxHeartbeats 2000000
/-! What a set asks of nested tuples: that none of a class of the program's own lies in them, and how their hash is made. -/
namespace My
open PySem PySem.Spec PyProof.Rows L2 PySem.SeqAt
section
variable {P : Program} {w : World} {A : Around} {E : Value → Shared → Prop} {s : Shared}
/-- no object of an own class within -/
def NoCls (P : Program) (w : World) (n : Nat) (s : Shared) (v : Value) : Prop := ∀ (A : Around) (E : Value → Shared → Prop) (Q : Bool → Shared → Prop), Q false s → wpAny (model P w) A (ofAClassStatement n v) Q E s
theorem NoCls.tuple {n : Nat} {a : Addr} {ob : Obj} {vs : Array Value} {m : Nat} (g1 : s.heap.get? a = some ob) (g2 : ob.cls = .type "tuple") (g3 : ob.data = .seq vs m) (al : ∀ v ∈ vs.toList, NoCls P w n s v) : NoCls P w (n + 1) s (.ref a) := by
  intro A E Q q
  unfold ofAClassStatement
  refine wpAny_bind (wpAny_typeOf (T := "tuple") ⟨ob, g1, g2⟩ ?_)
  dsimp only
  rw [if_pos (by decide : (("tuple" : String) == "tuple") = true)]
  refine wpAny_bind (wpAny_pure ?_)
  rw [if_neg (by decide : ¬ (!true) = true)]
  refine wpAny_bind (wpAny_seqItems g1 g3 ?_)
  dsimp only
  refine wpAny_bind (?_ : wpAny _ _ (forIn vs _ _) _ _ s)
  rw [← Array.forIn_toList]
  refine wpAny_forIn_list _ (fun left got now => got.1 = none ∧ now = s ∧ ∀ v ∈ left, NoCls P w n s v) _ (fun v left got now => ?_) (fun got now => ?_) _ _ ⟨rfl, rfl, al⟩
  · rintro ⟨_, rfl, all⟩
    refine wpAny_bind (all v (.head _) _ _ _ ?_)
    rw [if_neg Bool.false_ne_true]
    exact wpAny_pure ⟨rfl, rfl, fun u hu => all u (.tail _ hu)⟩
  · obtain ⟨g, h⟩ := got
    rintro ⟨rfl, rfl, _⟩
    exact wpAny_pure q
mutual
theorem noCls : ∀ (k : NestedKey) (v : Value) (n : Nat) (s : Shared), NestedIs s.heap k v → k.depth ≤ n → NoCls P w n s v
  | .none, _, n, s, x, _ => by cases x; intro A E Q q; cases n <;> exact wpAny_pure q
  | .num _, _, n, s, x, _ => by cases x <;> (intro A E Q q; cases n <;> exact wpAny_pure q)
  | .text _, _, n, s, x, _ => by cases x; intro A E Q q; cases n <;> exact wpAny_pure q
  | .tup ks, _, n, s, x, d => by
    cases x with
    | tup g1 g2 g3 al =>
      rw [NestedKey.depth] at d
      cases n with
      | zero => omega
      | succ n => exact .tuple g1 g2 g3 (noClsAll ks _ n s al (by omega))
theorem noClsAll : ∀ (ks : List NestedKey) (vs : List Value) (n : Nat) (s : Shared), NestedAll s.heap ks vs → NestedKey.depthAll ks ≤ n → ∀ v ∈ vs, NoCls P w n s v
  | [], _, n, s, x, _, v, hv => by cases x; cases hv
  | k :: ks, _, n, s, x, d, v, hv => by
    cases x with
    | cons x1 x2 =>
      rw [NestedKey.depthAll] at d
      rcases List.mem_cons.mp hv with e | hv
      · rw [e]; exact noCls k _ n s x1 (by omega)
      · exact noClsAll ks _ n s x2 (by omega) v hv
end
/-- whether the hash is by value is told, whatever the answer -/
def HashTold (P : Program) (w : World) (n : Nat) (s : Shared) (v : Value) : Prop := ∀ (A : Around) (E : Value → Shared → Prop) (Q : Bool → Shared → Prop), (∀ b, Q b s) → wpAny (model P w) A (hashByValue n v) Q E s
theorem HashTold.tuple {n : Nat} {a : Addr} {ob : Obj} {vs : Array Value} {m : Nat} (g1 : s.heap.get? a = some ob) (g2 : ob.cls = .type "tuple") (g3 : ob.data = .seq vs m) (al : ∀ v ∈ vs.toList, HashTold P w n s v) : HashTold P w (n + 1) s (.ref a) := by
  intro A E Q q
  unfold hashByValue
  refine wpAny_bind (wpAny_specialOf (T := "tuple") ⟨ob, g1, g2⟩ F.slot_tuple_hash.lookup ?_)
  refine (?_ : wpAny _ _ (seqItems? (.ref a) >>= _) _ _ s)
  refine wpAny_bind (wpAny_seqItems g1 g3 ?_)
  refine wpAny_bind (?_ : wpAny _ _ (forIn vs _ _) _ _ s)
  rw [← Array.forIn_toList]
  refine wpAny_forIn_list _ (fun left got now => got.1 = none ∧ now = s ∧ ∀ v ∈ left, HashTold P w n s v) _ (fun v left got now => ?_) (fun got now => ?_) _ _ ⟨rfl, rfl, al⟩
  · rintro ⟨_, rfl, all⟩
    refine wpAny_bind (all v (.head _) _ _ _ fun b => ?_)
    cases b with
    | false =>
      rw [if_pos (by decide : (!false) = true)]
      exact wpAny_pure (wpAny_pure (q false))
    | true =>
      rw [if_neg (by decide : ¬ (!true) = true)]
      exact wpAny_pure ⟨rfl, rfl, fun u hu => all u (.tail _ hu)⟩
  · obtain ⟨g, h⟩ := got
    rintro ⟨rfl, rfl, _⟩
    exact wpAny_pure (q true)
mutual
theorem hashTold : ∀ (k : NestedKey) (v : Value) (n : Nat) (s : Shared), NestedIs s.heap k v → k.depth ≤ n → HashTold P w n s v
  | .none, _, n, s, x, _ => by cases x; intro A E Q q; cases n <;> exact wpAny_pure (q _)
  | .num _, _, n, s, x, _ => by cases x <;> (intro A E Q q; cases n <;> exact wpAny_pure (q _))
  | .text _, _, n, s, x, _ => by cases x; intro A E Q q; cases n <;> exact wpAny_pure (q _)
  | .tup ks, _, n, s, x, d => by
    cases x with
    | tup g1 g2 g3 al =>
      rw [NestedKey.depth] at d
      cases n with
      | zero => omega
      | succ n => exact .tuple g1 g2 g3 (hashToldAll ks _ n s al (by omega))
theorem hashToldAll : ∀ (ks : List NestedKey) (vs : List Value) (n : Nat) (s : Shared), NestedAll s.heap ks vs → NestedKey.depthAll ks ≤ n → ∀ v ∈ vs, HashTold P w n s v
  | [], _, n, s, x, _, v, hv => by cases x; cases hv
  | k :: ks, _, n, s, x, d, v, hv => by
    cases x with
    | cons x1 x2 =>
      rw [NestedKey.depthAll] at d
      rcases List.mem_cons.mp hv with e | hv
      · rw [e]; exact hashTold k _ n s x1 (by omega)
      · exact hashToldAll ks _ n s x2 (by omega) v hv
end
end
end My

set_option Elab.async false
set_option linter.all false
set_option maxRecDepth 100000
set_option maxHeartbeats 4000000
/-! Sets of nested tuples: the search and the adding. -/
namespace My
open PySem PySem.Spec PyProof.Rows L2 PySem.SeqAt
def KeyAt (h : Heap) (k : NestedKey) (a : Addr) : Prop := NestedIs h k (.ref a) ∧ k.depth ≤ 8
theorem KeyAt.stay {h h' : Heap} {k : NestedKey} {a : Addr} (x : KeyAt h k a) (g : ∀ b o vs n, h.get? b = some o → o.data = .seq vs n → h'.get? b = some o) : KeyAt h' k a := ⟨NestedIs.at g _ _ x.1, x.2⟩
abbrev Ent := Addr × NestedKey
/-- what is kept of an entry -/
def kept (w : World) (p : Ent) : Int × Value := (p.2.hash w, .ref p.1)
def hsh (w : World) (p : Ent) : Int := p.2.hash w
/-- the state of a search behind c steps -/
def stp (t : SetTable) (h : Int) (c : Nat) : SetTable.Probe := nth t.mask (runAt t.mask (SetTable.bits h % (t.mask + 1)) (SetTable.bits h)) c
theorem stp_j (t : SetTable) (h : Int) (c : Nat) : (stp t h c).j = way t.mask h c := rfl
theorem stp_add (t : SetTable) (h : Int) (c d : Nat) : nth t.mask (stp t h c) d = stp t h (c + d) := (nth_add t.mask c _ d).symm
theorem nth_clean (m : Nat) : ∀ (c : Nat) (p : SetTable.Probe), p.dummy = none → (nth m p c).dummy = none
  | 0, _, e => e
  | c + 1, p, e => nth_clean m c (adv m p) (by unfold adv; split <;> exact e)
theorem stp_clean (t : SetTable) (h : Int) (c : Nat) : (stp t h c).dummy = none := nth_clean t.mask c _ rfl
structure SetN (w : World) (h : Heap) (a : Addr) (M : List Ent) (es : Array (Int × Value)) (ep : Nat) (t : SetTable) : Prop where
  ob : ∃ o, h.get? a = some o ∧ o.ExactSet ∧ o.data = .set es ep t
  rows : es.toList = M.map (kept w)
  tab : TabOk t (M.map (hsh w))
  nd : (M.map (·.2)).Nodup
  key : ∀ p ∈ M, KeyAt h p.2 p.1
  led : w.params.followText "set-order" = true ∨ t.led = true
  room : M.length * 5 < t.mask * 3
section
variable {P : Program} {w : World} {A : Around} {E : Value → Shared → Prop} {s : Shared} {a : Addr} {M : List Ent} {es : Array (Int × Value)} {ep : Nat} {t : SetTable}
theorem SetN.size {h : Heap} (Z : SetN w h a M es ep t) : es.size = M.length := by
  rw [← Array.length_toList, Z.rows, List.length_map]
theorem fits_of (e1 : t.place.size = es.size) (e2 : t.dummies = #[]) (l : es.size ≤ t.mask) : t.fits es.size = true := by
  have z : (#[] : Array Nat).size = 0 := rfl
  simp only [SetTable.fits, SetTable.fill, e2, Bool.and_eq_true, beq_iff_eq, decide_eq_true_eq]
  omega
theorem SetN.fits {h : Heap} (Z : SetN w h a M es ep t) : t.fits es.size = true := by
  have l1 := Z.tab.sz
  rw [List.length_map] at l1
  have l2 := Z.size
  have l3 := Z.room
  exact fits_of (by omega) Z.tab.dm (by omega)
theorem SetN.at {h : Heap} (Z : SetN w h a M es ep t) {i : Nat} {p : Ent} (e : M[i]? = some p) : es[i]? = some (kept w p) := by
  rw [← Array.getElem?_toList, Z.rows, List.getElem?_map, e]
  rfl
/-- a search among such tuples shows nothing -/
theorem seenN {k : NestedKey} {b : Addr} (kb : KeyAt s.heap k b) {ys : List Value} (al : ∀ y ∈ ys, ∃ k' c, y = Value.ref c ∧ KeyAt s.heap k' c) {Q : Bool → Shared → Prop} (q : Q false s) : wpAny (model P w) A (searchCouldBeSeen (.ref b) ys) Q E s := by
  unfold searchCouldBeSeen
  refine wpAny_bind (wpAny_forIn_list _ (fun left got now => got.1 = none ∧ now = s ∧ ∀ y ∈ left, ∃ k' c, y = Value.ref c ∧ KeyAt s.heap k' c) _ (fun y left got now => ?_) (fun got now => ?_) _ _ ⟨rfl, rfl, al⟩)
  · rintro ⟨_, rfl, all⟩
    obtain ⟨k', c, rfl, kc⟩ := all y (.head _)
    have nx : ∀ y ∈ left, ∃ k' c, y = Value.ref c ∧ KeyAt now.heap k' c := fun u hu => all u (.tail _ hu)
    dsimp only
    by_cases e : (b == c || (carriedByValue (.ref b) && carriedByValue (.ref c))) = true
    · exact wp_if_pos e (wpAny_pure ⟨rfl, rfl, nx⟩)
    · refine wp_if_neg e (wpAny_bind (quiet_key k _ 8 now kb.1 kb.2 _ _ _ ?_))
      rw [if_neg (by decide : ¬ (!true) = true)]
      refine wpAny_bind (quiet_key k' _ 8 now kc.1 kc.2 _ _ _ ?_)
      rw [if_neg (by decide : ¬ (!true) = true)]
      refine wpAny_bind (noCls k _ 8 now kb.1 kb.2 _ _ _ ?_)
      rw [if_neg Bool.false_ne_true]
      refine wpAny_bind (noCls k' _ 8 now kc.1 kc.2 _ _ _ ?_)
      rw [if_neg Bool.false_ne_true]
      exact wpAny_pure ⟨rfl, rfl, nx⟩
  · obtain ⟨g, h⟩ := got
    rintro ⟨rfl, rfl, _⟩
    exact wpAny_pure q
theorem sameMemN (t : SetTable) : t.sameMemory t.moves t.mask = some true := by
  simp only [SetTable.sameMemory, beq_self_eq_true, if_true]
/-- the search for a tuple, from the c-th step on; K: the first empty slot of its way -/
theorem findN (Z : SetN w s.heap a M es ep t) {x : Addr} {k : NestedKey} (kx : KeyAt s.heap k x) (un : A.units + 8 < cLine) {K : Nat} (Kf : K < 10 * SetTable.turns t.mask) (Ke : way t.mask (k.hash w) K ∉ t.place.toList)
    (Kb : ∀ c, c < K → way t.mask (k.hash w) c ∈ t.place.toList) {Q : SetFound → Shared → Prop} (yes : k ∈ M.map (·.2) → Q (.there none) s) (no : k ∉ M.map (·.2) → Q (.free (way t.mask (k.hash w) K) false) s) :
    ∀ (f c : Nat) (st : Option SetTable.Probe), st.getD (t.probeStart (k.hash w)) = stp t (k.hash w) c → c ≤ K → K < c + f →
      (∀ (i : Nat) (p : Ent), M[i]? = some p → p.2 = k → ∃ d, c ≤ d ∧ d < K ∧ t.place.toList[i]? = some (way t.mask (k.hash w) d)) → wpAny (model P w) A (setSearchFrom a (.ref x) (k.hash w) true f st) Q E s := by
  intro f
  induction f with
  | zero => intro c st _ l1 l2; omega
  | succ f ih =>
    intro c st est l1 l2 ahead
    obtain ⟨o, g1, g2, g3⟩ := Z.ob
    rw [setSearchFrom_succ]
    refine wpAny_bind (wpAny_setState_of g1 g3 Z.fits ?_)
    dsimp only
    refine wp_if_neg (by rw [SetTable.gaveWay, mask_odd Z.tab.mok]; decide) ?_
    have hAt : ∀ (i : Nat) (p : Ent), M[i]? = some p → (fun i => (es[i]?.map (·.1)).getD 0) i = hsh w p := fun i p e => by
      dsimp only
      rw [Z.at e]
      rfl
    rcases go_spec t Z.tab.ris Z.tab.dm (fun i => (es[i]?.map (·.1)).getD 0) (k.hash w) (10 * SetTable.turns t.mask) (K - c) (stp t (k.hash w) c) (stp_clean _ _ _) (by omega)
      (fun d hd => by rw [stp_add]; exact Kb (c + d) (by omega)) (by rw [stp_add, show c + (K - c) = K by omega]; exact Ke) with ⟨d, i, dl, di, dh, dn, dp⟩ | ⟨dn, dp⟩
    · have pr : t.probe (fun i => (es[i]?.map (·.1)).getD 0) (k.hash w) (st.getD (t.probeStart (k.hash w))) = some (.candidate (way t.mask (k.hash w) (c + d)) i (stp t (k.hash w) (c + (d + 1)))) := by
        rw [est, ← stp_j, ← stp_add, ← stp_add]
        exact dp
      rw [pr]
      dsimp only
      rw [stp_add, stp_j] at di
      have il : i < M.length := by
        have a1 := (List.getElem?_eq_some_iff.mp di).1
        have a2 := Z.tab.sz
        rw [List.length_map] at a2
        rw [Array.length_toList] at a1
        omega
      obtain ⟨p, ep⟩ : ∃ p, M[i]? = some p := ⟨_, List.getElem?_eq_getElem il⟩
      have pm := List.mem_of_getElem? ep
      have kp := Z.key p pm
      have go : wpAny (model P w) A (searchRest a (.ref x) (k.hash w) true f es t (way t.mask (k.hash w) (c + d)) i (stp t (k.hash w) (c + (d + 1)))) Q E s := by
        unfold searchRest
        rw [Z.at ep]
        refine wpAny_bind (wpAny_holding ((nestedKind P w).eqBool un kp kx (wpAny_bind (wpAny_setState_of g1 g3 Z.fits ?_))))
        dsimp only
        by_cases e : p.2 = k
        · exact wp_if_pos (by rw [decide_eq_true e]; rfl) (wpAny_pure (yes (List.mem_map.mpr ⟨p, pm, e⟩)))
        · refine wp_if_neg (by rw [decide_eq_false e]; decide) ?_
          have sl : t.slot (way t.mask (k.hash w) (c + d)) = .live i := slot_live Z.tab.ris di
          rw [sameMemN]
          dsimp only
          rw [if_pos rfl, sl]
          dsimp only
          rw [Z.at ep]
          dsimp only [kept]
          refine wpAny_bind (wpAny_isSame_ref_self (wpAny_bind (wpAny_pure ?_)))
          rw [if_pos rfl]
          dsimp only
          refine wp_if_neg (by rw [decide_eq_false e]; decide) (ih (c + (d + 1)) _ rfl (by omega) (by omega) fun i0 p0 h0 e0 => ?_)
          obtain ⟨d0, b1, b2, b3⟩ := ahead i0 p0 h0 e0
          refine ⟨d0, ?_, b2, b3⟩
          rcases Nat.lt_trichotomy d0 (c + d) with z | z | z
          · refine absurd ((hAt i0 p0 h0).trans (congrArg (NestedKey.hash w) e0)) (dn (d0 - c) i0 (by omega) ?_)
            rw [stp_add, stp_j, show c + (d0 - c) = d0 by omega]
            exact b3
          · rw [z] at b3
            have := slot_live Z.tab.ris b3
            rw [sl] at this
            injection this with this
            rw [← this, ep] at h0
            cases h0
            exact absurd e0 e
          · omega
      by_cases ld : t.led = true
      · exact wp_if_neg (by rw [ld]; decide) go
      · refine wp_if_pos (by rw [Bool.eq_false_iff.mpr ld]; rfl) (wpAny_bind (seenN kx (fun y hy => ?_) ?_))
        · obtain ⟨e, he, rfl⟩ := List.mem_map.mp hy
          have he : e ∈ es := by
            have := Array.mem_toList_iff.mp he
            exact (Array.mem_filter.mp this).1
          have he := Array.mem_toList_iff.mpr he
          rw [Z.rows] at he
          obtain ⟨p2, hp2, rfl⟩ := List.mem_map.mp he
          exact ⟨p2.2, p2.1, rfl, Z.key p2 hp2⟩
        · rw [if_neg Bool.false_ne_true]
          exact go
    · have pr : t.probe (fun i => (es[i]?.map (·.1)).getD 0) (k.hash w) (st.getD (t.probeStart (k.hash w))) = some (.empty (way t.mask (k.hash w) K) none) := by
        rw [est, show way t.mask (k.hash w) K = (nth t.mask (stp t (k.hash w) c) (K - c)).j by rw [stp_add, show c + (K - c) = K by omega, stp_j]]
        exact dp
      rw [pr]
      refine wpAny_pure (no fun km => ?_)
      obtain ⟨p0, pm, e0⟩ := List.mem_map.mp km
      obtain ⟨i0, h0⟩ := List.mem_iff_getElem?.mp pm
      obtain ⟨d0, b1, b2, b3⟩ := ahead i0 p0 h0 e0
      refine dn (d0 - c) i0 (by omega) ?_ ((hAt i0 p0 h0).trans (congrArg (NestedKey.hash w) e0))
      rw [stp_add, stp_j, show c + (d0 - c) = d0 by omega]
      exact b3
end
end My

set_option Elab.async false
set_option linter.all false
set_option maxRecDepth 100000
set_option maxHeartbeats 4000000
namespace My
open PySem PySem.Spec PyProof.Rows L2 PySem.SeqAt
section
variable {P : Program} {w : World} {A : Around} {E : Value → Shared → Prop} {s : Shared} {a : Addr} {M : List Ent} {es : Array (Int × Value)} {ep : Nat} {t : SetTable}
theorem lookN (Z : SetN w s.heap a M es ep t) {x : Addr} {k : NestedKey} (kx : KeyAt s.heap k x) (un : A.units + 8 < cLine) {Q : SetFound → Shared → Prop} (yes : k ∈ M.map (·.2) → Q (.there none) s)
    (no : ∀ K, k ∉ M.map (·.2) → way t.mask (k.hash w) K ∉ t.place.toList → (∀ c, c < K → way t.mask (k.hash w) c ∈ t.place.toList) → Q (.free (way t.mask (k.hash w) K) false) s) : wpAny (model P w) A (setSearch a (.ref x) (k.hash w) true) Q E s := by
  have l3 := Z.room
  obtain ⟨K, Kf, Ke, Kb⟩ := Z.tab.first (by rw [List.length_map]; omega) (k.hash w)
  have small : K < 100000 := by
    have : 10 * SetTable.turns t.mask ≤ 1420 := by
      rcases Z.tab.mok with e | e | e <;> rw [e] <;> decide
    omega
  refine findN Z kx un Kf Ke Kb yes (fun n => no K n Ke Kb) 100000 0 none rfl (Nat.zero_le _) (by omega) fun i p e1 e2 => ?_
  have a2 := Z.tab.sz
  rw [List.length_map] at a2
  have il : i < t.place.toList.length := by
    have := (List.getElem?_eq_some_iff.mp e1).1
    rw [Array.length_toList]
    omega
  have ej := List.getElem?_eq_getElem il
  obtain ⟨c, lc, e⟩ := Z.tab.before Ke (i := i) (by rw [List.getElem?_map, e1]; show some (hsh w p) = _; rw [hsh, e2]) ej
  exact ⟨c, Nat.zero_le _, lc, by rw [ej, e]⟩
theorem picks (Me : ∀ (i : Nat) (p : Ent), M[i]? = some p → es[i]? = some (kept w p)) : ∀ l : List Nat, (∀ i ∈ l, i < M.length) →
    l.filterMap (fun i => es[i]?) = (l.filterMap fun i => M[i]?).map (kept w) ∧ (l.filterMap fun i => M[i]?).map (hsh w) = l.map fun i => (es.map (·.1)).getD i 0
  | [], _ => ⟨rfl, rfl⟩
  | i :: l, h => by
    obtain ⟨h1, h2⟩ := picks Me l fun j hj => h j (.tail _ hj)
    obtain ⟨p, ep⟩ : ∃ p, M[i]? = some p := ⟨_, List.getElem?_eq_getElem (h i (.head _))⟩
    have ee := Me i p ep
    rw [List.filterMap_cons_some ee, List.filterMap_cons_some ep, List.map_cons, List.map_cons, List.map_cons, h1, h2]
    refine ⟨rfl, ?_⟩
    congr 1
    rw [Array.getD_eq_getD_getElem?, Array.getElem?_map, ee]
    rfl
theorem range_picks {α : Type} (M : List α) : ∀ n, n ≤ M.length → (List.range n).filterMap (fun i => M[i]?) = M.take n
  | 0, _ => rfl
  | n + 1, h => by
    have e := List.getElem?_eq_getElem (show n < M.length from h)
    rw [List.range_succ, List.filterMap_append, range_picks M n (by omega), List.filterMap_cons_some e, List.filterMap_nil, List.take_add_one, e]
    rfl
/-- all but the set stays -/
theorem KeyAt.but {h h' : Heap} {k : NestedKey} {b : Addr} {o : Obj} (x : KeyAt h k b) (g1 : h.get? a = some o) (g3 : o.data = .set es ep t) (sb : Heap.SameBut a h h') : KeyAt h' k b := x.stay fun c u vs n e d => (sb.2 c fun z => by
  rw [z, g1] at e
  cases e
  rw [g3] at d
  cases d).trans e
/-- the table laid anew -/
theorem relayN {o : Obj} (g1 : s.heap.get? a = some o) (g2 : o.ExactSet) (g3 : o.data = .set es ep t) (rows : es.toList = M.map (kept w)) (ft : t.fits es.size = true) (nd : (M.map (·.2)).Nodup) (key : ∀ p ∈ M, KeyAt s.heap p.2 p.1)
    (led : w.params.followText "set-order" = true ∨ t.led = true) {n N : Nat} (e1 : SetTable.sizeAbove n - 1 = N) (e2 : MaskOk N) (e3 : SetTable.sizeAbove n ≤ 128) (room : M.length * 5 < N * 3) {Q : Unit → Shared → Prop}
    (q : ∀ h' M' es' ep' t', Heap.SameBut a s.heap h' → SetN w h' a M' es' ep' t' → M'.Perm M → Q () { s with heap := h' }) : wpAny (model P w) A (setRelay a n) Q E s := by
  have sz : es.size = M.length := by rw [← Array.length_toList, rows, List.length_map]
  have Me : ∀ (i : Nat) (p : Ent), M[i]? = some p → es[i]? = some (kept w p) := fun i p e => by
    rw [← Array.getElem?_toList, rows, List.getElem?_map, e]
    rfl
  obtain ⟨t', ord, er, pm, tb, em, el, _, _⟩ := relaid_ok t (hs := es.map (·.1)) (wanted := n) e1 e2 (by rw [Array.size_map]; omega)
  rw [Array.size_map, sz] at pm
  obtain ⟨p1, p2⟩ := picks Me ord.toList fun i hi => List.mem_range.mp (pm.mem_iff.mp hi)
  have pM : (ord.toList.filterMap fun i => M[i]?).Perm M := by
    have := pm.filterMap fun i => M[i]?
    rw [range_picks M _ (Nat.le_refl _), List.take_length] at this
    exact this
  rw [← p2] at tb
  have re : (ord.filterMap (es[·]?)).toList = (ord.toList.filterMap fun i => M[i]?).map (kept w) := by
    rw [Array.toList_filterMap]
    exact p1
  generalize ord.toList.filterMap (fun i => M[i]?) = M' at tb pM re
  have s2 : (ord.filterMap (es[·]?)).size = es.size := by rw [← Array.length_toList, re, List.length_map, pM.length_eq, sz]
  rw [setRelay_eq]
  refine wpAny_bind (wpAny_setState_of g1 g3 ft ?_)
  dsimp only
  refine wp_if_neg (by rw [sizeLine_eq]; omega) ?_
  rw [er]
  refine wpAny_bind (wp_if_neg (by rw [s2]; simp) (wpAny_pure ?_))
  refine wpAny_storeSet_of g1 g3 ?_ (by rw [s2, sz, sizeLine_eq]; rcases e2 with z | z | z <;> omega)
  have sb : Heap.SameBut a s.heap (s.heap.update a (Obj.putSet (ord.filterMap (es[·]?)) t')) := Heap.SameBut.update ..
  refine q _ M' _ (ep + 1) t' sb ⟨⟨_, store_at g1 g3, ⟨g2.1, g2.2.1, g2.2.2⟩, rfl⟩, re, tb, (pM.map (·.2)).nodup_iff.mpr nd, fun p hp => (key p (pM.mem_iff.mp hp)).but g1 g3 sb, by rw [el]; exact led, ?_⟩ pM
  rw [pM.length_eq, em]
  exact room
theorem tab_plain {hs : List Int} (T : TabOk t hs) (b : Bool) : TabOk (if b = true then t else { t with plain := false }) hs := by
  cases b
  · exact ⟨T.ris, T.dm, T.sz, T.mok, T.bd, T.reach⟩
  · exact T
theorem pl_mask (b : Bool) : (if b = true then t else { t with plain := false }).mask = t.mask := by cases b <;> rfl
theorem pl_led (b : Bool) : (if b = true then t else { t with plain := false }).led = t.led := by cases b <;> rfl
theorem pl_fill (b : Bool) : (if b = true then t else { t with plain := false }).fill = t.fill := by cases b <;> rfl
theorem put_in (M : List Ent) (p : Nat) (e : Ent) : (M.take p ++ e :: M.drop p).Perm (e :: M) := by
  have h : (M.take p ++ e :: M.drop p).Perm (e :: (M.take p ++ M.drop p)) := List.perm_middle
  rw [List.take_append_drop] at h
  exact h
/-- a tuple is added -/
theorem addN (Z : SetN w s.heap a M es ep t) {x : Addr} {k : NestedKey} (kx : KeyAt s.heap k x) (un : A.units + 8 < cLine) (few : M.length < 76) {Q : Bool → Shared → Prop}
    (q : ∀ b h' M' es' ep' t', Heap.SameBut a s.heap h' → SetN w h' a M' es' ep' t' → (k ∈ M.map (·.2) → M' = M) → (k ∉ M.map (·.2) → M'.Perm ((x, k) :: M)) → Q b { s with heap := h' }) :
    wpAny (model P w) A (setAddHashed a (.ref x) (k.hash w)) Q E s := by
  obtain ⟨o, g1, g2, g3⟩ := Z.ob
  have sz := Z.size
  have l3 := Z.room
  unfold setAddHashed
  refine wpAny_holding ?_
  rw [show (100000 : Nat) = 99999 + 1 from rfl, setAddHashedIn_succ]
  refine wpAny_bind (wpAny_setState_of g1 g3 Z.fits ?_)
  dsimp only
  refine wp_if_neg (by simp [byScan, Value.scannable]) (wpAny_bind (lookN Z kx un (fun km => ?_) fun K kn Ke Kb => ?_))
  · exact wpAny_pure (q false s.heap M es ep t (Heap.SameBut.refl a s.heap) Z (fun _ => rfl) fun z => absurd km z)
  · refine wpAny_bind (wpAny_setState_of g1 g3 Z.fits ?_)
    dsimp only
    obtain ⟨q1, q2, q3, q4, q5, q6, q7, q8, q9⟩ := Z.tab.put Ke Kb
    generalize t.put (way t.mask (k.hash w) K) = pt at q1 q3 q4 q5 q6 q7 q8 q9 ⊢
    obtain ⟨t1, pl⟩ := pt
    dsimp only at q1 q3 q4 q5 q6 q7 q8 q9 ⊢
    subst q1
    have fin : ∀ b : Bool, wpAny (model P w) A (do
        storeSet a (SetTable.insertAt es (SetTable.below t.place (way t.mask (k.hash w) K)) (k.hash w, Value.ref x)) (if b = true then t1 else { t1 with plain := false })
        if (!false && (if b = true then t1 else { t1 with plain := false }).tooFull) = true then do
          setRelay a (SetTable.grown (es.size + 1))
          pure true
        else pure true) Q E s := fun b => by
      have r1 := tab_plain q3 b
      have r2 := (pl_mask (t := t1) b).trans q4
      have r3 := (pl_led (t := t1) b).trans q5
      have r4 := (pl_fill (t := t1) b).trans q9
      generalize (if b = true then t1 else { t1 with plain := false }) = t2 at r1 r2 r3 r4 ⊢
      generalize SetTable.below t.place (way t.mask (k.hash w) K) = pp at q2 r1 ⊢
      have pm := put_in M pp (x, k)
      have ins : (SetTable.insertAt es pp (k.hash w, Value.ref x)).toList = (M.take pp ++ (x, k) :: M.drop pp).map (kept w) := by
        rw [SetTable.toList_insertAt, Z.rows, List.map_append, List.map_cons, List.map_take, List.map_drop]
        rfl
      have r1 : TabOk t2 ((M.take pp ++ (x, k) :: M.drop pp).map (hsh w)) := by
        rw [List.map_append, List.map_cons, List.map_take, List.map_drop]
        exact r1
      generalize M.take pp ++ (x, k) :: M.drop pp = M1 at pm ins r1
      have ln : M1.length = M.length + 1 := pm.length_eq
      have s1 : (SetTable.insertAt es pp (k.hash w, Value.ref x)).size = M.length + 1 := by rw [← Array.length_toList, ins, List.length_map, ln]
      generalize SetTable.insertAt es pp (k.hash w, Value.ref x) = es1 at ins s1 ⊢
      have nd : (M1.map (·.2)).Nodup := by
        refine (pm.map (·.2)).nodup_iff.mpr ?_
        rw [List.map_cons]
        exact List.nodup_cons.mpr ⟨kn, Z.nd⟩
      refine wpAny_bind (wpAny_storeSet_of g1 g3 ?_ (by rw [s1, sizeLine_eq]; omega))
      have sb : Heap.SameBut a s.heap (s.heap.update a (Obj.putSet es1 t2)) := Heap.SameBut.update ..
      have gg := store_at (es' := es1) (t' := t2) g1 g3
      generalize s.heap.update a (Obj.putSet es1 t2) = h1 at sb gg ⊢
      have key : ∀ p ∈ M1, KeyAt h1 p.2 p.1 := fun p hp => by
        rcases List.mem_cons.mp (pm.mem_iff.mp hp) with e | hp
        · rw [e]; exact kx.but g1 g3 sb
        · exact (Z.key p hp).but g1 g3 sb
      have led : w.params.followText "set-order" = true ∨ t2.led = true := by rw [r3]; exact Z.led
      rw [List.length_map] at r4
      have tz := r1.sz
      rw [List.length_map, ln] at tz
      by_cases fu : t2.tooFull = true
      · have fu2 : (M.length + 1) * 5 ≥ t.mask * 3 := by
          unfold SetTable.tooFull at fu
          rw [decide_eq_true_eq, r4, r2] at fu
          exact fu
        refine wp_if_pos (by rw [fu]; rfl) (wpAny_bind ?_)
        rw [sz]
        have ft : t2.fits es1.size = true := fits_of (by omega) r1.dm (by rw [s1, r2]; rcases Z.tab.mok with e | e | e <;> rw [e] at l3 fu2 ⊢ <;> omega)
        have go : ∀ N, SetTable.sizeAbove (SetTable.grown (M.length + 1)) - 1 = N → MaskOk N → SetTable.sizeAbove (SetTable.grown (M.length + 1)) ≤ 128 → (M.length + 1) * 5 < N * 3 →
            wpAny (model P w) A (setRelay a (SetTable.grown (M.length + 1))) (fun _ now => wpAny (model P w) A (pure true) Q E now) E { s with heap := h1 } := fun N n1 n2 n3 n4 =>
          relayN (s := { s with heap := h1 }) gg ⟨g2.1, g2.2.1, g2.2.2⟩ rfl ins ft nd key led n1 n2 n3 (by rw [ln]; exact n4) fun h2 M2 es2 ep2 t3 sb2 Z2 pm2 => wpAny_pure (q true h2 M2 es2 ep2 t3 (sb.trans sb2) Z2 (fun z => absurd z kn) fun _ => pm2.trans pm)
        rcases Z.tab.mok with e | e | e
        · have e2 : M.length = 4 := by rw [e] at l3 fu2; omega
          exact go 31 (by rw [e2, size_20]) (.inr (.inl rfl)) (by rw [e2, size_20]; decide) (by omega)
        · have e2 : M.length = 18 := by rw [e] at l3 fu2; omega
          exact go 127 (by rw [e2, size_76]) (.inr (.inr rfl)) (by rw [e2, size_76]; decide) (by omega)
        · rw [e] at fu2; omega
      · refine wp_if_neg (by rw [Bool.eq_false_iff.mpr fu]; decide) (wpAny_pure (q true h1 M1 es1 (ep + 1) t2 sb ⟨⟨_, gg, ⟨g2.1, g2.2.1, g2.2.2⟩, rfl⟩, ins, r1, nd, key, led, ?_⟩ (fun z => absurd z kn) fun _ => pm))
        unfold SetTable.tooFull at fu
        rw [decide_eq_true_eq, r4] at fu
        rw [ln]
        omega
    by_cases e : t1.plain = true
    · exact wp_if_pos e (wpAny_bind (hashTold k _ 8 s kx.1 kx.2 _ _ _ fun b => fin b))
    · exact wp_if_neg e (wpAny_bind (wpAny_pure (fin true)))
end
end My

set_option Elab.async false
set_option linter.all false
set_option maxRecDepth 100000
set_option maxHeartbeats 4000000
/-! set(xs) of a list, by any word T i h of what the set is behind i items. -/
namespace My
open PySem PySem.Spec PyProof.Rows L2 PySem.SeqAt
section
variable {P : Program} {w : World} {A : Around} {E : Value → Shared → Prop} {s : Shared}
/-- what adding the items asks -/
structure Adds (P : Program) (w : World) (A : Around) (S : Addr) (wr : List Addr) (n : Nat) (Pv : Nat → Value → Prop) (T : Nat → Heap → Prop) : Prop where
  stay : ∀ i h h', T i h → (∀ b o, b ∉ wr → h.get? b = some o → h'.get? b = some o) → T i h'
  add : ∀ (i : Nat) (v : Value) (s : Shared) (Q : Bool → Shared → Prop) (E : Value → Shared → Prop), i < n → Pv i v → T i s.heap → (∀ b h' tk, T (i + 1) h' → s.toks ≤ tk → Heap.SameBut S s.heap h' → Q b { s with heap := h', toks := tk }) → wpAny (model P w) A (setAdd S v) Q E s
theorem updateG {I : Addr} {fp wr : List Addr} {G : Array GenState → Array GenState → Prop} {n : Nat} {Pv : Nat → Value → Prop} {St : Nat → Shared → Prop} {R : Result → Shared → Prop} {S : Addr} {T : Nat → Heap → Prop}
    (W : WalksS P w A.in1 I fp wr G n Pv St) (nf : S ∉ fp) (D : Adds P w A.in1 S wr n Pv T) : ∀ (k i : Nat) (s : Shared), n - i = k → i ≤ n → St i s → T i s.heap → (∀ s', Moved (S :: wr) G s s' → T n s'.heap → R (.ok (.ret .none)) s') →
      codeAny (model P w) A (.builtin "set.update.loop" ⟨[.ref S, .ref I], []⟩) R s := by
  have up : ∀ b ∈ wr, b ∈ S :: wr := fun b hb => .tail _ hb
  intro k
  induction k with
  | zero =>
    intro i s e l st ti q
    obtain rfl : i = n := by omega
    refine codeAny_builtin PyProof.Rows.F.entry_set_update_loop ?_
    rw [Around.under_plainId PyProof.Rows.F.plain_set_update_loop _]
    refine (?_ : wpAny _ A.in1 (pyNext (.ref I) >>= _) _ _ s)
    exact wpAny_bind (W.done s _ _ st fun s' m => wpAny_pure (q s' (m.mono up) (D.stay _ _ _ ti fun b o nb e => m.heap b o nb e)))
  | succ k ih =>
    intro i s e l st ti q
    have lt : i < n := by omega
    refine codeAny_builtin PyProof.Rows.F.entry_set_update_loop ?_
    rw [Around.under_plainId PyProof.Rows.F.plain_set_update_loop _]
    refine (?_ : wpAny _ A.in1 (pyNext (.ref I) >>= _) _ _ s)
    refine wpAny_bind (W.item i s _ _ lt st fun v s1 pv st1 m => ?_)
    refine (?_ : wpAny _ A.in1 (holding [v] (setAdd S v) >>= _) _ _ s1)
    refine wpAny_bind (wpAny_holding (D.add i v s1 _ _ lt pv (D.stay _ _ _ ti fun b o nb e => m.heap b o nb e) fun b h2 tk t2 ltk sb => ?_))
    refine wpAny_pure ⟨plainId_quiet PyProof.Rows.F.plain_set_update_loop _, ih (i + 1) _ (by omega) lt (W.frame _ s1 _ _ st1 ltk fun c hc o e => ?_) t2 fun s3 m3 t3 => ?_⟩
    · rw [sb.2 c (fun z => nf (by rw [← z]; exact hc))]; exact e
    · refine q s3 (Moved.trans W.gtrans ((m.mono up).then_heap ltk fun c o hc e => ?_) m3) t3
      rw [sb.2 c (fun z => hc (by rw [z]; exact .head _))]; exact e
/-- a set made new -/
def freshSet (w : World) : Obj := { cls := .type "set", dict := none, data := .set #[] 0 (.fresh 0 0 (!w.params.followText "set-order")) }
theorem callG {l : Addr} {items : Array Value} {Q : Value → Shared → Prop} {T : Nat → Heap → Prop} (hh : A.handled = none) (hl : s.heap.IsList l items)
    (D : Adds P w A.in1.in1.in1 s.heap.objs.size [s.heap.objs.size + 1] items.size (fun i v => items[i]? = some v) T)
    (t0 : ∀ h : Heap, h.get? s.heap.objs.size = some (freshSet w) → (∀ b o, s.heap.get? b = some o → h.get? b = some o) → T 0 h)
    (q : ∀ (h' : Heap) (tk : Nat), T items.size h' → (∀ b o, s.heap.get? b = some o → h'.get? b = some o) → Q (.ref s.heap.objs.size) { s with heap := h', toks := tk }) :
    wpAny (model P w) A (call (.type "set") [.ref l]) Q E s := by
  obtain ⟨c, tl, f1⟩ := PySem.F.called_set.mro
  have f2 := PySem.F.called_set.made
  have f3 := PySem.F.called_set.sub
  refine wpAny_call (codeAny_of_tree (?_ : wpAny _ _ (callAny (.type "set") _) _ _ _))
  refine wpAny_pure ⟨Code.quiet_builtin _ (by decide +kernel), codeAny_builtin PySem.F.entry_type_call ?_⟩
  rw [Around.under_plain (weight_type_call_type "set" [.ref l] []) rfl]
  have f4 := PySem.F.called_set.notType
  have f5 := PySem.F.called_set.canCreate
  have f6 := F.typeCall_set_1 (.ref l)
  repeat (any_goals (first | assumption | wp_step))
  refine codeAny_mono (code_set_led1 (.ref l) (E := E) (Q₁ := fun v now => v = .ref s.heap.objs.size ∧ now = { s with heap := s.heap.push (freshSet w) }) ⟨rfl, rfl⟩) fun r now hr => ?_
  match r, hr with
  | .error e, hr => exact hr
  | .ok (.ret v), hr =>
    obtain ⟨rfl, rfl⟩ := hr
    have hS : (s.heap.push (freshSet w)).get? s.heap.objs.size = some (freshSet w) := Heap.get?_push_size _ rfl
    have hT : Shared.TypeIs { s with heap := s.heap.push (freshSet w) } (.ref s.heap.objs.size) "set" := ⟨_, hS, rfl⟩
    have f7 := F.called_set.init.lookup
    have f8 := F.called_set.init.bind (.ref s.heap.objs.size)
    repeat (any_goals (first | assumption | wp_step))
    refine codeAny_mono (codeAny_call_builtin (R := wants (fun r s₂ => r = .none ∧ ∃ h' tk, s₂ = { s with heap := h', toks := tk } ∧ T items.size h' ∧ ∀ b o, s.heap.get? b = some o → h'.get? b = some o) E) F.called_set.init.plain F.entry_set_init (check_set_init_1 hT ?_)) fun r₂ s₂ hr₂ => ?_
    · obtain ⟨⟨ocls, odict, odata, oslots⟩, o1, o2, nl, o3⟩ := hl
      simp only at o2 o3
      subst o2 o3
      have o4 : (s.heap.push (freshSet w)).get? l = some { cls := .type "list", dict := odict, data := .seq items nl, slots := oslots } := Heap.get?_push_of_some _ o1
      have f9 := F.sub_list_set
      have f10 := F.sub_list_frozenset
      have f11 : (Value.type "list" == Value.type "dict") = false := by decide
      have hl1 : (s.heap.push (freshSet w)).IsList l items := ⟨_, o4, rfl, nl, rfl⟩
      have lS : l < s.heap.objs.size := Heap.lt_size o1
      have z1 : (s.heap.push (freshSet w)).objs.size = s.heap.objs.size + 1 := Heap.size_push ..
      unfold Builtin.«set.__init__» noKeywords Builtin.Frozenset.updateFrom
      generalize hPI : pyIter = PI
      wp_walk
      subst hPI
      refine wpAny_pyIter_list hl1 (wpAny_bind (wpAny_runValue ?_))
      have ne1 : l ≠ (s.heap.push (freshSet w)).objs.size := by rw [z1]; exact Nat.ne_of_lt (Nat.lt_succ_of_lt lS)
      have D2 := D
      rw [← z1] at D2
      refine updateG ((Walks.list (by simp [hh]) _ l ne1 items).toS) (S := s.heap.objs.size) (by rw [z1]; simp only [List.mem_cons, List.not_mem_nil, or_false, not_or]; exact ⟨Nat.ne_of_lt (Nat.lt_succ_self _), (Nat.ne_of_lt lS).symm⟩) D2 (items.size - 0) 0 _ rfl (Nat.zero_le _) ⟨⟨_, Heap.get?_push_size _ rfl, rfl, rfl⟩, hl1.push _⟩ (t0 _ (Heap.get?_push_of_some _ hS) fun b o e => Heap.get?_push_of_some _ (Heap.get?_push_of_some _ e)) fun s' m t1 => ?_
      obtain ⟨h', g', d', tk', os'⟩ := s'
      have eg : g' = s.gens := m.gens
      have ed : d' = s.drawn := m.drawn
      have eo : os' = s.os := m.os
      subst eg ed eo
      refine wpAny_pure (wpAny_pure ⟨rfl, h', tk', rfl, t1, fun b o e => ?_⟩)
      have lt := Heap.lt_size e
      refine m.heap b o ?_ (Heap.get?_push_of_some _ (Heap.get?_push_of_some _ e))
      rw [z1]
      simp only [List.mem_cons, List.not_mem_nil, or_false, not_or]
      exact ⟨Nat.ne_of_lt lt, Nat.ne_of_lt (Nat.lt_succ_of_lt lt)⟩
    · match r₂, hr₂ with
      | .error e, hr₂ => exact hr₂
      | .ok (.ret r), hr₂ =>
        obtain ⟨rfl, h', tk, rfl, t1, kp⟩ := hr₂
        repeat (any_goals (first | assumption | wp_step))
        exact q _ _ t1 kp
end
end My

set_option Elab.async false
set_option linter.all false
set_option maxRecDepth 100000
set_option maxHeartbeats 4000000
/-! sorted(xs) of tuples whose first places are texts. -/
namespace My
open PySem PySem.Spec PyProof.Rows L2 PySem.SeqAt PySem.W
section
variable {prog : Program} {w : World} {A : Around} {E : Value → Shared → Prop} {s : Shared}
theorem one_ltT {f : Bool} {x y : NestedKey} {a b : Value} {c : Bool} {n : Nat} {Q : Bool → Shared → Prop} (tx : f = true → ∃ z, x = .text z) (p : Ns s.heap x a) (q : Ns s.heap y b) (e : ltK x y = some c) (hd : x.depth ≤ n) (hu : A.units + n < cLine) (hq : Q c s) :
    wpAny (model prog w) A (oneLt' f a b) Q E s := by
  cases f with
  | false => exact one_ltN (fun z => by cases z) p q e hd hu hq
  | true =>
    obtain ⟨z, rfl⟩ := tx rfl
    cases p
    cases q with
    | text z' u =>
      rw [ltK] at e
      cases e
      exact oneLt_str hq
    | _ => simp [ltK] at e
theorem katLexT {fin : Bool} {n : Nat} {Q : Bool → Shared → Prop} {x y : NestedKey} {xs ys : List NestedKey} {a b : Value} {us vs : List Value} {c : Bool} (p : Ns s.heap x a) (ps : NsAll s.heap xs us) (q : Ns s.heap y b) (qs : NsAll s.heap ys vs) (tx : ∃ z, x = .text z)
    (e : ltAll (x :: xs) (y :: ys) = some c) (hd : ∀ z ∈ x :: xs, z.depth ≤ n) (hu : A.units + n < cLine) (hf : fin = decide ((a :: us).length < (b :: vs).length)) (hq : Q c s) : KatLex prog w A true fin Q ((a :: us).zip (b :: vs)) 0 s := by
  rw [List.zip_cons_cons]
  have dx := hd x (.head _)
  refine kat_cons (eqAt_key x y A s _ _ p.is q.is (by omega) prog w _ _ ?_)
  rw [← NestedKey.decide_eq]
  rw [ltAll] at e
  by_cases h : x = y
  · rw [if_pos h] at e
    rw [decide_eq_true h]
    exact kat_yes (katLexN xs ys 1 _ _ c ps qs e (fun z hz => hd z (.tail _ hz)) hu (fun _ hi => absurd hi (by decide)) (by rw [hf]; simp) hq)
  · rw [if_neg h] at e
    rw [decide_eq_false h]
    exact kat_no (one_ltT (n := n) (fun _ => tx) p q e dx hu hq)
theorem each_text {h : Heap} : ∀ {vs : List Value} {ks : List NestedKey}, EachIs (fun v k => Ns h k v) vs ks → (∀ k ∈ ks, ∃ z r, k = .tup (.text z :: r)) → ∃ fs, KatTups h vs fs ∧ fs.length = vs.length ∧ ∀ f ∈ fs, ∃ z t, f = Value.str z t
  | _, _, .nil, _ => ⟨[], KatTups.nil, rfl, fun f hf => by cases hf⟩
  | _, _, .cons (b := k) p t, hk => by
    obtain ⟨fs, h1, h2, h3⟩ := each_text t fun k hk2 => hk k (.tail _ hk2)
    obtain ⟨z, r, rfl⟩ := hk k (.head _)
    cases p with
    | @tup a o vs n _ ho hc hd hr =>
      cases q : vs.toList with
      | nil => rw [q] at hr; cases hr
      | cons f fr =>
        rw [q] at hr
        cases hr with
        | cons p1 p2 =>
          obtain ⟨u, rfl⟩ : ∃ u, f = Value.str z u := by cases p1; exact ⟨_, rfl⟩
          refine ⟨_ :: fs, KatTups.cons ho hc hd (by rw [← Array.getElem?_toList, q]; rfl) h1, by rw [List.length_cons, List.length_cons, h2], fun g hg => ?_⟩
          rcases List.mem_cons.mp hg with rfl | hg
          · exact ⟨_, _, rfl⟩
          · exact h3 g hg
theorem sortsT {vs : List Value} {ks : List NestedKey} {n : Nat} (e : EachIs (fun v k => Ns s.heap k v) vs ks) (hh : ∀ k ∈ ks, ∃ z r, k = .tup (.text z :: r)) (hc : ∀ k ∈ ks, ∀ k' ∈ ks, ∃ c, ltK k k' = some c) (hd : ∀ k ∈ ks, k.depth ≤ n) (hu : A.units + n < cLine) :
    SortsAt prog w A s (nkKind s.heap ks) vs := by
  refine ⟨fun v hv => ?_, tuples' ((Value.type "str") != Value.type "tuple"), ?_, fun h2 E Q hq => ?_⟩
  · obtain ⟨k, hk, p⟩ := e.left v hv
    exact ⟨_, nk_some hk p⟩
  · intro E x y a b Q ha hb hq
    obtain ⟨k, hk, p, rfl⟩ := nk_inv ha
    obtain ⟨k', hk', p', rfl⟩ := nk_inv hb
    obtain ⟨c, ec⟩ := hc k hk k' hk'
    have dk := hd k hk
    obtain ⟨z, r, rfl⟩ := hh k hk
    obtain ⟨z', r', rfl⟩ := hh k' hk'
    rw [depth_tup] at dk
    rw [ltK] at ec
    have hq : Q (lexT (toks (.tup (.text z :: r))) (toks (.tup (.text z' :: r')))) s := hq
    rw [lex_tup ec] at hq
    cases p with
    | @tup _ _ vs1 _ _ h1 h2 h3 h4 =>
      cases p' with
      | @tup _ _ vs2 _ _ k1 k2 k3 k4 =>
        refine kat_lt h1 h3 k1 k3 ?_
        cases e1 : vs1.toList with
        | nil => rw [e1] at h4; cases h4
        | cons a1 us =>
          cases e2 : vs2.toList with
          | nil => rw [e2] at k4; cases k4
          | cons b1 ws =>
            rw [e1] at h4
            rw [e2] at k4
            cases h4 with
            | cons p1 p2 =>
              cases k4 with
              | cons q1 q2 =>
                refine katLexT (n := n) p1 p2 q1 q2 ⟨z, rfl⟩ ec (fun x hx => ?_) hu ?_ hq
                · have := depth_mem hx
                  omega
                · rw [← e1, ← e2]
                  simp
  · obtain ⟨fs, t1, t2, t3⟩ := each_text e hh
    refine kat_kind (T := Value.type "str") t1 (by omega) (fun f hf => ?_) (beq_self_eq_true _) hq
    obtain ⟨z, t, rfl⟩ := t3 f hf
    exact looks_reads (Reads.str z t)
end
end My

set_option Elab.async false
set_option linter.all false
set_option maxRecDepth 100000
set_option maxHeartbeats 4000000
/-! sorted(xs) of nested tuples. -/
namespace My
open PySem PySem.Spec PyProof.Rows L2 PySem.SeqAt PySem.W
mutual
theorem Ns.stay {h h' : Heap} (g : ∀ b o, h.get? b = some o → o.cls = .type "tuple" → h'.get? b = some o) : ∀ {k : NestedKey} {v : Value}, Ns h k v → Ns h' k v
  | .none, _, .none => .none
  | .num _, _, .int i t => .int i t
  | .text _, _, .text x t => .text x t
  | .tup _, _, .tup e c d r => .tup (g _ _ e c) c d (NsAll.stay g r)
theorem NsAll.stay {h h' : Heap} (g : ∀ b o, h.get? b = some o → o.cls = .type "tuple" → h'.get? b = some o) : ∀ {ks : List NestedKey} {vs : List Value}, NsAll h ks vs → NsAll h' ks vs
  | [], _, .nil => .nil
  | _ :: _, _, .cons a r => .cons (Ns.stay g a) (NsAll.stay g r)
end
/-- what sorting asks of the keys -/
structure Sbl (ks : List NestedKey) : Prop where
  heads : (∀ k ∈ ks, ∃ z r, k = .tup (.text z :: r)) ∨ ∀ k ∈ ks, ∃ i r, k = .tup (.num i :: r)
  cmp : ∀ k ∈ ks, ∀ k' ∈ ks, ∃ c, ltK k k' = some c
  deep : ∀ k ∈ ks, k.depth ≤ 50
theorem each_of {X : Cx} {pins : List (Addr × Obj)} {σ : L2.St} {H : Hp} {s : Shared} (I : Inv X pins σ H s) : ∀ {xs : List V} {ks : List NestedKey} {vs : List Value}, NkAll H xs ks → Vals xs vs → EachIs (fun v k => Ns s.heap k v) vs ks
  | _, _, _, .nil, .nil => .nil
  | _, _, _, .cons a h, .cons r1 r2 => .cons (a.ns I r1) (each_of I h r2)
/-- the items with their keys, sorted -/
def srt (xs : List V) (ks : List NestedKey) : List (V × NestedKey) := (xs.zip ks).mergeSort (leF id)
section
variable {X : Cx} {pins : List (Addr × Obj)} {σ : L2.St} {H : Hp} {s : Shared} {E : Value → Shared → Prop}
theorem sort_tail {xs : List V} {vs : List Value} {ks : List NestedKey} {Q : Value → Shared → Prop} (I : Inv X pins σ H s) (un : X.A.units + 60 < cLine) (rv : Vals xs vs) (nk : NkAll H xs ks) (sb : Sbl ks) (hz : vs.length ≤ sizeLine) (p : Addr) (ep : p = s.heap.objs.size)
    (q : ∀ s', Inv X pins σ (upd H p (.lst ((srt xs ks).map Prod.fst))) s' → Q (.ref p) s') :
    wpAny (model X.prog X.w) X.A.in1 (call (.builtin "list.sort") [.ref p]) (fun _ s' => Q (.ref p) s') E { s with heap := s.heap.push (seqObj "list" vs.toArray 0) } := by
  subst ep
  have ho : (s.heap.push (seqObj "list" vs.toArray 0)).get? s.heap.objs.size = some (seqObj "list" vs.toArray 0) := Heap.get?_push_size _ rfl
  have up : ∀ b o, s.heap.get? b = some o → (s.heap.push (seqObj "list" vs.toArray 0)).get? b = some o := fun b o e => Heap.get?_push_of_some _ e
  have e0 := each_of I nk rv
  have e1 : EachIs (fun v k => Ns (sortingHeap (s.heap.push (seqObj "list" vs.toArray 0)) s.heap.objs.size vs) k v) vs ks := e0.mono fun v k n => n.stay fun b o e _ => sortingHeap_old (Nat.ne_of_lt (Heap.lt_size e)) (up b o e)
  have S : SortsAt X.prog X.w X.A.in1.in1 { s with heap := sortingHeap (s.heap.push (seqObj "list" vs.toArray 0)) s.heap.objs.size vs } (nkKind (sortingHeap (s.heap.push (seqObj "list" vs.toArray 0)) s.heap.objs.size vs) ks) vs := by
    rcases sb.heads with h | h
    · exact sortsT (n := 50) (s := { s with heap := sortingHeap (s.heap.push (seqObj "list" vs.toArray 0)) s.heap.objs.size vs }) e1 h sb.cmp sb.deep (by show X.A.units + 1 + 1 + 50 < cLine; omega)
    · exact sortsN (n := 50) (s := { s with heap := sortingHeap (s.heap.push (seqObj "list" vs.toArray 0)) s.heap.objs.size vs }) e1 h sb.cmp sb.deep (by show X.A.units + 1 + 1 + 50 < cLine; omega)
  refine wpAny_call_entry slot_list_sort ⟨_, ho, rfl⟩ entry_list_sort (list_sort_vals (s := { s with heap := s.heap.push (seqObj "list" vs.toArray 0) }) ho S hz ⟨_, rfl, ?_⟩) (args_list_sort _)
  have lk : xs.length = ks.length := nk.length
  have out := sortVals_each (κ := nkKind (sortingHeap (s.heap.push (seqObj "list" vs.toArray 0)) s.heap.objs.size vs) ks) (rev := false) (R := fun (v : Value) (b : V × NestedKey) => RelV b.1 v) (ks := vs) (vs := vs) (bs := xs.zip ks) (fun b => toks b.2) (zip_each rv lk) (each_snd ((each_mem e1).mono fun v k q => nk_some q.2 q.1) lk)
  have rel : Vals ((srt xs ks).map Prod.fst) (sortVals (nkKind (sortingHeap (s.heap.push (seqObj "list" vs.toArray 0)) s.heap.objs.size vs) ks) false vs vs) := each_vals out
  generalize sortVals (nkKind (sortingHeap (s.heap.push (seqObj "list" vs.toArray 0)) s.heap.objs.size vs) ks) false vs vs = os at rel ⊢
  have lo : ((srt xs ks).map Prod.fst).length ≤ sizeLine := by
    have := rv.length
    rw [List.length_map, srt, List.length_mergeSort, List.length_zip]
    omega
  obtain ⟨c, gc⟩ := sortedHeap_at (vs := vs) (out := os.toArray) ho
  refine q _ (I.laid (t' := s.toks) (fun b o e => ?_) (Nat.le_refl _) ⟨lo, os, c, rel, gc⟩)
  have lt := Heap.lt_size e
  rw [sortedHeap_old (Nat.ne_of_lt lt) (by rw [size_push']; exact Nat.lt_succ_of_lt lt)]
  exact up b o e
/-- sorted(xs), a list -/
def rSortL (K : PySem.W.Frag) : List V → Hp → VK → Prop := fun vs H Q => ∃ (l : Addr) (xs : List V) (ks : List NestedKey), vs = [.ref l] ∧ SqL K H l xs ∧ NkAll H xs ks ∧ Sbl ks ∧ xs.length ≤ 1000 ∧ ∀ p, H p = none → Q (.ref p) (upd H p (.lst ((srt xs ks).map Prod.fst)))
theorem cr_sortL (un : X.A.units + 64 < cLine) : CallR X (.builtin "sorted") (rSortL X.K) := by
  intro pins s σ H vs us Q I r h
  obtain ⟨l, xs, ks, rfl, hl, nk, sb, lx, q⟩ := h
  rw [Vals.ref1 r]
  obtain ⟨its, rv, pl, hz⟩ := I.list hl
  have lv : its.length ≤ sizeLine := by rw [← rv.length, sizeLine_eq]; omega
  refine Calls.call_function_entry kind_sorted plain_sorted entry_sorted (args_sorted1 _) ?_
  unfold Builtin.«sorted»
  refine wpAny_bind (m := checkCount "sorted" 1 1 _) (wpAny_pure (wpAny_bind (collect_list pl.isList ?_ lv)))
  have k1 : ∀ b o, s.heap.get? b = some o → ((s.heap.push (seqObj "list" #[] 0)).update s.heap.objs.size (Obj.mapSeq (· ++ its.toArray))).get? b = some o := fun b o e => by
    have lt := Heap.lt_size e
    rw [Heap.get?_update_ne _ _ _ _ (Nat.ne_of_lt lt)]
    exact Heap.get?_push_of_some _ e
  have I1 : Inv X pins σ H { s with heap := (s.heap.push (seqObj "list" #[] 0)).update s.heap.objs.size (Obj.mapSeq (· ++ its.toArray)), toks := s.toks } := I.kept k1
  have fresh := I1.hok.fresh (Nat.le_refl _)
  refine wpAny_bind (wpAny_newList ?_ lv)
  refine wpAny_bind (wpAny_holding (sort_tail (Q := fun v s' => wpAny (model X.prog X.w) X.A.in1 (ret v) _ _ s') I1 (by omega) rv nk sb lv _ rfl fun s' J => wpAny_pure ⟨_, rfl, .ref _, _, J, rfl, q _ fresh⟩))
end
end My

set_option Elab.async false
set_option linter.all false
set_option maxRecDepth 100000
set_option maxHeartbeats 4000000
/-! set(xs), sorted(set) of nested tuples. -/
namespace My
open PySem PySem.Spec PyProof.Rows L2 PySem.SeqAt PySem.W
/-- the set at a, but for the tuples themselves -/
def SetW (w : World) (h : Heap) (a : Addr) (M : List Ent) : Prop := ∃ (es : Array (Int × Value)) (ep : Nat) (t : SetTable), (∃ o, h.get? a = some o ∧ o.ExactSet ∧ o.data = .set es ep t) ∧ es.toList = M.map (kept w) ∧ TabOk t (M.map (hsh w)) ∧ (M.map (·.2)).Nodup ∧
  (w.params.followText "set-order" = true ∨ t.led = true) ∧ M.length * 5 < t.mask * 3
theorem SetN.w {w : World} {h : Heap} {a : Addr} {M : List Ent} {es : Array (Int × Value)} {ep : Nat} {t : SetTable} (Z : SetN w h a M es ep t) : SetW w h a M := ⟨es, ep, t, Z.ob, Z.rows, Z.tab, Z.nd, Z.led, Z.room⟩
theorem SetW.full {w : World} {h : Heap} {a : Addr} {M : List Ent} (Z : SetW w h a M) (k : ∀ p ∈ M, KeyAt h p.2 p.1) : ∃ es ep t, SetN w h a M es ep t := let ⟨es, ep, t, a, b, c, d, e, f⟩ := Z; ⟨es, ep, t, a, b, c, d, k, e, f⟩
theorem SetW.nd {w : World} {h : Heap} {a : Addr} {M : List Ent} (Z : SetW w h a M) : (M.map (·.2)).Nodup := let ⟨_, _, _, _, _, _, d, _⟩ := Z; d
def SetO (w : World) (a : Addr) (M : List Ent) : HO := .ext fun h => SetW w h a M
theorem setO_new {P : Program} {w : World} {H : Hp} {h : Heap} {a : Addr} {M : List Ent} (Z : SetW w h a M) : ObjOk P w H h a (SetO w a M) := by
  have ⟨es, ep, t, ⟨o, g, r⟩, q⟩ := Z
  refine ⟨Z, ⟨o, g⟩, fun h1 h2 p k => ?_⟩
  have ⟨es', ep', t', ⟨o', g', r'⟩, q'⟩ := (p : SetW w h1 a M)
  exact ⟨es', ep', t', ⟨o', k o' g', r'⟩, q'⟩
/-- what the set has got of the first i items -/
structure Gets (ks : List Ent) (i : Nat) (M : List Ent) : Prop where
  sub : ∀ p ∈ M, p ∈ ks.take i
  all : ∀ p ∈ ks.take i, p.2 ∈ M.map (·.2)
  len : M.length ≤ i
theorem Gets.none (ks : List Ent) : Gets ks 0 [] := ⟨(fun p h => by cases h), (fun p h => by rw [List.take_zero] at h; cases h), Nat.le_refl _⟩
theorem Gets.next {ks M M' : List Ent} {i : Nat} {x : Ent} (g : Gets ks i M) (e : ks[i]? = some x) (c1 : x.2 ∈ M.map (·.2) → M' = M) (c2 : x.2 ∉ M.map (·.2) → M'.Perm (x :: M)) : Gets ks (i + 1) M' := by
  have tk : ks.take (i + 1) = ks.take i ++ [x] := by rw [List.take_add_one, e]; rfl
  by_cases c : x.2 ∈ M.map (·.2)
  · rw [c1 c]
    refine ⟨fun p hp => ?_, fun p hp => ?_, Nat.le_succ_of_le g.len⟩
    · rw [tk]; exact List.mem_append_left _ (g.sub p hp)
    · rw [tk] at hp
      rcases List.mem_append.mp hp with h | h
      · exact g.all p h
      · rw [List.mem_singleton.mp h]; exact c
  · have pm := c2 c
    refine ⟨fun p hp => ?_, fun p hp => ?_, by rw [pm.length_eq]; exact Nat.succ_le_succ g.len⟩
    · rw [tk]
      rcases List.mem_cons.mp (pm.mem_iff.mp hp) with h | h
      · rw [h]; exact List.mem_append_right _ (.head _)
      · exact List.mem_append_left _ (g.sub p h)
    · rw [(pm.map (·.2)).mem_iff, List.map_cons]
      rw [tk] at hp
      rcases List.mem_append.mp hp with h | h
      · exact .tail _ (g.all p h)
      · rw [List.mem_singleton.mp h]; exact .head _
theorem addsN {P : Program} {w : World} {A : Around} {h0 : Heap} {S : Addr} {wr : List Addr} {ks : List Ent} {n : Nat} {Pv : Nat → Value → Prop} (hn : n = ks.length) (few : ks.length ≤ 76) (pv : ∀ i v, Pv i v → ∃ p, ks[i]? = some p ∧ v = .ref p.1) (kk : ∀ p ∈ ks, KeyAt h0 p.2 p.1) (nS : h0.get? S = none)
    (nw : ∀ b ∈ wr, h0.get? b = none) (Sw : S ∉ wr) (un : A.units + 8 < cLine) : Adds P w A S wr n Pv (fun i h => (∃ M es ep t, SetN w h S M es ep t ∧ Gets ks i M) ∧ ∀ b o, h0.get? b = some o → h.get? b = some o) where
  stay := fun i h h' ⟨⟨M, es, ep, t, Z, g⟩, kp⟩ st => by
    have kp' : ∀ b o, h0.get? b = some o → h'.get? b = some o := fun b o e => st b o (fun z => by rw [nw b z] at e; cases e) (kp b o e)
    obtain ⟨o, g1, g2⟩ := Z.ob
    exact ⟨⟨M, es, ep, t, ⟨⟨o, st _ _ Sw g1, g2⟩, Z.rows, Z.tab, Z.nd, fun p hp => (kk p (List.mem_of_mem_take (g.sub p hp))).stay fun b o _ _ e _ => kp' b o e, Z.led, Z.room⟩, g⟩, kp'⟩
  add := fun i v s Q E lt pvi ⟨⟨M, es, ep, t, Z, g⟩, kp⟩ q => by
    obtain ⟨p, ep, rfl⟩ := pv i v pvi
    have kx : KeyAt s.heap p.2 p.1 := (kk p (List.mem_of_getElem? ep)).stay fun b o _ _ e _ => kp b o e
    unfold setAdd
    refine wpAny_holding (wpAny_bind ((nestedKind P w).pyHash un kx ?_))
    refine addN (s := { s with toks := s.toks + p.2.draws }) Z kx un (by have := g.len; omega) fun b h' M' es' ep' t' sb Z' c1 c2 => q b h' _ ⟨⟨M', es', ep', t', Z', g.next ep c1 c2⟩, fun c o e => ?_⟩ (Nat.le_add_right _ _) sb
    exact (sb.2 c (fun z => by rw [z, nS] at e; cases e)).trans (kp c o e)
theorem fresh_set {w : World} {h : Heap} {a : Addr} (g : h.get? a = some (freshSet w)) : SetN w h a [] #[] 0 (.fresh 0 0 (!w.params.followText "set-order")) where
  ob := ⟨_, g, ⟨rfl, rfl, rfl⟩, rfl⟩
  rows := rfl
  tab := ⟨List.Pairwise.nil, rfl, rfl, .inl rfl, (fun x hx => by cases hx), fun i h j hi => by simp at hi⟩
  nd := List.nodup_nil
  key := fun p hp => by cases hp
  led := by
    cases e : w.params.followText "set-order"
    · exact .inr rfl
    · exact .inl rfl
  room := by show 0 * 5 < 7 * 3; decide
theorem vals_ref : ∀ {ks : List Ent} {us : List Value}, Vals (ks.map fun p => V.ref p.1) us → us = ks.map fun p => Value.ref p.1
  | [], _, .nil => rfl
  | p :: ks, _, .cons r t => by cases r; rw [vals_ref t]; rfl
theorem ref_vals : ∀ (ks : List Ent), Vals (ks.map fun p => V.ref p.1) (ks.map fun p => Value.ref p.1)
  | [] => .nil
  | p :: ks => .cons rfl (ref_vals ks)
section
variable {X : Cx}
theorem Nk.keyAt {pins : List (Addr × Obj)} {σ : L2.St} {H : Hp} {s : Shared} (I : Inv X pins σ H s) {k : NestedKey} {a : Addr} (n : Nk H (.ref a) k) (d : k.depth ≤ 8) : KeyAt s.heap k a := ⟨(n.ns I rfl).is, d⟩
/-- set(xs), xs a list of nested tuples -/
def rSetN (K : PySem.W.Frag) (w : World) : List V → Hp → VK → Prop := fun xs H Q => ∃ (l : Addr) (ks : List Ent), xs = [V.ref l] ∧ SqL K H l (ks.map fun p => V.ref p.1) ∧ (∀ p ∈ ks, Nk H (.ref p.1) p.2 ∧ p.2.depth ≤ 8) ∧ ks.length ≤ 76 ∧
  ∀ a M, H a = none → (∀ p ∈ M, p ∈ ks) → (∀ p ∈ ks, p.2 ∈ M.map (·.2)) → (M.map (·.2)).Nodup → Q (.ref a) (upd H a (SetO w a M))
theorem cr_setN (hc : X.calm = true) (hu : X.A.units + 64 < cLine) : CallR X (.type "set") (rSetN X.K X.w) := by
  intro pins s σ H xs us Q I r h
  obtain ⟨l, ks, rfl, hl, hk, few, q⟩ := h
  rw [Vals.ref1 r]
  obtain ⟨its, rv, pl, hz⟩ := I.list hl
  have ei := vals_ref rv
  have non : ∀ b, s.heap.objs.size ≤ b → s.heap.get? b = none := fun b lb => by
    cases e : s.heap.get? b with
    | none => rfl
    | some o => exact absurd (Nat.lt_of_lt_of_le (Heap.lt_size e) lb) (Nat.lt_irrefl _)
  refine callG (P := X.prog) (w := X.w) (items := its.toArray) (I.ok.hd hc) pl.isList (addsN (h0 := s.heap) (ks := ks) (by rw [List.size_toArray, ei, List.length_map]) few (fun i v e => ?_) (fun p hp => (hk p hp).1.keyAt I (hk p hp).2) (non _ (Nat.le_refl _)) (fun b hb => ?_) ?_ (by show X.A.units + 1 + 1 + 1 + 8 < cLine; omega))
    (fun h g kp => ⟨⟨[], _, _, _, fresh_set g, .none ks⟩, kp⟩) fun h' tk t1 kp => ?_
  · rw [List.getElem?_toArray, ei, List.getElem?_map] at e
    cases e2 : ks[i]? with
    | none => rw [e2] at e; cases e
    | some p => rw [e2] at e; exact ⟨p, rfl, (Option.some.inj e).symm⟩
  · rw [List.mem_singleton.mp hb]; exact non _ (Nat.le_succ _)
  · intro z
    exact Nat.ne_of_lt (Nat.lt_succ_self _) (List.mem_singleton.mp z)
  · obtain ⟨⟨M, es, ep, t, Z, g⟩, _⟩ := t1
    rw [List.size_toArray, ei, List.length_map] at g
    refine ⟨.ref s.heap.objs.size, upd H s.heap.objs.size (SetO X.w s.heap.objs.size M), I.laid (t' := tk) kp (Nat.le_refl _) (setO_new Z.w), rfl, q _ M (I.hok.fresh (Nat.le_refl _)) (fun p hp => List.mem_of_mem_take (g.sub p hp)) (fun p hp => g.all p (by rw [List.take_length]; exact hp)) Z.nd⟩
/-- sorted(set) -/
def rSortS (w : World) : List V → Hp → VK → Prop := fun vs H Q => ∃ (a : Addr) (M : List Ent), vs = [V.ref a] ∧ H a = some (SetO w a M) ∧ (∀ p ∈ M, Nk H (.ref p.1) p.2 ∧ p.2.depth ≤ 8) ∧ Sbl (M.map (·.2)) ∧
  ∀ (M' : List Ent) (p : Addr), M'.Perm M → H p = none → Q (.ref p) (upd H p (.lst ((srt (M'.map fun q => V.ref q.1) (M'.map (·.2))).map Prod.fst)))
theorem perm_lift {α β : Type} {f : α → β} {l m : List β} (p : l.Perm m) : ∀ M : List α, m = M.map f → ∃ M' : List α, M'.Perm M ∧ l = M'.map f := by
  induction p with
  | nil =>
    intro M e
    cases M with
    | nil => exact ⟨[], .nil, rfl⟩
    | cons a M => cases e
  | cons x p ih =>
    intro M e
    cases M with
    | nil => cases e
    | cons a M =>
      rw [List.map_cons] at e
      injection e with e1 e2
      obtain ⟨M', pm, rfl⟩ := ih M e2
      exact ⟨a :: M', pm.cons a, by rw [List.map_cons, e1]⟩
  | swap x y l =>
    intro M e
    match M, e with
    | a :: b :: M, e =>
      rw [List.map_cons, List.map_cons] at e
      injection e with e1 e2
      injection e2 with e2 e3
      exact ⟨b :: a :: M, .swap _ _ _, by rw [List.map_cons, List.map_cons, e1, e2, e3]⟩
  | trans p q ih1 ih2 =>
    intro M e
    obtain ⟨M1, p1, e1⟩ := ih2 M e
    obtain ⟨M2, p2, e2⟩ := ih1 M1 e1
    exact ⟨M2, p2.trans p1, e2⟩
theorem nk_ents {H : Hp} : ∀ {M : List Ent}, (∀ p ∈ M, Nk H (.ref p.1) p.2) → NkAll H (M.map fun p => V.ref p.1) (M.map (·.2))
  | [], _ => .nil
  | p :: M, h => .cons (h p (.head _)) (nk_ents fun q hq => h q (.tail _ hq))
theorem cr_sortS (hc : X.calm = true) (hu : X.A.units + 64 < cLine) : CallR X (.builtin "sorted") (rSortS X.w) := by
  intro pins s σ H vs us Q I r h
  obtain ⟨a, M, rfl, ha, hk, sb, q⟩ := h
  rw [Vals.ref1 r]
  obtain ⟨es, ep, t, Z⟩ := SetW.full (I.hok a _ ha).1 fun p hp => (hk p hp).1.keyAt I (hk p hp).2
  obtain ⟨o, g1, g2, g3⟩ := Z.ob
  have sz := Z.size
  have l3 := Z.room
  have lM : M.length ≤ 76 := by rcases Z.tab.mok with e | e | e <;> rw [e] at l3 <;> omega
  refine Calls.call_function_entry kind_sorted plain_sorted entry_sorted (args_sorted1 _) ?_
  unfold Builtin.«sorted»
  refine wpAny_bind (m := checkCount "sorted" 1 1 _) (wpAny_pure (wpAny_bind (collect_set (A := X.A.in1) (I.ok.hd hc) ⟨o, g1, g2.1, g3⟩ Z.fits (by unfold scanBound; omega) Z.tab.ris Z.led fun s1 vs k1 hz e1 e2 pm => ?_)))
  rw [Z.rows, List.map_map] at pm
  obtain ⟨M', pM, rfl⟩ := perm_lift pm M rfl
  have I1 : Inv X pins σ H s1 := I.call' (ch := []) e2 (Un.kept k1) (I.hok.kept k1) (by rw [e1]; exact I.bare) (fun _ z => nomatch z)
  have fresh := I1.hok.fresh (Nat.le_refl _)
  have lv : (M'.map fun q => Value.ref q.1).length ≤ sizeLine := by rw [List.length_map, pM.length_eq, sizeLine_eq]; omega
  have sb' : Sbl (M'.map (·.2)) := ⟨sb.heads.imp (fun h k hk => h k ((pM.map (·.2)).mem_iff.mp hk)) (fun h k hk => h k ((pM.map (·.2)).mem_iff.mp hk)), fun k hk k' hk' => sb.cmp k ((pM.map (·.2)).mem_iff.mp hk) k' ((pM.map (·.2)).mem_iff.mp hk'), fun k hk => sb.deep k ((pM.map (·.2)).mem_iff.mp hk)⟩
  refine wpAny_bind (wpAny_newList ?_ lv)
  refine wpAny_bind (wpAny_holding (sort_tail (Q := fun v s' => wpAny (model X.prog X.w) X.A.in1 (ret v) _ _ s') I1 (by omega) (ref_vals M') (nk_ents fun p hp => (hk p (pM.mem_iff.mp hp)).1) sb' lv _ rfl fun s' J => wpAny_pure ⟨_, rfl, .ref _, _, J, rfl, q M' _ pM fresh⟩))
end
end My

set_option Elab.async false
set_option linter.all false
set_option maxRecDepth 100000
set_option maxHeartbeats 2000000
/-! sorted(xs, key=f), xs a list of tuples. -/
namespace My
open PySem PySem.Spec PyProof.Rows L2 PySem.SeqAt
theorem un64 {k : Nat} {A : Around} (r : Room k A) : A.units + 64 < cLine := by have := r.un; omega
section
variable {X : Cx} {f : Addr} {fd : FuncData} {ps : List Str} {j : Nat} {F : NestedKey → NestedKey} {C : NestedKey → Prop}
def rSortKL (K : PySem.W.Frag) (f : Addr) (F : NestedKey → NestedKey) (C : NestedKey → Prop) : List V → List V → Hp → VK → Prop := fun vs zs H Q => ∃ (l : Addr) (xs : List V) (ks : List NestedKey), vs = [.ref l] ∧ zs = [.ref f] ∧ SqL K H l xs ∧ NkAll H xs ks ∧ (∀ k ∈ ks, C k) ∧
  (∀ k ∈ ks, ∃ i r, F k = .tup (.num i :: r)) ∧ (∀ k ∈ ks, ∀ k' ∈ ks, ∃ c, ltK (F k) (F k') = some c) ∧ (∀ k ∈ ks, (F k).depth ≤ 50) ∧ xs.length ≤ 1000 ∧ ∀ H' p, Same H H' → H' p = none → H p = none → Q (.ref p) (upd H' p (.lst (((xs.zip ks).mergeSort (leF F)).map Prod.fst)))
theorem cr_sortKL (G : FnOk X.prog X.w X.K X.mg X.base CX0 j f fd ps (spKey F C)) (hr : Room (j + 1) X.A) (hb : Binds X.K fd ps []) : CallRK X (.builtin "sorted") [Str.ofString "key"] (rSortKL X.K f F C) := by
  intro pins s σ H vs zs us ws Q I r1 r2 h
  obtain ⟨l, xs, ks, rfl, rfl, hl, nk, hC, hh, hc, hd, lx, q⟩ := h
  obtain ⟨u, rfl, ru⟩ := vals1 r1
  obtain ⟨u2, rfl, ru2⟩ := vals1 r2
  cases ru
  cases ru2
  obtain ⟨its, rv, pl, hz⟩ := I.list hl
  have lv : its.length ≤ sizeLine := by rw [← rv.length, sizeLine_eq]; omega
  show wpAny _ _ (call (.builtin "sorted") [.ref l] [(Str.ofString "key", .ref f)]) _ _ _
  refine call_function_entry_kw kind_sorted plain_sorted entry_sorted (ksk_s1 _ _) ?_
  unfold Builtin.«sorted»
  refine wpAny_bind (m := checkCount "sorted" 1 1 _) (wpAny_pure ?_)
  refine wpAny_bind (collect_list pl.isList ?_ lv)
  have k1 : ∀ b o, s.heap.get? b = some o → ((s.heap.push (seqObj "list" #[] 0)).update s.heap.objs.size (Obj.mapSeq (· ++ its.toArray))).get? b = some o := fun b o e => by
    have lt := Heap.lt_size e
    rw [Heap.get?_update_ne _ _ _ _ (Nat.ne_of_lt lt)]
    exact Heap.get?_push_of_some _ e
  have I1 : Inv X pins σ H { s with heap := (s.heap.push (seqObj "list" #[] 0)).update s.heap.objs.size (Obj.mapSeq (· ++ its.toArray)), toks := s.toks } := I.kept k1
  generalize (s.heap.push (seqObj "list" #[] 0)).update s.heap.objs.size (Obj.mapSeq (· ++ its.toArray)) = h' at I1 ⊢
  refine wpAny_bind (wpAny_newList ?_ lv)
  show wpAny _ _ _ _ _ { s with heap := h'.push (seqObj "list" its.toArray 0), toks := s.toks }
  have I2 : L2.Inv X pins σ H { s with heap := h'.push (seqObj "list" its.toArray 0), toks := s.toks } := I1.kept (t' := s.toks) fun b u e => Heap.get?_push_of_some _ e
  have hoL : (h'.push (seqObj "list" its.toArray 0)).get? h'.objs.size = some (seqObj "list" its.toArray 0) := Heap.get?_push_size _ rfl
  have fresh : H h'.objs.size = none := I1.hok.fresh (Nat.le_refl _)
  have fp : FpOk X pins H h'.objs.size := I1.fpOk (Nat.le_refl _) fresh
  refine wpAny_bind (wpAny_holding (wpAny_call_entry_kw slot_list_sort ⟨_, hoL, rfl⟩ entry_list_sort ?_ (ksk_l1 _ _)))
  rw [ksk_t1]
  refine sort_key (X := X) (pins := pins) (σ := σ) (H := H) (s := { s with heap := h'.push (seqObj "list" its.toArray 0), toks := s.toks }) G hr hb I2 fp hoL rv nk hC hh hc hd lv fun H' s' sm nh I3 => ?_
  exact ⟨_, rfl, wpAny_pure ⟨_, rfl, .ref h'.objs.size, _, I3, rfl, q H' _ sm nh fresh⟩⟩
end
end My

set_option Elab.async false
set_option linter.all false
set_option maxRecDepth 100000
set_option maxHeartbeats 2000000
/-! sorted(xs, key=f), xs a list of tuples, the keys tuples with texts first. -/
namespace My
open PySem PySem.Spec PyProof.Rows L2 PySem.SeqAt
section
variable {X : Cx} {f : Addr} {fd : FuncData} {ps : List Str} {j : Nat} {F : NestedKey → NestedKey} {C : NestedKey → Prop}
def rSortKT (K : PySem.W.Frag) (f : Addr) (F : NestedKey → NestedKey) (C : NestedKey → Prop) : List V → List V → Hp → VK → Prop := fun vs zs H Q => ∃ (l : Addr) (xs : List V) (ks : List NestedKey), vs = [.ref l] ∧ zs = [.ref f] ∧ SqL K H l xs ∧ NkAll H xs ks ∧ (∀ k ∈ ks, C k) ∧
  (∀ k ∈ ks, ∃ z r, F k = .tup (.text z :: r)) ∧ (∀ k ∈ ks, ∀ k' ∈ ks, ∃ c, ltK (F k) (F k') = some c) ∧ (∀ k ∈ ks, (F k).depth ≤ 50) ∧ xs.length ≤ 1000 ∧ ∀ H' p, Same H H' → H' p = none → H p = none → Q (.ref p) (upd H' p (.lst (((xs.zip ks).mergeSort (leF F)).map Prod.fst)))
theorem cr_sortKT (G : FnOk X.prog X.w X.K X.mg X.base CX0 j f fd ps (spKey F C)) (hr : Room (j + 1) X.A) (hb : Binds X.K fd ps []) : CallRK X (.builtin "sorted") [Str.ofString "key"] (rSortKT X.K f F C) := by
  intro pins s σ H vs zs us ws Q I r1 r2 h
  obtain ⟨l, xs, ks, rfl, rfl, hl, nk, hC, hh, hc, hd, lx, q⟩ := h
  obtain ⟨u, rfl, ru⟩ := vals1 r1
  obtain ⟨u2, rfl, ru2⟩ := vals1 r2
  cases ru
  cases ru2
  obtain ⟨its, rv, pl, hz⟩ := I.list hl
  have lv : its.length ≤ sizeLine := by rw [← rv.length, sizeLine_eq]; omega
  show wpAny _ _ (call (.builtin "sorted") [.ref l] [(Str.ofString "key", .ref f)]) _ _ _
  refine call_function_entry_kw kind_sorted plain_sorted entry_sorted (ksk_s1 _ _) ?_
  unfold Builtin.«sorted»
  refine wpAny_bind (m := checkCount "sorted" 1 1 _) (wpAny_pure ?_)
  refine wpAny_bind (collect_list pl.isList ?_ lv)
  have k1 : ∀ b o, s.heap.get? b = some o → ((s.heap.push (seqObj "list" #[] 0)).update s.heap.objs.size (Obj.mapSeq (· ++ its.toArray))).get? b = some o := fun b o e => by
    have lt := Heap.lt_size e
    rw [Heap.get?_update_ne _ _ _ _ (Nat.ne_of_lt lt)]
    exact Heap.get?_push_of_some _ e
  have I1 : Inv X pins σ H { s with heap := (s.heap.push (seqObj "list" #[] 0)).update s.heap.objs.size (Obj.mapSeq (· ++ its.toArray)), toks := s.toks } := I.kept k1
  generalize (s.heap.push (seqObj "list" #[] 0)).update s.heap.objs.size (Obj.mapSeq (· ++ its.toArray)) = h' at I1 ⊢
  refine wpAny_bind (wpAny_newList ?_ lv)
  show wpAny _ _ _ _ _ { s with heap := h'.push (seqObj "list" its.toArray 0), toks := s.toks }
  have I2 : L2.Inv X pins σ H { s with heap := h'.push (seqObj "list" its.toArray 0), toks := s.toks } := I1.kept (t' := s.toks) fun b u e => Heap.get?_push_of_some _ e
  have hoL : (h'.push (seqObj "list" its.toArray 0)).get? h'.objs.size = some (seqObj "list" its.toArray 0) := Heap.get?_push_size _ rfl
  have fresh : H h'.objs.size = none := I1.hok.fresh (Nat.le_refl _)
  have fp : FpOk X pins H h'.objs.size := I1.fpOk (Nat.le_refl _) fresh
  refine wpAny_bind (wpAny_holding (wpAny_call_entry_kw slot_list_sort ⟨_, hoL, rfl⟩ entry_list_sort ?_ (ksk_l1 _ _)))
  rw [ksk_t1]
  refine sort_keyG (X := X) (pins := pins) (σ := σ) (H := H) (s := { s with heap := h'.push (seqObj "list" its.toArray 0), toks := s.toks }) G hr hb I2 fp hoL rv nk hC (fun s' vs' en => sortsT (n := 50) en
      (fun k hk => by obtain ⟨k0, h0, rfl⟩ := List.mem_map.mp hk; exact hh k0 h0)
      (fun k hk k' hk' => by obtain ⟨k0, h0, rfl⟩ := List.mem_map.mp hk; obtain ⟨k1, h1, rfl⟩ := List.mem_map.mp hk'; exact hc k0 h0 k1 h1)
      (fun k hk => by obtain ⟨k0, h0, rfl⟩ := List.mem_map.mp hk; exact hd k0 h0) (by have := hr.un; show X.A.units + 1 + 1 + 50 < cLine; omega)) lv fun H' s' sm nh I3 => ?_
  exact ⟨_, rfl, wpAny_pure ⟨_, rfl, .ref h'.objs.size, _, I3, rfl, q H' _ sm nh fresh⟩⟩
end
end My

set_option Elab.async false
set_option linter.all false
set_option maxRecDepth 100000
set_option maxHeartbeats 4000000
namespace L20
open PySem PySem.Spec PyProof.Rows L2 My
section
variable {P : Program} {w : World} {K : PySem.W.Frag} {mg : Str → Option Value} {base : Heap}
theorem valW_drop (hs : List (Key × V)) (k k' : Key) : valV (dropK hs k) k' = if k' = k then none else valV hs k' := by
  unfold valV dropK
  induction hs with
  | nil => split <;> rfl
  | cons p l ih =>
    rw [List.filter_cons]
    by_cases c : p.1 = k
    · rw [if_neg (by simp [c]), ih]
      by_cases e : k' = k
      · rw [if_pos e, if_pos e]
      · rw [if_neg e, if_neg e, List.find?_cons_of_neg (by simp [c]; exact fun z => e z.symm)]
    · rw [if_pos (by simp [c])]
      by_cases e : p.1 = k'
      · rw [List.find?_cons_of_pos (by simp [e]), List.find?_cons_of_pos (by simp [e]), if_neg (fun z => c (e.trans z))]
      · rw [List.find?_cons_of_neg (by simp [e]), List.find?_cons_of_neg (by simp [e]), ih]
def setH (hs : Str → Option (List Int)) (a : Str) (o : Option (List Int)) : Str → Option (List Int) := fun x => if x = a then o else hs x
/-- whether a page can be done, by the walk's state -/
def goodS (s : WS) (p : Pg) : Bool :=
  if p.z = "house" then !decide (p.a ∈ s.kn) else if p.z = "part" then (match p.b with | some b => !decide (b ∈ s.kn) && (s.hs p.a).isSome | none => false) else (s.hs p.a).isSome && (match p.b with | some b => (s.hs b).isSome | none => true)
def turnS (s : WS) (p : Pg) : WS :=
  if p.z = "house" then { s with hs := setH s.hs p.a (some p.w), kn := s.kn ++ [p.a] }
  else if p.z = "part" then { s with hs := setH s.hs (p.b.getD p.a) (some p.w), kn := s.kn ++ [p.b.getD p.a] }
  else if p.z = "join" then { s with hs := setH s.hs (p.b.getD p.a) none }
  else if p.z = "home" then { s with hs := setH s.hs p.a (some p.w) } else s
theorem has_hm {H : Hp} {kvs : List (Key × V)} {hs : Str → Option (List Int)} (h : HmAt H kvs hs) (a : Str) : has kvs a = (hs a).isSome := by
  unfold has
  rcases h a with ⟨e1, e2⟩ | ⟨q, is, e1, _, e2⟩
  · rw [e1, e2]; rfl
  · rw [e1, e2]; rfl
theorem good_hm {H : Hp} {kvs : List (Key × V)} {s : WS} (h : HmAt H kvs s.hs) (p : Pg) : good kvs s.kn p.z p.a p.b = goodS s p := by
  unfold good goodS
  simp only [has_hm h] <;> (cases p.b <;> rfl)
theorem HmAt.put {H H' : Hp} {kvs : List (Key × V)} {hs : Str → Option (List Int)} (h : HmAt H kvs hs) (t : Tups H H') {a : Str} {q : Addr} {is : List Int} (hq : H' q = some (.tup (is.map V.int))) : HmAt H' (putK kvs (.inr a) (.ref q)) (setH hs a (some is)) := fun x => by
  rw [valV_put]
  unfold setH
  by_cases e : x = a
  · subst e
    rw [if_pos rfl, if_pos rfl]
    exact .inr ⟨q, is, rfl, hq, rfl⟩
  · rw [if_neg (fun z => e (Sum.inr.inj z)), if_neg e]
    exact h.at t x
theorem HmAt.drop {H H' : Hp} {kvs : List (Key × V)} {hs : Str → Option (List Int)} (h : HmAt H kvs hs) (t : Tups H H') (a : Str) : HmAt H' (dropK kvs (.inr a)) (setH hs a none) := fun x => by
  rw [valW_drop]
  unfold setH
  by_cases e : x = a
  · subst e
    rw [if_pos rfl, if_pos rfl]
    exact .inl ⟨rfl, rfl⟩
  · rw [if_neg (fun z => e (Sum.inr.inj z)), if_neg e]
    exact h.at t x
theorem drop_len {kvs : List (Key × V)} {k : Key} : (dropK kvs k).length ≤ kvs.length := List.length_filter_le _ _
/-- a page done among the houses -/
theorem WkAt.turn {T : Tx K mg w} {t1 t2 : Int} {H0 H H' : Hp} {A : WA} {s : WS} {n : Nat} {p : Pg} {kvs : List (Key × V)} {lv : V} (W : WkAt T t1 t2 H0 H A s n) (hh : H A.hm = some (.dK kvs)) (lk : kvs.length ≤ n) (hm : HmAt H kvs s.hs) (k : K2 (tbs T) A.hm A.kn H H')
    (e1 : H' A.hm = some (.dK (nextH kvs p.z p.a p.b lv))) (e2 : H' A.kn = some (.lst ((nextK s.kn p.z p.a p.b).map V.str))) (hl : p.z = "house" ∨ p.z = "home" ∨ p.z = "part" → ∃ q, lv = .ref q ∧ H q = some (.tup (p.w.map V.int))) : WkAt T t1 t2 H0 H' A (turnS s p) (n + 1) ∧ Tups H H' := by
  have kl := W.kn
  have tp : Tups H H' := fun b xs e => k.1 b _ (fun z => by rw [z, hh] at e; cases e) (fun z => by rw [z, kl] at e; cases e) e (fun ps z => by cases z)
  have st : ∀ {b : Addr} {o : HO}, H b = some o → (∀ ps, o ≠ .tbl ps) → (∀ kv, o ≠ .dK kv) → b ≠ A.kn → H' b = some o := fun {b o} e n1 n2 n3 => k.1 b o (fun z => by rw [z, hh] at e; exact n2 _ (Option.some.inj e).symm) n3 e n1
  obtain ⟨kv2, m1, m2⟩ := W.mo
  obtain ⟨ws, d1, d2⟩ := W.du
  obtain ⟨ys, k1, k2⟩ := W.mks
  obtain ⟨zs, a1, a2⟩ := W.an
  have g : Gk (tbs T) H0 H' := ⟨fun b o e t => k.1 b o (fun z => by obtain ⟨ps, h⟩ := W.fh o (z ▸ e); exact t ps h) (fun z => by obtain ⟨ps, h⟩ := W.fk o (z ▸ e); exact t ps h) (W.gk.1 b o e t) t, k.2⟩
  have nkn : ∀ {b : Addr} {o : HO}, H b = some o → (∀ xs, o ≠ .lst xs) → b ≠ A.kn := fun {b o} e n1 z => by rw [z, kl] at e; exact n1 _ (Option.some.inj e).symm
  have ob := st W.ob (fun _ z => by cases z) (fun _ z => by cases z) (nkn W.ob (fun _ z => by cases z))
  have li := tp _ _ W.lim
  have mo : ∃ kvs, Mw H' A.mu kvs s.L (n + 1) ∧ ∀ b, ownM A.mu kvs b → Frs H0 b ∧ b ≠ A.hm := by
    have m3 : Mw H' A.mu kv2 s.L n := m1.keep fun b o ow e => by
      obtain ⟨dk, e3⟩ := m1.dk ow
      rw [e3] at e
      cases e
      exact k.1 b _ (m2 b ow).2 (nkn e3 (fun _ z => by cases z)) e3 (fun ps z => by cases z)
    exact ⟨kv2, ⟨m3.hmu, Nat.le_succ_of_le m3.len, m3.no, fun nm v hv => let ⟨da, dk, a, b, c, d, e⟩ := m3.yes nm v hv; ⟨da, dk, a, b, c, by omega, e⟩, m3.inj⟩, m2⟩
  have du := st d1 (fun _ z => by cases z) (fun _ z => by cases z) W.kd.symm
  have mk := st k1 (fun _ z => by cases z) (fun _ z => by cases z) W.km.symm
  have an := st a1 (fun _ z => by cases z) (fun _ z => by cases z) W.ka.symm
  have kn' := W.knl
  have base : ∀ (hs' : Str → Option (List Int)) (ks' : List Str) (kvs' : List (Key × V)), H' A.hm = some (.dK kvs') → kvs'.length ≤ n + 1 → HmAt H' kvs' hs' → H' A.kn = some (.lst (ks'.map V.str)) → ks'.length ≤ n + 1 → WkAt T t1 t2 H0 H' A { s with hs := hs', kn := ks' } (n + 1) := fun hs' ks' kvs' h1 h2 h3 h4 h5 =>
    { gk := g, ob := ob, lim := li, hm := ⟨kvs', h1, h2, h3⟩, mo := mo, kn := h4, knl := h5, du := ⟨ws, du, d2.at tp⟩, mks := ⟨ys, mk, k2.at tp⟩, an := ⟨zs, an, a2.keep tp fun l ys n1 _ _ _ e => st e (fun _ z => by cases z) (fun _ z => by cases z) n1⟩
      fw := W.fw, fh := W.fh, fk := W.fk, fd := W.fd, fm := W.fm, fa := W.fa, kd := W.kd, km := W.km, ka := W.ka, dm := W.dm, da := W.da, ma := W.ma }
  refine ⟨?_, tp⟩
  have put : ∀ (x : Str), (p.z = "house" ∨ p.z = "home" ∨ p.z = "part") → (putK kvs (.inr x) lv).length ≤ n + 1 ∧ HmAt H' (putK kvs (.inr x) lv) (setH s.hs x (some p.w)) := fun x hz => by
    obtain ⟨q, rfl, hq⟩ := hl hz
    exact ⟨Nat.le_trans put_len (Nat.succ_le_succ lk), hm.put tp (tp _ _ hq)⟩
  have one : ∀ x : Str, (s.kn ++ [x]).length ≤ n + 1 := fun x => by rw [List.length_append]; exact Nat.succ_le_succ kn'
  unfold nextH at e1
  unfold nextK at e2
  unfold turnS
  by_cases c1 : p.z = "house"
  · rw [if_pos c1] at e1 e2 ⊢
    exact base _ _ _ e1 (put _ (.inl c1)).1 (put _ (.inl c1)).2 e2 (one _)
  rw [if_neg c1] at e1 e2 ⊢
  by_cases c2 : p.z = "part"
  · rw [if_pos c2] at e1 e2 ⊢
    exact base _ _ _ e1 (put _ (.inr (.inr c2))).1 (put _ (.inr (.inr c2))).2 e2 (one _)
  rw [if_neg c2] at e1 e2 ⊢
  by_cases c3 : p.z = "join"
  · rw [if_pos c3] at e1 ⊢
    exact base _ s.kn _ e1 (Nat.le_trans drop_len (by omega)) (hm.drop tp _) e2 (by omega)
  rw [if_neg c3] at e1 ⊢
  by_cases c4 : p.z = "home"
  · rw [if_pos c4] at e1 ⊢
    exact base _ s.kn _ e1 (put _ (.inr (.inl c4))).1 (put _ (.inr (.inl c4))).2 e2 (by omega)
  rw [if_neg c4] at e1 ⊢
  exact base s.hs s.kn _ e1 (by omega) (hm.at tp) e2 (by omega)
/-- a mourning told -/
theorem WkAt.addMo {T : Tx K mg w} {t1 t2 : Int} {H0 H H' : Hp} {A : WA} {s : WS} {n m : Nat} {kvs kvs' : List (Key × V)} {L' : List (Str × Int × Int)} (W : WkAt T t1 t2 H0 H A s n) (M0 : Mw H A.mu kvs s.L n) (fr : ∀ b, ownM A.mu kvs b → Frs H0 b ∧ b ≠ A.hm) (M : Mu (Hv H A.mu kvs) H' A.mu kvs' L' m) (le : n ≤ m) :
    WkAt T t1 t2 H0 H' A { s with L := L' } m ∧ Tups H H' := by
  have st : ∀ {b : Addr} {o : HO}, H b = some o → ¬ ownM A.mu kvs b → H' b = some o := fun {b o} e no => M.sm _ _ (hv_some e no)
  have nd : ∀ {b : Addr} {o : HO}, H b = some o → (∀ kv, o ≠ .dK kv) → ¬ ownM A.mu kvs b := fun {b o} e n1 ow => by
    obtain ⟨dk, e2⟩ := M0.dk ow
    rw [e2] at e
    exact n1 _ (Option.some.inj e).symm
  have tp : Tups H H' := fun b xs e => st e (nd e (fun _ z => by cases z))
  have g : Gk (tbs T) H0 H' := ⟨fun b o e t => st (W.gk.1 b o e t) (fun ow => by obtain ⟨ps, h⟩ := (fr b ow).1 o e; exact t ps h), fun b hb => by
    obtain ⟨ps, e, q⟩ := W.gk.2 b hb
    exact ⟨ps, st e (nd e (fun _ z => by cases z)), q⟩⟩
  obtain ⟨kv1, h1, h2, h3⟩ := W.hm
  obtain ⟨ws, d1, d2⟩ := W.du
  obtain ⟨ys, k1, k2⟩ := W.mks
  obtain ⟨zs, a1, a2⟩ := W.an
  have nh : ¬ ownM A.mu kvs A.hm := fun ow => (fr _ ow).2 rfl
  refine ⟨{ gk := g, ob := st W.ob (nd W.ob (fun _ z => by cases z)), lim := tp _ _ W.lim, hm := ⟨kv1, st h1 nh, by omega, h3.at tp⟩
            mo := ⟨kvs', M.mw, fun b ow => ?_⟩, kn := st W.kn (nd W.kn (fun _ z => by cases z)), knl := Nat.le_trans W.knl le
            du := ⟨ws, st d1 (nd d1 (fun _ z => by cases z)), d2.at tp⟩, mks := ⟨ys, st k1 (nd k1 (fun _ z => by cases z)), k2.at tp⟩, an := ⟨zs, st a1 (nd a1 (fun _ z => by cases z)), a2.keep tp fun l ys _ _ _ _ e => st e (nd e (fun _ z => by cases z))⟩
            fw := W.fw, fh := W.fh, fk := W.fk, fd := W.fd, fm := W.fm, fa := W.fa, kd := W.kd, km := W.km, ka := W.ka, dm := W.dm, da := W.da, ma := W.ma }, tp⟩
  have hn := M.own ow
  refine ⟨?_, fun z => ?_⟩
  · rcases hv_none hn with o2 | e
    · exact (fr b o2).1
    · exact fr_new W.gk e
  · rw [z, hv_some h1 nh] at hn
    cases hn
def metB (s : WS) (p : Pg) : Bool := decide (p.z = "visit") && (homeB s (p.b.getD p.a) p.d && !dayB s.L p.a p.d)
def ansB (met : Bool) (p : Pg) (u : Due) : Bool := decide ((u.ow, u.od) = (p.a, p.b.getD p.a)) && (met || !u.vis)
/-- a going: what stands behind it, its mark -/
def goS (s : WS) (k : NestedKey) : WS × NestedKey :=
  if s.ds.filter (ansB (metB s (pgK k)) (pgK k)) = [] then ({ s with ds := s.ds ++ [⟨(pgK k).b.getD (pgK k).a, (pgK k).a, metB s (pgK k), k, []⟩] }, .tup [.text "due"])
  else ({ s with ds := s.ds.filter fun u => !ansB (metB s (pgK k)) (pgK k) u, an := s.an ++ [(k, s.ds.filter (ansB (metB s (pgK k)) (pgK k)))] }, .tup [.text "answer", .num ((s.ds.filter (ansB (metB s (pgK k)) (pgK k))).length : Int)])
theorem sort_inj : ∀ {a b : Bool}, sortS a = sortS b → a = b := by decide +kernel
theorem due_inj {u v : Due} (h : dueK u = dueK v) : u = v := by
  unfold dueK at h
  injection h with h
  injection h with h1 h
  injection h with h2 h
  injection h with h3 h
  injection h with h4 h
  injection h with h5 h
  injection h1 with h1
  injection h2 with h2
  injection h3 with h3
  injection h5 with h5
  have h6 : u.fl = v.fl := by
    have := congrArg numsK h5
    rwa [nums_map, nums_map] at this
  cases u
  cases v
  cases h1
  cases h2
  cases h4
  cases h6
  cases sort_inj h3
  rfl
theorem sort_card (v : Bool) : decide (V.str (sortS v) = V.str "card") = !v := by cases v <;> decide +kernel
theorem go_view {H : Hp} {pa : Addr} {k : NestedKey} (n : Nk H (.ref pa) k) (p : PgK k) (z : (pgK k).z = "card" ∨ (pgK k).z = "visit") : ∃ b, (pgK k).b = some b ∧ H pa = some (.tup [.str (pgK k).z, .int (pgK k).d, .str (pgK k).a, .str b]) := by
  obtain ⟨pa', lv, r, e, hp, vw, _⟩ := pg_at n p
  cases e
  generalize pgK k = q at hp vw z ⊢
  obtain ⟨qz, qd, qa, qb, qw, qm⟩ := q
  dsimp only at hp vw z ⊢
  cases vw
  case card => exact ⟨_, rfl, hp⟩
  case visit => exact ⟨_, rfl, hp⟩
  all_goals exact absurd z (by decide +kernel)
def spGo (T : Tx K mg w) : Sp := fun vs H Q _ => ∃ (t1 t2 : Int) (H0 : Hp) (A : WA) (s : WS) (n : Nat) (pa : Addr) (k : NestedKey), vs = [.ref A.wa, .ref pa] ∧ WkAt T t1 t2 H0 H A s n ∧ Nk H (.ref pa) k ∧ PgK k ∧ ((pgK k).z = "card" ∨ (pgK k).z = "visit") ∧ (∀ b, (pgK k).b = some b → (s.hs b).isSome = true) ∧
  s.ds.length ≤ 60000 ∧ s.an.length ≤ 400 ∧ (∀ u ∈ s.ds, (dueK u).depth ≤ 50) ∧ ∀ du' m H', WkAt T t1 t2 H0 H' { A with du := du' } (goS s k).1 n → Nk H' m (goS s k).2 → Tups H H' → Q m H'
theorem ok_go (T : Tx K mg w) : FnOk P w K mg base CX0 4 T.f_Walk_go_out T.d_Walk_go_out ["self", "page"] (spGo T) := by
  have G_Walk_mourns_on : FnOk P w K mg base CX0 2 T.f_Walk_mourns_on T.d_Walk_mourns_on ["self", "name", "day"] (spMn T) := ok_mn T
  have G_Walk_at_home_on : FnOk P w K mg base CX0 3 T.f_Walk_at_home_on T.d_Walk_at_home_on ["self", "name", "day"] (spHo T) := ok_ho T
  refine T.F_Walk_go_out.ok S_Walk_go_out (fun vs H Q E h => ?_) (fun cdv A0 outer sx H vs Q E hr h => ?_)
  · obtain ⟨t1, t2, H0, A, s, n, pa, k, rfl, _⟩ := h
    rfl
  · obtain ⟨t1, t2, H0, A, s, n, pa, k, rfl, W, nk, pk, zk, hb, ld, la, dd, q⟩ := h
    refine ⟨_, (pss_cons (ps_asg (pv 1) (pg_tup rfl (pgs_cons (pg_name (i := 2) S_Walk_go_out.nd rfl (.inl rfl)) (pgs_cons (pg_name (i := 3) S_Walk_go_out.nd rfl (.inl rfl)) (pgs_cons (pg_name (i := 4) S_Walk_go_out.nd rfl (.inr rfl)) (pgs_cons (pg_name (i := 5) S_Walk_go_out.nd rfl (.inr rfl)) pgs_nil))))))
      (pss_cons (ps_set (i := 6) S_Walk_go_out.nd rfl (.inr rfl) (pe_and (pe_cmpR op_eq (pv 2) pe_str (nomark _)) (pe_and (pe_meth (pv 0) T.cl_Walk T.me_Walk_at_home_on G_Walk_at_home_on hr T.b_Walk_at_home_on .nil pass0 (pa_cons (pv 5) (pa_cons (pv 3) pa_nil))) (pe_one (pe_not (pe_meth (pv 0) T.cl_Walk T.me_Walk_mourns_on G_Walk_mourns_on (hr.mono (by decide)) T.b_Walk_mourns_on .nil pass0 (pa_cons (pv 4) (pa_cons (pv 3) pa_nil))))))))
      (pss_cons (ps_set (i := 7) S_Walk_go_out.nd rfl (.inr rfl) (pe_lc (own := [("due", 8)]) (g := gName 8) (by rfl) S_Walk_go_out.nd (pi_list (pe_fld (pv 0) rfl)) (blkOk_by (own := [("due", 8)]) (N := N_Walk_go_out) (sc := defScope s_Walk_go_out) (by decide +kernel)) (fun _ _ _ _ _ => (pg_name (i := 8) S_Walk_go_out.nd rfl (.inl rfl))) (fun _ _ _ _ _ => (pts_one (PW.pt (pw_and (pt_cmpR (r := rEqP K fun b => b) (op_eqP (un64 hr)) (pe_slice (r := rSlA K) sl_tupA (pv 8) po_none (po_some pe_int)) (pe_tup (pa_cons (pv 4) (pa_cons (pv 5) pa_nil))) (nomark _)) (pw_and1 (PW.pt (pw_or (pt_val (pv 6)) (pw_or1 (pt_cmpR op_eq (pe_ix (r := rIxT K) ix_tup (pv 8) pe_int (fun _ _ => rfl)) pe_str (nomark _)))))))))) (fun _ _ _ _ _ => (pv 8))))
      (pss_cons (ps_if (pt_truth (pv 7) (by intro _; rfl)) (pss_cons (ps_fld (pv 0) (pe_lc (own := [("due", 8)]) (g := gName 8) (by rfl) S_Walk_go_out.nd (pi_list (pe_fld (pv 0) rfl)) (blkOk_by (own := [("due", 8)]) (N := N_Walk_go_out) (sc := defScope s_Walk_go_out) (by decide +kernel)) (fun _ _ _ _ _ => (pg_name (i := 8) S_Walk_go_out.nd rfl (.inl rfl))) (fun _ _ _ _ _ => (pts_one (pt_cmpR (r := rInN K true) (op_notInN hr.units) (pv 8) (pv 7) (by rfl)))) (fun _ _ _ _ _ => (pv 8))) rfl)
      (pss_cons (ps_expr (pe_bm PySem.F.plainAttrs_list PySem.F.slot_list_append PySem.F.type_list_append mt_append (pe_fld (pv 0) rfl) (pa_cons (pe_tup (pa_cons (pv 1) (pa_cons (pv 7) pa_nil))) pa_nil)))
      (pss_one (ps_ret (pe_tup (pa_cons pe_str (pa_cons (pe_callB call_len_seq (by rfl) T.m_len PySem.boot_len (pa_cons (pv 7) pa_nil)) pa_nil))))))) pss_nil)
      (pss_cons (ps_expr (pe_bm PySem.F.plainAttrs_list PySem.F.slot_list_append PySem.F.type_list_append mt_append (pe_fld (pv 0) rfl) (pa_cons (pe_tup (pa_cons (pv 5) (pa_cons (pv 4) (pa_cons (pe_ifExp (pt_val (pv 6)) pe_str pe_str) (pa_cons (pv 1) (pa_cons (pe_tup pa_nil) pa_nil)))))) pa_nil)))
      (pss_one (ps_ret (pe_tup (pa_cons pe_str pa_nil))))))))), ?_⟩
    obtain ⟨b, eb, hp⟩ := go_view nk pk zk
    have hbb := hb b eb
    obtain ⟨p, ep⟩ : ∃ p, p = pgK k := ⟨_, rfl⟩
    unfold goS at q
    rw [← ep] at zk eb hp q
    rw [eb, Option.getD_some] at q
    obtain ⟨met, em⟩ : ∃ met, met = metB s p := ⟨_, rfl⟩
    rw [← em] at q
    refine ⟨_, rfl, pa, _, rfl, .inl (.inl hp), rfl, _, _, rfl, _, _, rfl, _, _, rfl, _, _, rfl, rfl, ?_⟩
    refine ⟨_, rfl, rfl, _, rfl, ite2 (fun e => ?A) (fun e => ?B)⟩
    case' A =>
      refine ⟨_, rfl, A.wa, _, _, rfl, W.ob, rfl, _, rfl, _, rfl, t1, t2, H0, A, s, n, b, p.d, rfl, W, hbb, fun H1 m1 => ⟨_, rfl, ite2 (fun e2 => ?C) (fun e2 => ?D)⟩⟩
    case' C =>
      refine ⟨_, rfl, A.wa, _, _, rfl, (W.same m1).ob, rfl, _, rfl, _, rfl, t1, t2, H0, A, s, n, p.a, p.d, rfl, W.same m1, fun H2 m2 => ⟨_, rfl, ?_⟩⟩
      have hmet : met = !dayB s.L p.a p.d := by
        rw [em]; unfold metB
        rw [eb, Option.getD_some, show homeB s b p.d = true from e2, show decide (p.z = "visit") = true from decide_eq_true (V.str.inj (of_decide_eq_true e))]
        rfl
      have sx := m1.trans m2
      clear m1 m2 e e2
    case' D =>
      have hmet : met = false := by
        rw [em]; unfold metB
        rw [eb, Option.getD_some, show homeB s b p.d = false from Bool.eq_false_iff.mpr e2, Bool.false_and, Bool.and_false]
      have sx := m1
      clear m1 e e2
    case' B =>
      have hmet : met = false := by
        rw [em]; unfold metB
        rw [show decide (p.z = "visit") = false from decide_eq_false fun z => e (decide_eq_true (by rw [z]))]
        rfl
      obtain ⟨Hx, ex⟩ : ∃ Hx, Hx = H := ⟨_, rfl⟩
      have sx : Same H Hx := by rw [ex]; exact Same.refl H
      clear e
      rw [← ex]
    case' C => generalize H2 = Hx at sx ⊢
    case' D => generalize H1 = Hx at sx ⊢
    all_goals
      have Wx := W.same sx
      obtain ⟨us, u1, u2⟩ := Wx.du
      have lu : us.length = s.ds.length := by rw [u2.length, List.length_map]
      refine ⟨_, rfl, A.wa, _, _, _, _, rfl, Wx.ob, T.cl_Walk, T.na_Walk_dues, rfl, A.du, rfl, ⟨_, .inl (.inl u1)⟩, fun D nD => ?_⟩
      refine lc_list (xs := us) (fun i Hy => ∃ acc, Same Hx Hy ∧ Hy D = some (.lst acc) ∧ NkAll Hy acc (((s.ds.take i).filter (ansB met p)).map dueK) ∧ acc.length ≤ i) ⟨[], same_upd nD, upd_same, .nil, Nat.le_refl _⟩ (fun i Hy hi ⟨_, m, _⟩ => .inl (.inl (m _ _ u1))) ?_ ?_
      · rintro i x Hy hi ⟨acc, m, hD, nka, la'⟩
        obtain ⟨kk, hk, nx⟩ := u2.get hi
        rw [List.getElem?_map] at hk
        obtain ⟨u, hu, rfl⟩ := Option.map_eq_some_iff.mp hk
        have nx := nx.at (.same m)
        obtain ⟨b', c, pv, rfl, hb', np, hc⟩ := due_at nx
        have um : u ∈ s.ds := List.mem_of_getElem? hu
        have lt : i < us.length := (List.getElem?_eq_some_iff.mp hi).1
        have fy : ∀ H4, Same Hy H4 → ansB met p u = true → ∃ acc, H4 D = some (HO.lst acc) ∧ acc.length < sizeLine ∧ ∃ acc_1, Same Hx (upd H4 D (HO.lst (acc ++ [V.ref b']))) ∧ upd H4 D (HO.lst (acc ++ [V.ref b'])) D = some (HO.lst acc_1) ∧ NkAll (upd H4 D (HO.lst (acc ++ [V.ref b']))) acc_1 (((s.ds.take (i + 1)).filter (ansB met p)).map dueK) ∧ acc_1.length ≤ i + 1 := fun H4 m4 an => by
          have tp : Tups H4 (upd H4 D (.lst (acc ++ [V.ref b']))) := fun c xs e => by rw [upd_ne (fun z => by rw [z, m4 _ _ hD] at e; cases e)]; exact e
          refine ⟨acc, m4 _ _ hD, smallL (by omega), _, same_fresh nD (m.trans m4), upd_same, ?_, by rw [List.length_append]; exact Nat.succ_le_succ la'⟩
          rw [List.take_add_one, hu, List.filter_append, List.map_append]
          refine (nka.at ((Tups.same m4).trans tp)).app ?_
          show NkAll _ _ (List.map dueK (List.filter (ansB met p) [u]))
          rw [List.filter_cons, if_pos an]
          exact .cons (nx.at ((Tups.same m4).trans tp)) .nil
        have fn : ∀ H4, Same Hy H4 → ansB met p u = false → ∃ acc, Same Hx H4 ∧ H4 D = some (HO.lst acc) ∧ NkAll H4 acc (((s.ds.take (i + 1)).filter (ansB met p)).map dueK) ∧ acc.length ≤ i + 1 := fun H4 m4 an => by
          refine ⟨acc, m.trans m4, m4 _ _ hD, ?_, by omega⟩
          rw [List.take_add_one, hu, List.filter_append, List.map_append]
          show NkAll _ _ (_ ++ List.map dueK (List.filter (ansB met p) [u]))
          rw [List.filter_cons, if_neg (by rw [an]; decide), List.filter_nil, List.map_nil, List.append_nil]
          exact nka.at (.same m4)
        refine ⟨rfl, _, rfl, np_in ⟨2, rfl, sl_in hb' fun c1 H5 s5 h5 => ?_⟩⟩
        refine ⟨_, rfl, _, rfl, sz (by show 2 ≤ 1000; decide), fun r nr => ?_⟩
        have s6 := s5.trans (same_upd (o := .tup [.str p.a, .str b]) nr)
        have h6 := same_upd (o := .tup [.str p.a, .str b]) nr _ _ h5
        have hr6 := upd_same (H := H5) (a := r) (o := .tup [.str p.a, .str b])
        generalize upd H5 r (.tup [.str p.a, .str b]) = H6 at s6 h6 hr6 ⊢
        have ha : ansB met p u = (decide ((u.ow, u.od) = (p.a, b)) && (met || !u.vis)) := by unfold ansB; rw [eb, Option.getD_some]
        refine ⟨c1, r, (u.ow, u.od), (p.a, b), rfl, rfl, .inl (.inl h6), .inl (.inl hr6), _, rfl, ite2 (fun e1 => ?_) (fun e1 => ?_)⟩
        · have e1 : decide ((u.ow, u.od) = (p.a, b)) = true := e1
          rw [e1, Bool.true_and] at ha
          refine ⟨_, rfl, _, rfl, ite2 (fun e2 => ?_) (fun e2 => ?_)⟩
          · have e3 : met = true := hmet.trans e2
            exact ⟨_, rfl, fy _ s6 (by rw [ha, e3]; rfl)⟩
          · have e3 : met = false := Bool.eq_false_iff.mpr fun z => e2 (hmet.symm.trans z)
            have ha : ansB met p u = !u.vis := by rw [ha, e3, Bool.false_or]
            refine ⟨_, rfl, b', _, 2, .str (sortS u.vis), rfl, rfl, .inl (.inl (s6 _ _ hb')), rfl, rfl, _, rfl, ?_⟩
            rw [sort_card]
            cases hv : u.vis
            · exact iteT ⟨_, rfl, fy _ s6 (by rw [ha, hv]; rfl)⟩
            · exact iteF (fn _ s6 (by rw [ha, hv]; rfl))
        · have e1 : decide ((u.ow, u.od) = (p.a, b)) = false := Bool.eq_false_iff.mpr e1
          rw [e1, Bool.false_and] at ha
          exact fn _ s6 ha
      · rintro Hy ⟨acc, m, hD, nka, la'⟩
        rw [List.take_of_length_le (by rw [lu]; exact Nat.le_refl _)] at nka
        have Wy := Wx.same m
        refine ⟨_, rfl, _, .inl ⟨acc, .inl (.inl hD), rfl⟩, ite2 (fun e => ?_) (fun e => ?_)⟩
        · have ne : s.ds.filter (ansB met p) ≠ [] := fun z => by
            rw [z] at nka
            cases nka
            exact absurd e (by decide)
          rw [if_neg ne] at q
          obtain ⟨ws, w1, w2⟩ := Wy.du
          have lw : ws.length = s.ds.length := by rw [w2.length, List.length_map]
          refine ⟨_, rfl, A.wa, _, _, _, _, rfl, Wy.ob, T.cl_Walk, T.na_Walk_dues, rfl, A.du, rfl, ⟨_, .inl (.inl w1)⟩, fun D2 nD2 => ?_⟩
          refine lc_list (xs := ws) (fun i Hz => ∃ acc2, Same Hy Hz ∧ Hz D2 = some (.lst acc2) ∧ NkAll Hz acc2 (((s.ds.take i).filter fun u => !ansB met p u).map dueK) ∧ acc2.length ≤ i) ⟨[], same_upd nD2, upd_same, .nil, Nat.le_refl _⟩ (fun i Hz hi ⟨_, m, _⟩ => .inl (.inl (m _ _ w1))) ?_ ?_
          · rintro i x Hz hi ⟨acc2, mz, hD2, nk2, l2⟩
            obtain ⟨kk, hk, nx⟩ := w2.get hi
            rw [List.getElem?_map] at hk
            obtain ⟨u, hu, rfl⟩ := Option.map_eq_some_iff.mp hk
            have nx := nx.at (.same mz)
            have um : u ∈ s.ds := List.mem_of_getElem? hu
            have lt : i < ws.length := (List.getElem?_eq_some_iff.mp hi).1
            have inn : (!decide (dueK u ∈ (s.ds.filter (ansB met p)).map dueK)) = !ansB met p u := by
              congr 1
              rw [Bool.eq_iff_iff, decide_eq_true_eq]
              constructor
              · intro h
                obtain ⟨v, hv, ev⟩ := List.mem_map.mp h
                rw [← due_inj ev]
                exact (List.mem_filter.mp hv).2
              · exact fun h => List.mem_map.mpr ⟨u, List.mem_filter.mpr ⟨um, h⟩, rfl⟩
            refine ⟨rfl, _, rfl, _, rfl, D, acc, dueK u, _, rfl, .inl (.inl (.inl (mz _ _ hD))), nx, nka.at (.same mz), dd u um, _, rfl, ?_⟩
            rw [if_pos rfl, inn]
            refine ite2 (fun e2 => ?_) (fun e2 => ?_)
            · have tp : Tups Hz (upd Hz D2 (.lst (acc2 ++ [x]))) := fun c xs e => by rw [upd_ne (fun z => by rw [z, hD2] at e; cases e)]; exact e
              refine ⟨_, rfl, acc2, hD2, smallL (by omega), _, same_fresh nD2 mz, upd_same, ?_, by rw [List.length_append]; exact Nat.succ_le_succ l2⟩
              rw [List.take_add_one, hu, List.filter_append, List.map_append]
              refine (nk2.at tp).app ?_
              show NkAll _ _ (List.map dueK (List.filter (fun u => !ansB met p u) [u]))
              rw [List.filter_cons, if_pos e2]
              exact .cons (nx.at tp) .nil
            · refine ⟨acc2, mz, hD2, ?_, by omega⟩
              rw [List.take_add_one, hu, List.filter_append, List.map_append]
              show NkAll _ _ (_ ++ List.map dueK (List.filter (fun u => !ansB met p u) [u]))
              rw [List.filter_cons, if_neg e2, List.filter_nil, List.map_nil, List.append_nil]
              exact nk2
          · rintro Hz ⟨acc2, mz, hD2, nk2, l2⟩
            rw [List.take_of_length_le (by rw [lw]; exact Nat.le_refl _)] at nk2
            have Wz := Wy.same mz
            refine ⟨_, rfl, A.wa, _, _, _, rfl, Wz.ob, T.cl_Walk, T.na_Walk_dues, (by show 10 < 1000; decide), ?_⟩
            have hf : putF "dues" (V.ref D2) (fldsW A s) = fldsW { A with du := D2 } { s with ds := s.ds.filter fun u => !ansB met p u, cp := s.cp, sk := s.sk, sp := s.sp } := rfl
            rw [hf]
            obtain ⟨ys, k1, _⟩ := Wy.mks
            obtain ⟨zs, a1, a2⟩ := Wy.an
            have W4 := Wy.putDu mz nD2 (s.ds.filter fun u => !ansB met p u) s.cp s.sk s.sp hD2 nk2
            have t4 := Wz.tupne (o := .ins T.C_Walk A.dx (fldsW { A with du := D2 } { s with ds := s.ds.filter fun u => !ansB met p u, cp := s.cp, sk := s.sk, sp := s.sp }))
            have hD4 : upd Hz A.wa (.ins T.C_Walk A.dx (fldsW { A with du := D2 } { s with ds := s.ds.filter fun u => !ansB met p u, cp := s.cp, sk := s.sk, sp := s.sp })) D = some (.lst acc) := by
              rw [upd_ne (fun z => by have := mz _ _ hD; rw [z, Wz.ob] at this; cases this)]
              exact mz _ _ hD
            generalize upd Hz A.wa (.ins T.C_Walk A.dx (fldsW { A with du := D2 } { s with ds := s.ds.filter fun u => !ansB met p u, cp := s.cp, sk := s.sk, sp := s.sp })) = H4 at W4 t4 hD4 ⊢
            obtain ⟨bs, b1, b2⟩ := W4.an
            refine ⟨_, rfl, A.wa, _, _, _, _, rfl, W4.ob, T.cl_Walk, T.na_Walk_answers, rfl, .inl ⟨rfl, _, .inl (.inl b1)⟩, ?_⟩
            refine ⟨_, rfl, _, rfl, sz (by show 2 ≤ 1000; decide), fun r nr => ?_⟩
            have s5 := same_upd (o := .tup [.ref pa, .ref D]) nr
            have W5 := W4.same s5
            have hD5 := s5 _ _ hD4
            have b15 := s5 _ _ b1
            have hr5 := upd_same (H := H4) (a := r) (o := .tup [.ref pa, .ref D])
            generalize upd H4 r (.tup [.ref pa, .ref D]) = H5 at s5 W5 hD5 b15 hr5 ⊢
            refine ⟨A.an, bs, .ref r, rfl, rfl, b15, smallL (by rw [b2.length]; show s.an.length ≤ 100000; omega), ?_⟩
            have nx5 : NkAll H5 acc ((s.ds.filter (ansB met p)).map dueK) := nka.at ((Tups.same mz).trans (t4.trans (.same s5)))
            have b25 : AnsAll H5 { A with du := D2 } bs s.an := b2.keep (.same s5) fun l ys _ _ _ _ e => s5 _ _ e
            have w6 : AnsAt H5 { A with du := D2 } (.ref r) (k, s.ds.filter (ansB met p)) := ⟨r, D, .ref pa, acc, rfl, hr5, nk.at ((Tups.same sx).trans ((Tups.same m).trans ((Tups.same mz).trans (t4.trans (.same s5))))), hD5, nx5, (ne_of_none Wx.kn nD).symm, (show D ≠ D2 from ne_of_none hD nD2), (let ⟨_, ax, _⟩ := Wx.mks; (ne_of_none ax nD).symm), (let ⟨_, ax, _⟩ := Wx.an; (ne_of_none ax nD).symm)⟩
            have W6 := W5.setAn (b25.snoc w6)
            have t6 : Tups H5 (upd H5 A.an (.lst (bs ++ [.ref r]))) := fun c xs e => by rw [upd_ne (fun z => by rw [z, b15] at e; cases e)]; exact e
            have hD6 : upd H5 A.an (.lst (bs ++ [.ref r])) D = some (.lst acc) := by
              rw [upd_ne (fun z => by obtain ⟨_, ax, _⟩ := Wx.an; rw [← z, nD] at ax; cases ax)]
              exact hD5
            generalize upd H5 A.an (.lst (bs ++ [.ref r])) = H6 at W6 t6 hD6 ⊢
            refine ⟨_, rfl, D, acc, rfl, .inl (.inl (.inl hD6)), sz (by show 2 ≤ 1000; decide), fun r2 nr2 => ?_⟩
            have s7 := same_upd (o := .tup [.str "answer", .int (acc.length : Int)]) nr2
            have hr7 := upd_same (H := H6) (a := r2) (o := .tup [.str "answer", .int (acc.length : Int)])
            have la3 : acc.length = (s.ds.filter (ansB met p)).length := by rw [nka.length, List.length_map]
            refine q D2 _ _ (W6.same s7) (.tup hr7 (.cons (.str _) (.cons ?_ .nil))) ((Tups.same sx).trans ((Tups.same m).trans ((Tups.same mz).trans (t4.trans ((Tups.same s5).trans (t6.trans (.same s7)))))))
            rw [la3]
            exact .int _
        · have em2 : s.ds.filter (ansB met p) = [] := by
            have : acc = [] := by
              cases acc with
              | nil => rfl
              | cons _ _ => exact absurd rfl e
            rw [this] at nka
            cases h : s.ds.filter (ansB met p) with
            | nil => rfl
            | cons _ _ => rw [h] at nka; cases nka
          rw [if_pos em2] at q
          obtain ⟨ws, w1, w2⟩ := Wy.du
          have lw : ws.length = s.ds.length := by rw [w2.length, List.length_map]
          refine ⟨_, rfl, A.wa, _, _, _, _, rfl, Wy.ob, T.cl_Walk, T.na_Walk_dues, rfl, .inl ⟨rfl, _, .inl (.inl w1)⟩, ?_⟩
          refine ⟨_, rfl, _, rfl, _, rfl, _, rfl, ite2 (fun e2 => ?_) (fun e2 => ?_)⟩
          · have em3 : "visit" = sortS met := by rw [show met = true from hmet.trans e2]; rfl
            refine ⟨_, rfl, sz (by show 0 ≤ 1000; decide), fun r1 n1 => ?_⟩
            have s3 := same_upd (o := .tup []) n1
            have h3 := upd_same (H := Hy) (a := r1) (o := .tup [])
            generalize upd Hy r1 (.tup []) = H3 at s3 h3 ⊢
            refine ⟨sz (by show 5 ≤ 1000; decide), fun r2 n2 => ?_⟩
            have s4 := same_upd (o := .tup [.str b, .str p.a, .str "visit", .ref pa, .ref r1]) n2
            have h4 := upd_same (H := H3) (a := r2) (o := .tup [.str b, .str p.a, .str "visit", .ref pa, .ref r1])
            generalize upd H3 r2 (.tup [.str b, .str p.a, .str "visit", .ref pa, .ref r1]) = H4 at s4 h4 ⊢
            have W4 := (Wy.same s3).same s4
            have w14 := s4 _ _ (s3 _ _ w1)
            refine ⟨A.du, ws, .ref r2, rfl, rfl, w14, smallL (by omega), ?_⟩
            have t5 : Tups H4 (upd H4 A.du (.lst (ws ++ [.ref r2]))) := fun c xs e => by rw [upd_ne (fun z => by rw [z, w14] at e; cases e)]; exact e
            have W5 := W4.setDu (xs := ws ++ [.ref r2]) (ds' := s.ds ++ [⟨b, p.a, met, k, []⟩]) (by
              rw [List.map_append]
              refine (w2.at ((Tups.same s3).trans (.same s4))).app (.cons ?_ .nil)
              refine due_mk (b := r2) (c := r1) (pv := .ref pa) (u := ⟨b, p.a, met, k, []⟩) ?_ (nk.at ((Tups.same sx).trans ((Tups.same m).trans ((Tups.same s3).trans (.same s4))))) (s4 _ _ h3)
              rw [← em3]
              exact h4)
            generalize upd H4 A.du (.lst (ws ++ [.ref r2])) = H5 at t5 W5 ⊢
            refine ⟨sz (by show 1 ≤ 1000; decide), fun r3 n3 => ?_⟩
            have s6 := same_upd (o := .tup [.str "due"]) n3
            have hr6 := upd_same (H := H5) (a := r3) (o := .tup [.str "due"])
            exact q A.du _ _ (W5.same s6) (.tup hr6 (.cons (.str _) .nil)) ((Tups.same sx).trans ((Tups.same m).trans ((Tups.same s3).trans ((Tups.same s4).trans (t5.trans (.same s6))))))
          · have em3 : "card" = sortS met := by rw [show met = false from Bool.eq_false_iff.mpr fun z => e2 (hmet.symm.trans z)]; rfl
            refine ⟨_, rfl, sz (by show 0 ≤ 1000; decide), fun r1 n1 => ?_⟩
            have s3 := same_upd (o := .tup []) n1
            have h3 := upd_same (H := Hy) (a := r1) (o := .tup [])
            generalize upd Hy r1 (.tup []) = H3 at s3 h3 ⊢
            refine ⟨sz (by show 5 ≤ 1000; decide), fun r2 n2 => ?_⟩
            have s4 := same_upd (o := .tup [.str b, .str p.a, .str "card", .ref pa, .ref r1]) n2
            have h4 := upd_same (H := H3) (a := r2) (o := .tup [.str b, .str p.a, .str "card", .ref pa, .ref r1])
            generalize upd H3 r2 (.tup [.str b, .str p.a, .str "card", .ref pa, .ref r1]) = H4 at s4 h4 ⊢
            have W4 := (Wy.same s3).same s4
            have w14 := s4 _ _ (s3 _ _ w1)
            refine ⟨A.du, ws, .ref r2, rfl, rfl, w14, smallL (by omega), ?_⟩
            have t5 : Tups H4 (upd H4 A.du (.lst (ws ++ [.ref r2]))) := fun c xs e => by rw [upd_ne (fun z => by rw [z, w14] at e; cases e)]; exact e
            have W5 := W4.setDu (xs := ws ++ [.ref r2]) (ds' := s.ds ++ [⟨b, p.a, met, k, []⟩]) (by
              rw [List.map_append]
              refine (w2.at ((Tups.same s3).trans (.same s4))).app (.cons ?_ .nil)
              refine due_mk (b := r2) (c := r1) (pv := .ref pa) (u := ⟨b, p.a, met, k, []⟩) ?_ (nk.at ((Tups.same sx).trans ((Tups.same m).trans ((Tups.same s3).trans (.same s4))))) (s4 _ _ h3)
              rw [← em3]
              exact h4)
            generalize upd H4 A.du (.lst (ws ++ [.ref r2])) = H5 at t5 W5 ⊢
            refine ⟨sz (by show 1 ≤ 1000; decide), fun r3 n3 => ?_⟩
            have s6 := same_upd (o := .tup [.str "due"]) n3
            have hr6 := upd_same (H := H5) (a := r3) (o := .tup [.str "due"])
            exact q A.du _ _ (W5.same s6) (.tup hr6 (.cons (.str _) .nil)) ((Tups.same sx).trans ((Tups.same m).trans ((Tups.same s3).trans ((Tups.same s4).trans (t5.trans (.same s6))))))
end
end L20

set_option Elab.async false
set_option linter.all false
set_option maxRecDepth 100000
set_option maxHeartbeats 2000000
/-! Dicts whose keys are tuples of numbers, texts and such tuples, the values things with a place. -/
namespace My
open PySem PySem.Spec PyProof.Rows L2 PySem.SeqAt PySem.W
abbrev EntV := NestedKey × Addr × Addr
def trv (xs : List EntV) : List (NestedKey × Addr × Value) := xs.map fun p => (p.1, p.2.1, Value.ref p.2.2)
def VDraw (P : Program) (w : World) (d : Addr) (xs : List EntV) (h : Heap) : Prop :=
  ∃ o es ep, h.get? d = some o ∧ o.ExactDict ∧ o.data = .dict es ep ∧ es.toList = (trv xs).map (entryOfKey (nestedKind P w)) ∧ ((trv xs).map (·.1)).Nodup ∧ (d == sysModules) = false
def VD (P : Program) (w : World) (d : Addr) (xs : List EntV) : HO := .ext (VDraw P w d xs)
/-- such a dict (of none, too), its keys there -/
def VdAt (P : Program) (w : World) (H : Hp) (d : Addr) (xs : List EntV) : Prop := (H d = some (VD P w d xs) ∨ (xs = [] ∧ H d = some (.dK []))) ∧ ∀ p ∈ xs, Nk H (.ref p.2.1) p.1 ∧ p.1.depth ≤ 8
def putV (xs : List EntV) (k : NestedKey) (a b : Addr) : List EntV := if k ∈ xs.map (·.1) then xs.map (fun p => if p.1 = k then (p.1, p.2.1, b) else p) else xs ++ [(k, a, b)]
theorem trv_keys (xs : List EntV) : (trv xs).map (·.1) = xs.map (·.1) := by
  unfold trv
  rw [List.map_map]
  rfl
theorem atKey_someV {xs : List EntV} {k : NestedKey} : (atKey (trv xs) k).isSome = decide (k ∈ xs.map (·.1)) := by
  induction xs with
  | nil => rfl
  | cons p xs ih =>
    unfold trv atKey at *
    rw [List.map_cons, List.find?_cons]
    by_cases e : p.1 = k
    · subst e
      simp
    · have e2 : ¬ k = p.1 := fun z => e z.symm
      simp only [decide_eq_false e]
      rw [ih, List.map_cons]
      simp [List.mem_cons, e2]
theorem stored_trv (xs : List EntV) (k : NestedKey) (a b : Addr) : storedH (trv xs) k a (.ref b) = trv (putV xs k a b) := by
  unfold storedH putV
  rw [atKey_someV]
  by_cases e : k ∈ xs.map (·.1)
  · rw [decide_eq_true e, if_pos rfl, if_pos e]
    unfold trv
    rw [List.map_map, List.map_map]
    refine List.map_congr_left fun p _ => ?_
    show putAt k (Value.ref b) (p.1, p.2.1, Value.ref p.2.2) = (fun q : EntV => (q.1, q.2.1, Value.ref q.2.2)) (if p.1 = k then (p.1, p.2.1, b) else p)
    unfold putAt
    by_cases c : p.1 = k
    · rw [if_pos c, if_pos c]
    · rw [if_neg c, if_neg c]
  · rw [decide_eq_false e, if_neg Bool.false_ne_true, if_neg e]
    unfold trv
    rw [List.map_append]
    rfl
section
variable {X : Cx} {pins : List (Addr × Obj)} {σ : L2.St} {H : Hp} {s : Shared} {d : Addr} {xs : List EntV}
theorem vd_full (I : Inv X pins σ H s) (h : VdAt X.prog X.w H d xs) : s.heap.DictOfH (nestedKind X.prog X.w) d (trv xs) ∧ (d == sysModules) = false := by
  have keys : ∀ x ∈ trv xs, (nestedKind X.prog X.w).is s.heap x.1 x.2.1 := fun x hx => by
    obtain ⟨p, hp, rfl⟩ := List.mem_map.mp hx
    exact ⟨(h.2 p hp).1.is I rfl, (h.2 p hp).2⟩
  rcases h.1 with e | ⟨rfl, e⟩
  · obtain ⟨⟨o, es, ep, h1, h2, h3, h4, h5, h6⟩, _⟩ := (show ObjOk X.prog X.w H s.heap d (VD X.prog X.w d xs) from I.hok d _ e)
    exact ⟨⟨o, es, ep, h1, h2, h3, h4, keys, h5⟩, h6⟩
  · obtain ⟨z, hd, vs, rel, o, es, ep, h1, h2, h3, h4⟩ := (show ObjOk X.prog X.w H s.heap d (.dK []) from I.hok d _ e)
    cases rel
    have e0 : es.toList = [] := by
      have := h4.2.1
      cases q : es.toList with
      | nil => rfl
      | cons a b => rw [q] at this; cases this
    exact ⟨⟨o, es, ep, h1, h2, h3, e0, keys, List.nodup_nil⟩, hd⟩
theorem vd_new {P : Program} {w : World} {H : Hp} {h : Heap} (m : h.DictOfH (nestedKind P w) d (trv xs)) (hd : (d == sysModules) = false) : ObjOk P w H h d (VD P w d xs) := by
  obtain ⟨o, es, ep, h1, h2, h3, h4, _, h5⟩ := m
  refine ⟨⟨o, es, ep, h1, h2, h3, h4, h5, hd⟩, ⟨o, h1⟩, ?_⟩
  rintro g1 g2 ⟨o, es, ep, k1, k2⟩ up
  exact ⟨o, es, ep, up o k1, k2⟩
theorem vd_mut {P : Program} {w : World} {H : Hp} (h : VdAt P w H d xs) : Mut (H d) := by
  rcases h.1 with e | ⟨_, e⟩ <;> rw [e] <;> trivial
theorem VdAt.at {P : Program} {w : World} {H H' : Hp} (h : VdAt P w H d xs) (t : Tups H H') (e : H' d = H d) : VdAt P w H' d xs := ⟨by rw [e]; exact h.1, fun p hp => ⟨(h.2 p hp).1.at t, (h.2 p hp).2⟩⟩
theorem VdAt.same {P : Program} {w : World} {H H' : Hp} (h : VdAt P w H d xs) (m : Same H H') : VdAt P w H' d xs := by
  refine h.at (.same m) ?_
  rcases h.1 with e | ⟨_, e⟩ <;> rw [e] <;> exact m _ _ e
theorem putV_mem {xs : List EntV} {k : NestedKey} {a b : Addr} {p : EntV} (h : p ∈ putV xs k a b) : (∃ q ∈ xs, q.1 = p.1 ∧ q.2.1 = p.2.1) ∨ (p.1 = k ∧ p.2.1 = a) := by
  unfold putV at h
  split at h
  · obtain ⟨q, hq, rfl⟩ := List.mem_map.mp h
    refine .inl ⟨q, hq, ?_⟩
    split <;> exact ⟨rfl, rfl⟩
  · rcases List.mem_append.mp h with h | h
    · exact .inl ⟨p, h, rfl, rfl⟩
    · rw [List.mem_singleton.mp h]; exact .inr ⟨rfl, rfl⟩
theorem vd_put {P : Program} {w : World} {H : Hp} {a b : Addr} {k : NestedKey} (h : VdAt P w H d xs) (hk : Nk H (.ref a) k) (hd : k.depth ≤ 8) (nd : ∀ ys, H d ≠ some (.tup ys)) : VdAt P w (upd H d (VD P w d (putV xs k a b))) d (putV xs k a b) := by
  have t : Tups H (upd H d (VD P w d (putV xs k a b))) := fun b ys e => by
    rw [upd_ne (fun z => nd ys (by rw [← z]; exact e))]
    exact e
  refine ⟨.inl upd_same, fun p hp => ?_⟩
  rcases putV_mem hp with ⟨q, hq, e1, e2⟩ | ⟨e1, e2⟩
  · rw [← e1, ← e2]
    exact ⟨(h.2 q hq).1.at t, (h.2 q hq).2⟩
  · rw [e1, e2]
    exact ⟨hk.at t, hd⟩
theorem vd_ntup {P : Program} {w : World} {H : Hp} (h : VdAt P w H d xs) : ∀ ys, H d ≠ some (.tup ys) := fun ys z => by
  rcases h.1 with e | ⟨_, e⟩
  · rw [e] at z; cases z
  · rw [e] at z; cases z
theorem vd_setItem {A : Around} {a b : Addr} {k : NestedKey} {E : Value → Shared → Prop} {Q : Unit → Shared → Prop} (hu : A.units + 9 < cLine) (I : Inv X pins σ H s) (h : VdAt X.prog X.w H d xs) (hk : Nk H (.ref a) k) (hd : k.depth ≤ 8) (hz : xs.length < sizeLine)
    (q : ∀ s', Inv X pins σ (upd H d (VD X.prog X.w d (putV xs k a b))) s' → Q () s') : wpAny (model X.prog X.w) A (setItem (.ref d) (.ref a) (.ref b)) Q E s := by
  obtain ⟨m, hs⟩ := vd_full I h
  refine wpAny_setItem_heap (knd := nestedKind X.prog X.w) (hsz := by unfold trv; rw [List.length_map]; omega) (by show A.units + 1 + 8 < cLine; omega) ⟨hk.is I rfl, hd⟩ m fun h' m' sb => q _ ?_
  rw [stored_trv] at m'
  have he : ∃ o, h'.get? d = some o := let ⟨o, _, _, g, _⟩ := m'; ⟨o, g⟩
  exact d_write I (vd_mut h) sb he (vd_new m' hs)
end
section
variable {X : Cx} {o i value : Expr} {td ty tv : TE} {pos pos' : Pos}
/-- d[k] = v -/
def sDPutV (P : Program) (w : World) (td ty tv : TE) : TS := fun D σ H => tv σ H fun v H1 => td σ H1 fun x H2 => ty σ H2 fun y H3 => ∃ d a b k xs, v = .ref b ∧ x = .ref d ∧ y = .ref a ∧ VdAt P w H3 d xs ∧ Nk H3 (.ref a) k ∧ k.depth ≤ 8 ∧ xs.length < sizeLine ∧ D.nx σ (upd H3 d (VD P w d (putV xs k a b)))
theorem ps_dputV (hu : X.A.units + 64 < cLine) (ho : PE X o td) (hi : PE X i ty) (hv : PE X value tv) (hs : swapsWith value (some (.Subscript o i pos')) pos.line X.env = pure false) : PS X (.Assign [.Subscript o i pos'] value pos) (sDPutV X.prog X.w td ty tv) := by
  constructor
  intro pins s σ H D I h
  refine wpAny_Assign_Subscript (thn (hv.run pins s σ H _ I h) ?_) hs
  rintro r s1 ⟨v, H1, I1, rv, q1⟩
  refine thn (ho.run pins s1 σ H1 _ I1 q1) ?_
  rintro u s2 ⟨x, H2, I2, rx, q2⟩
  refine thn (hi.run pins s2 σ H2 _ I2 q2) ?_
  rintro iv s3 ⟨y, H3, I3, ry, d, a, b, k, xs, rfl, rfl, rfl, hn, hk, hd, hz, q3⟩
  cases rv
  cases rx
  cases ry
  exact vd_setItem (by omega) I3 hn hk hd hz fun s4 I4 => ⟨σ, _, I4, q3⟩
/-- k in d, k not in d -/
def rInV (P : Program) (w : World) (neg : Bool) : R2 := fun x y H Q => ∃ d a k xs, x = .ref a ∧ y = .ref d ∧ VdAt P w H d xs ∧ Nk H (.ref a) k ∧ k.depth ≤ 8 ∧ Q (.bl (if neg then !decide (k ∈ xs.map (·.1)) else decide (k ∈ xs.map (·.1)))) H
theorem op_inVd (hu : X.A.units + 64 < cLine) : OpR X (compareOp .In) (rInV X.prog X.w false) := by
  intro pins s σ H x y v u Q I rx ry h
  obtain ⟨d, a, k, xs, rfl, rfl, hn, hk, hd, q⟩ := h
  cases rx
  cases ry
  obtain ⟨m, hs⟩ := vd_full I hn
  refine wpAny_in_heap (knd := nestedKind X.prog X.w) (by show X.A.units + 1 + 8 < cLine; omega) ⟨hk.is I rfl, hd⟩ hs m ⟨.bl _, H, I.tok _, rfl, ?_⟩
  rw [atKey_someV]
  exact q
theorem op_notInVd (hu : X.A.units + 64 < cLine) : OpR X (compareOp .NotIn) (rInV X.prog X.w true) := by
  intro pins s σ H x y v u Q I rx ry h
  obtain ⟨d, a, k, xs, rfl, rfl, hn, hk, hd, q⟩ := h
  cases rx
  cases ry
  obtain ⟨m, hs⟩ := vd_full I hn
  refine notIn_keyed (knd := nestedKind X.prog X.w) (by show X.A.units + 1 + 8 < cLine; omega) ⟨hk.is I rfl, hd⟩ hs ⟨_, m, rfl⟩ ⟨.bl _, H, I.tok _, rfl, ?_⟩
  rw [valueAt_pairsH, Option.isSome_map, atKey_someV]
  exact q
/-- d[k], k there -/
def rIxV (P : Program) (w : World) : R2 := fun x y H Q => ∃ d a k xs b, x = .ref d ∧ y = .ref a ∧ VdAt P w H d xs ∧ Nk H (.ref a) k ∧ k.depth ≤ 8 ∧ ((xs.find? fun p => decide (p.1 = k)).map (·.2.2)) = some b ∧ Q (.ref b) H
theorem atKey_valV {xs : List EntV} {k : NestedKey} : (atKey (trv xs) k).map (·.2) = ((xs.find? fun p => decide (p.1 = k)).map fun p => Value.ref p.2.2) := by
  unfold atKey trv
  induction xs with
  | nil => rfl
  | cons p xs ih =>
    rw [List.map_cons, List.find?_cons, List.find?_cons]
    by_cases e : p.1 = k
    · simp [e]
    · simp only [decide_eq_false e]
      exact ih
def tDGetV (P : Program) (w : World) (td ty : TE) : TE := fun σ H Q => td σ H fun x H1 => ty σ H1 fun y H2 => rIxV P w x y H2 Q
theorem pe_dgetV (hu : X.A.units + 64 < cLine) (ho : PE X o td) (hi : PE X i ty) (hs : NoSl i) : PE X (.Subscript o i pos) (tDGetV X.prog X.w td ty) := by
  refine ⟨fun pins s σ H Q I h => ?_⟩
  refine subD_of PySem.F.slot_dict_getitem.lookup hs (thn (ho.run pins s σ H _ I h) fun u s1 ⟨x, H1, I1, rx, q1⟩ => thn (hi.run pins s1 σ H1 _ I1 q1) fun iv s2 ⟨y, H2, I2, ry, d, a, k, xs, b, ex, ey, hn, hk, hd, hb, q2⟩ => ?_)
  subst ex ey
  obtain rfl : u = Value.ref d := rx
  obtain rfl : iv = Value.ref a := ry
  obtain ⟨m, hs⟩ := vd_full I2 hn
  have hv : valueAt (pairsH (trv xs)) k = some (Value.ref b) := by
    rw [valueAt_pairsH, atKey_valV]
    cases e : xs.find? fun p => decide (p.1 = k) with
    | none => rw [e] at hb; cases hb
    | some p => rw [e] at hb; cases hb; rfl
  exact ⟨m.typeIs, getItem_keyed (knd := nestedKind X.prog X.w) (by show X.A.units + 1 + 8 < cLine; omega) ⟨hk.is I2 rfl, hd⟩ ⟨_, m, rfl⟩ hv ⟨.ref b, H2, I2.tok _, rfl, q2⟩⟩
end
/-- the view d.values() at p -/
def valsO (p d : Addr) : HO := .ext fun h => h.IsValuesView p d
theorem valsO_ok {P : Program} {w : World} {H : Hp} {h : Heap} {p d : Addr} (e : h.get? p = some { cls := .type "dict_values", data := .fields #[.ref d] }) : ObjOk P w H h p (valsO p d) :=
  ⟨⟨_, e, rfl, rfl⟩, ⟨_, e⟩, fun h1 h2 x k => let ⟨o, ho, r⟩ := x; ⟨o, k o ho, r⟩⟩
section
variable {X : Cx}
def rValsV (P : Program) (w : World) : V → List V → Hp → VK → Prop := fun x xs H Q => ∃ (a : Addr) (es : List EntV), x = .ref a ∧ xs = [] ∧ VdAt P w H a es ∧ ∀ p, H p = none → Q (.ref p) (upd H p (valsO p a))
def tValsV (P : Program) (w : World) (td : TE) : TE := fun σ H Q => td σ H fun x H1 => ∃ (a : Addr) (es : List EntV), x = .ref a ∧ VdAt P w H1 a es ∧ ∀ p, H1 p = none → Q (.ref p) (upd H1 p (valsO p a))
theorem pe_valsV {o : Expr} {apos mpos : Pos} {td : TE} (hd : PE X o td) (hbase : attributeBase o "values" X.env (eval o X.env) = eval o X.env := by rfl) (hline : (apos.endLine == mpos.line) = true := by rfl) : PE X (.Call (.Attribute o "values" apos) [] [] mpos) (tValsV X.prog X.w td) := by
  refine ⟨fun pins s σ H Q I h => ?_⟩
  refine wpAny_Call_method0_late hbase hline (thn (hd.run pins s σ H _ I h) fun v s1 ⟨x, H1, I1, r1, a, es0, ex, ha, q⟩ => ?_)
  subst ex
  obtain rfl : v = Value.ref a := r1
  obtain ⟨⟨ob, es, ep, ho, hx, hdat, _⟩, hs⟩ := vd_full I1 ha
  refine ⟨"dict", "dict.values", F.plainAttrs_dict, F.slot_dict_values, F.type_dict_values, ⟨ob, ho, hx.1⟩, fun b e => ?_, Calls.callWith_builtin rfl (PySem.evalArgs_none ?_)⟩
  · cases e
    exact ⟨ob, ho, hx.2.1⟩
  refine call_meetsIn F.slot_dict_values ⟨ob, ho, hx.1⟩ F.entry_dict_values (F.args_dict_values_1 _) (meets_dict_values_raw a hs) ⟨⟨es, ep, ob, ho, hx, hdat⟩, ?_⟩
  have hf : H1 s1.heap.objs.size = none := I1.hok.fresh (Nat.le_refl _)
  exact ⟨.ref s1.heap.objs.size, upd H1 s1.heap.objs.size (valsO s1.heap.objs.size a), I1.laid (t' := s1.toks) (fun b u e => Heap.get?_push_of_some _ e) (Nat.le_refl _) (valsO_ok (Heap.get?_push_size _ rfl)), rfl, q _ hf⟩
theorem call_list_valsV (hc : X.calm = true) : CallR X (.type "list") (fun xs H Q => ∃ p d es, xs = [V.ref p] ∧ H p = some (valsO p d) ∧ VdAt X.prog X.w H d es ∧ es.length ≤ sizeLine ∧ ∀ l, H l = none → Q (.ref l) (upd H l (.lst (es.map fun e => V.ref e.2.2)))) := by
  intro pins s σ H xs us Q I r h
  obtain ⟨p, d, es0, rfl, hp, hd, hz, q⟩ := h
  obtain ⟨u, rfl, rx⟩ := vals1 r
  cases rx
  obtain ⟨⟨o, es, ep, ho, hx, hdat, he, _⟩, hs⟩ := vd_full I hd
  obtain ⟨hv, ⟨ov, hov⟩, _⟩ := (show ObjOk X.prog X.w H s.heap p (valsO p d) from I.hok p _ hp)
  have l1 : es.size = es0.length := by rw [← Array.length_toList, he, List.length_map]; unfold trv; rw [List.length_map]
  refine PySem.W.kdl_call (KdlSrc.rawValues (r := p) (d := d) (es := es) (ep := ep)) (I.ok.hd hc) ⟨hv, o, ho, hx, hdat⟩ (by omega) fun h' tk acc' c' kp e it => ?_
  have ea : acc'.toList = (es0.map fun x => x.2.2).map Value.ref := by
    have hl : acc'.toList.length = es0.length := by rw [Array.length_toList, it.1]; exact l1
    apply List.ext_getElem?
    intro j
    rw [List.getElem?_map, List.getElem?_map]
    cases hj : acc'.toList[j]? with
    | none =>
      have h1 := List.getElem?_eq_none_iff.mp hj
      rw [List.getElem?_eq_none (by omega)]
      rfl
    | some v =>
      obtain ⟨hi, hv2⟩ := it.2 j v (by rw [← Array.getElem?_toList]; exact hj)
      have e2 : es[j]? = some es[j] := Array.getElem?_eq_getElem hi
      rw [← Array.getElem?_toList, he, List.getElem?_map] at e2
      unfold trv at e2
      rw [List.getElem?_map] at e2
      cases hb : es0[j]? with
      | none => rw [hb] at e2; cases e2
      | some b =>
        rw [hb] at e2
        have e3 := Option.some.inj e2
        rw [hv2, ← e3]
        rfl
  have rv : Vals ((es0.map fun x => x.2.2).map V.ref) acc'.toList := by rw [ea]; exact L2.vals_refs _
  have hzz : ((es0.map fun x => x.2.2).map V.ref).length ≤ sizeLine := by rw [List.length_map, List.length_map]; exact hz
  have eq1 : es0.map (fun e => V.ref e.2.2) = (es0.map fun x => x.2.2).map V.ref := by rw [List.map_map]; rfl
  refine ⟨.ref s.heap.objs.size, _, I.laid (t' := tk) (o := .lst ((es0.map fun x => x.2.2).map V.ref)) kp (Nat.le_refl _) ?_, rfl, eq1 ▸ q _ (I.hok.fresh (Nat.le_refl _))⟩
  exact ⟨hzz, acc'.toList, c', rv, by rw [Array.toArray_toList]; exact e⟩
end
end My

set_option Elab.async false
set_option linter.all false
set_option maxRecDepth 100000
set_option maxHeartbeats 4000000
namespace L20
open PySem PySem.Spec PyProof.Rows L2 My
section
variable {P : Program} {w : World} {K : PySem.W.Frag} {mg : Str → Option Value} {base : Heap}
theorem name_as {i : Nat} {v : V} {σ σ' : L2.St} {H : Hp} {Q : L2.St → Hp → Prop} (e : σ.set i (some v) = σ') (h : Q σ' H) : gName i v σ H Q := by
  unfold gName
  rw [e]
  exact h
def copyD (a b : Str) (ds : List Due) : List Due := (ds.filter fun u => decide (u.ow = a)).map fun u => { u with ow := b }
def spPart (T : Tx K mg w) : Sp := fun vs H Q _ => ∃ (t1 t2 : Int) (H0 : Hp) (A : WA) (s : WS) (n : Nat) (pn : Addr) (a b : Str), vs = [.ref A.wa, .ref pn] ∧ WkAt T t1 t2 H0 H A s n ∧ H pn = some (.tup [.str a, .str b]) ∧ s.ds.length ≤ 30000 ∧
  ∀ H', WkAt T t1 t2 H0 H' A { s with ds := s.ds ++ copyD a b s.ds, cp := s.cp + ((copyD a b s.ds).length : Int) } n → Tups H H' → Q .non H'
theorem ok_part (T : Tx K mg w) : FnOk P w K mg base CX0 1 T.f_Walk_part_dues T.d_Walk_part_dues ["self", "names"] (spPart T) := by
  refine T.F_Walk_part_dues.ok S_Walk_part_dues (fun vs H Q E h => ?_) (fun cdv A0 outer sx H vs Q E hr h => ?_)
  · obtain ⟨t1, t2, H0, A, s, n, pn, a, b, rfl, _⟩ := h
    rfl
  · obtain ⟨t1, t2, H0, A, s, n, pn, a, b, rfl, W, hpn, ld, q⟩ := h
    refine ⟨_, (pss_cons (ps_setLc (i := 2) (own := [("due", 3)]) (g := gName 3) (by rfl) S_Walk_part_dues.nd rfl rfl (sw_true rfl rfl rfl (by decide +kernel)) (pi_list (pe_fld (pv 0) rfl)) (blkOk_by (own := [("due", 3)]) (N := N_Walk_part_dues) (sc := defScope s_Walk_part_dues) (by decide +kernel)) (fun _ _ _ _ _ => (pg_name (i := 3) S_Walk_part_dues.nd rfl (.inl rfl))) (fun _ _ _ _ _ => (pts_one (pt_cmpR op_eq (pe_ix (r := rIxT K) ix_tup (pv 3) pe_int (fun _ _ => rfl)) (pe_ix (r := rIxT K) ix_tup (pv 1) pe_int (fun _ _ => rfl)) (nomark _)))) (fun _ _ _ _ _ => (pe_op (r := rCatA K) op_catA (pe_tup (pa_cons (pe_ix (r := rIxT K) ix_tup (pv 1) pe_int (fun _ _ => rfl)) pa_nil)) (pe_slice (r := rSlA K) sl_tupA (pv 3) (po_some pe_int) po_none))))
      (pss_cons (ps_expr (pe_bm PySem.F.plainAttrs_list PySem.F.slot_list_extend PySem.F.type_list_extend mt_extend (pe_fld (pv 0) rfl) (pa_cons (pv 2) pa_nil)))
      (pss_one (ps_fldaug (pv 0) (pe_callB call_len_seq (by rfl) T.m_len PySem.boot_len (pa_cons (pv 2) pa_nil)) in_add)))), ?_⟩
    obtain ⟨us, u1, u2⟩ := W.du
    have lu : us.length = s.ds.length := by rw [u2.length, List.length_map]
    refine ⟨_, rfl, A.wa, _, _, _, _, rfl, W.ob, T.cl_Walk, T.na_Walk_dues, rfl, A.du, rfl, ⟨_, .inl (.inl u1)⟩, fun D nD => ?_⟩
    refine lc_list (xs := us) (fun i Hx => ∃ acc, Same H Hx ∧ Hx D = some (.lst acc) ∧ NkAll Hx acc ((copyD a b (s.ds.take i)).map dueK) ∧ acc.length ≤ i) ⟨[], same_upd nD, upd_same, .nil, Nat.le_refl _⟩ (fun i Hx hi ⟨_, m, _⟩ => .inl (.inl (m _ _ u1))) ?_ ?_
    · rintro i x Hx hi ⟨acc, m, hD, nk, la⟩
      obtain ⟨kk, hk, nx⟩ := u2.get hi
      rw [List.getElem?_map] at hk
      obtain ⟨u, hu, rfl⟩ := Option.map_eq_some_iff.mp hk
      obtain ⟨b', c, pv, rfl, hb, np, hc⟩ := due_at (nx.at (.same m))
      have lt : i < us.length := (List.getElem?_eq_some_iff.mp hi).1
      have tk : s.ds.take (i + 1) = s.ds.take i ++ [u] := by rw [List.take_add_one, hu]; rfl
      refine ⟨rfl, _, rfl, b', _, 0, .str u.ow, rfl, rfl, .inl (.inl hb), rfl, _, rfl, pn, _, 0, .str a, rfl, rfl, .inl (.inl (m _ _ hpn)), rfl, rfl, _, rfl, ite2 (fun e => ?_) (fun e => ?_)⟩
      · have e : u.ow = a := by have := of_decide_eq_true e; injection this
        refine ⟨_, rfl, pn, _, 1, .str b, rfl, rfl, .inl (.inl (m _ _ hpn)), rfl, sz (by show 1 ≤ 1000; decide), fun p np1 => ?_⟩
        have s1 := same_upd (o := .tup [.str b]) np1
        have hp := upd_same (H := Hx) (a := p) (o := .tup [.str b])
        generalize upd Hx p (.tup [.str b]) = H1 at s1 hp ⊢
        refine ⟨_, rfl, 1, rfl, np_in (sl_in (s1 _ _ hb) fun c1 H2 s2 h2 => ?_)⟩
        refine cat_in (s2 _ _ hp) h2 (by show 1 + 4 ≤ 1000; decide) fun r H3 s3 h3 => ?_
        have h3 : H3 r = some (.tup [.str b, .str u.od, .str (sortS u.vis), pv, .ref c]) := h3
        have sm := s1.trans (s2.trans s3)
        have tp : Tups H3 (upd H3 D (.lst (acc ++ [.ref r]))) := fun c xs e => by rw [upd_ne (fun z => by rw [z, sm _ _ hD] at e; cases e)]; exact e
        refine ⟨acc, sm _ _ hD, smallL (by omega), _, same_fresh nD (m.trans sm), upd_same, ?_, by rw [List.length_append]; exact Nat.succ_le_succ la⟩
        have ec : copyD a b (s.ds.take (i + 1)) = copyD a b (s.ds.take i) ++ [{ u with ow := b }] := by
          unfold copyD
          rw [tk, List.filter_append, List.map_append]
          congr 1
          show List.map _ (List.filter _ [u]) = _
          rw [List.filter_cons, if_pos (decide_eq_true e)]
          rfl
        rw [ec, List.map_append]
        refine (nk.at ((Tups.same sm).trans tp)).app (.cons ?_ .nil)
        exact (due_mk (u := { u with ow := b }) h3 (np.at (.same sm)) (sm _ _ hc)).at tp
      · have e : ¬ u.ow = a := fun z => e (decide_eq_true (by rw [z]))
        refine ⟨acc, m, hD, ?_, by omega⟩
        have ec : copyD a b (s.ds.take (i + 1)) = copyD a b (s.ds.take i) := by
          unfold copyD
          rw [tk, List.filter_append, List.map_append]
          show _ ++ List.map _ (List.filter _ [u]) = _
          rw [List.filter_cons, if_neg (by rw [decide_eq_true_eq]; exact e), List.filter_nil, List.map_nil, List.append_nil]
        rw [ec]
        exact nk
    rintro Hx ⟨acc, m, hD, nk, la⟩
    rw [List.take_of_length_le (by rw [lu]; exact Nat.le_refl _)] at nk
    have Wx := W.same m
    have u1x := m _ _ u1
    have lac : acc.length = (copyD a b s.ds).length := by rw [nk.length, List.length_map]
    refine name_as (σ' := [some (.ref A.wa), some (.ref pn), some (.ref D), none]) rfl ?_
    refine ⟨_, rfl, A.wa, _, _, _, _, rfl, Wx.ob, T.cl_Walk, T.na_Walk_dues, rfl, .inl ⟨rfl, _, .inl (.inl u1x)⟩, ?_⟩
    refine ⟨_, rfl, A.du, D, us, acc, rfl, rfl, u1x, hD, by rw [sizeLine_eq]; omega, ?_⟩
    have W2 := Wx.setDu (xs := us ++ acc) (ds' := s.ds ++ copyD a b s.ds) (by rw [List.map_append]; exact (u2.at (.same m)).app nk)
    have tp2 : Tups Hx (upd Hx A.du (.lst (us ++ acc))) := fun c xs e => by rw [upd_ne (fun z => by rw [z, u1x] at e; cases e)]; exact e
    have hD2 : upd Hx A.du (.lst (us ++ acc)) D = some (.lst acc) := by rw [upd_ne (ne_of_none u1 nD).symm]; exact hD
    generalize upd Hx A.du (.lst (us ++ acc)) = H2 at W2 tp2 hD2 ⊢
    refine ⟨_, rfl, A.wa, _, _, _, _, rfl, W2.ob, T.cl_Walk, T.na_Walk_copied, rfl, _, rfl, D, acc, rfl, .inl (.inl (.inl hD2)), _, _, rfl, rfl, _, _, W2.ob, (by show 10 < 1000; decide), ?_⟩
    have W3 := W2.putC (s.cp + (acc.length : Int)) s.sk s.sp
    rw [lac] at W3
    rw [lac]
    exact q _ W3 ((Tups.same m).trans (tp2.trans W2.tupne))
end
end L20

set_option Elab.async false
set_option linter.all false
set_option maxRecDepth 100000
set_option maxHeartbeats 4000000
namespace L20
open PySem PySem.Spec PyProof.Rows L2 My
section
variable {P : Program} {w : World} {K : PySem.W.Frag} {mg : Str → Option Value} {base : Heap}
def putD (a b : Str) (u : Due) : Due := { u with ow := if u.ow = b then a else u.ow, od := if u.od = b then a else u.od }
def spPutFor (T : Tx K mg w) : Sp := fun vs H Q _ => ∃ (du : Addr) (u : Due) (a b : Str), vs = [.ref du, .str a, .str b] ∧ Nk H (.ref du) (dueK u) ∧ Tbs (tbs T) H ∧ ∀ r H', Gk (tbs T) H H' → Nk H' (.ref r) (dueK (putD a b u)) → Q (.ref r) H'
theorem ok_putfor (T : Tx K mg w) (B : Tb T base) : FnOk P w K mg base CX0 2 T.f_put_for T.d_put_for ["due", "a", "b"] (spPutFor T) := by
  refine T.F_put_for.ok S_put_for (fun vs H Q E h => ?_) (fun A outer s H vs Q E hr h => ?_)
  · obtain ⟨du, u, a, b, rfl, _⟩ := h
    rfl
  · obtain ⟨du, u, a, b, rfl, hu, hB, q⟩ := h
    refine ⟨_, (pss_one (ps_ret (pe_op (r := rCatA K) op_catA (GE.pe_tupleG (own := [("name", 3)]) (g := gName 3) (tt := tYes) (by rfl) S_put_for.nd hr (by rfl) T.m_tuple B.b_put_for rfl ⟨blkOk_by (own := [("name", 3)]) (N := N_put_for) (sc := defScope s_put_for) (by decide +kernel), rfl, (by decide +kernel), (by decide +kernel)⟩ (pi_tup (pe_slice (r := rSlA K) sl_tupA (pv 0) po_none (po_some pe_int))) (fun _ _ _ _ _ _ hr => (pg_name (i := 3) S_put_for.nd rfl (.inl rfl))) (fun _ _ _ _ _ _ hr => pts_nil) (fun _ _ _ _ _ _ hr => (pe_ifExp (pt_cmpR op_eq (pv 3) (pv 2) (nomark _)) (pv 1) (pv 3)))) (pe_slice (r := rSlA K) sl_tupA (pv 0) (po_some pe_int) po_none)))), ?_⟩
    obtain ⟨b', c, pv, e, hb, np, hc⟩ := due_at hu
    cases e
    refine ⟨_, rfl, np_in ⟨2, rfl, sl_in hb fun c1 H1 s1 h1 => ?_⟩⟩
    have h1 : H1 c1 = some (.tup [.str u.ow, .str u.od]) := h1
    have tb1 := hB.same s1
    refine ⟨c1, rfl, ⟨_, .inl (.inl h1)⟩, tb1 _ (by simp [tbs]), fun H2 tab => ?_⟩
    have g2 : Gk (tbs T) H1 H2 := (Tk.of tb1 (by simp [tbs]) tab).gk tb1
    refine GE.tg_it (walk_tup (xs := [.str u.ow, .str u.od])) (fun i ys Hx => Hx = H2 ∧ ys = (([V.str (if u.ow = b then a else u.ow), .str (if u.od = b then a else u.od)] : List V).take i)) ⟨rfl, rfl⟩ ?_ ?_ ?_
    · rintro i ys Hx _ ⟨rfl, _⟩
      exact .inl (.inl (g2.tup h1))
    · rintro i x ys H3 H4 hi ⟨rfl, rfl⟩ ⟨rfl, hx⟩
      have two : (i = 0 ∧ x = .str u.ow) ∨ (i = 1 ∧ x = .str u.od) := by
        match i, hi, hx with
        | 0, _, hx => cases hx; exact .inl ⟨rfl, rfl⟩
        | 1, _, hx => cases hx; exact .inr ⟨rfl, rfl⟩
        | n + 2, hi, _ => exact absurd hi (by show ¬ n + 2 < 2; omega)
      rcases two with ⟨rfl, rfl⟩ | ⟨rfl, rfl⟩
      · refine ⟨rfl, tYesT ⟨_, rfl, _, rfl, rfl, _, rfl, ite2 (fun e => ?_) (fun e => ?_)⟩⟩
        · have e : u.ow = b := by have := of_decide_eq_true e; injection this
          exact ⟨_, rfl, smallL (by show 0 ≤ 100000; decide), rfl, by rw [if_pos e]; rfl⟩
        · have e : ¬ u.ow = b := fun z => e (decide_eq_true (by rw [z]))
          exact ⟨_, rfl, smallL (by show 0 ≤ 100000; decide), rfl, by rw [if_neg e]; rfl⟩
      · refine ⟨rfl, tYesT ⟨_, rfl, _, rfl, rfl, _, rfl, ite2 (fun e => ?_) (fun e => ?_)⟩⟩
        · have e : u.od = b := by have := of_decide_eq_true e; injection this
          exact ⟨_, rfl, smallL (by show 1 ≤ 100000; decide), rfl, by rw [if_pos e]; rfl⟩
        · have e : ¬ u.od = b := fun z => e (decide_eq_true (by rw [z]))
          exact ⟨_, rfl, smallL (by show 1 ≤ 100000; decide), rfl, by rw [if_neg e]; rfl⟩
    · rintro ys H3 ⟨rfl, rfl⟩
      refine ⟨sz (by show 2 ≤ 1000; decide), fun r1 hr1 => ?_⟩
      have s3 := same_upd (o := .tup [.str (if u.ow = b then a else u.ow), .str (if u.od = b then a else u.od)]) hr1
      have h3 := upd_same (H := H3) (a := r1) (o := .tup [.str (if u.ow = b then a else u.ow), .str (if u.od = b then a else u.od)])
      have g3 := g2.trans (.of_same s3 g2.2)
      change tSl _ _ _ _ _ (upd H3 r1 (.tup [.str (if u.ow = b then a else u.ow), .str (if u.od = b then a else u.od)])) _
      generalize upd H3 r1 (.tup [.str (if u.ow = b then a else u.ow), .str (if u.od = b then a else u.od)]) = H4 at s3 h3 g3 ⊢
      refine ⟨_, rfl, 2, rfl, np_in (sl_in (g3.tup (s1 _ _ hb)) fun c2 H5 s5 h5 => ?_)⟩
      refine cat_in (s5 _ _ h3) h5 (by show 2 + 3 ≤ 1000; decide) fun r2 H6 s6 h6 => ?_
      have h6 : H6 r2 = some (.tup [.str (if u.ow = b then a else u.ow), .str (if u.od = b then a else u.od), .str (sortS u.vis), pv, .ref c]) := h6
      have gall : Gk (tbs T) H H6 := ((Gk.of_same s1 hB).trans g3).trans (.of_same (s5.trans s6) g3.2)
      exact q r2 _ gall (due_mk (u := putD a b u) h6 (np.at (.gk gall)) (gall.tup hc))
theorem nk_ints {H : Hp} : ∀ ws : List Int, NkAll H (ws.map V.int) (ws.map .num)
  | [] => .nil
  | w :: ws => .cons (.int w) (nk_ints ws)
def stayK (u : Due) : NestedKey := .tup [.num (-(u.fl.length : Int)), .tup ((u.fl.drop (u.fl.length - 1)).map .num), .tup (u.fl.map .num)]
def spStay : Sp := fun vs H Q _ => ∃ (du : Addr) (u : Due), vs = [.ref du] ∧ Nk H (.ref du) (dueK u) ∧ ∀ r H', Same H H' → Nk H' (.ref r) (stayK u) → Q (.ref r) H'
theorem cut_last {xs : List V} : cutV xs (some (-1)) none = xs.drop (xs.length - 1) := by
  unfold cutV HT.sIx
  cases xs with
  | nil => rfl
  | cons x xs =>
    simp
    have e : (-1 + ((xs.length : Int) + 1)).toNat = xs.length := by omega
    simp [e]
    exact List.take_of_length_le (by rw [List.length_drop, List.length_cons]; omega)
theorem ok_stay (T : Tx K mg w) : FnOk P w K mg base CX0 1 T.f_staying_place T.d_staying_place ["due"] (spStay) := by
  refine T.F_staying_place.ok S_staying_place (fun vs H Q E h => ?_) (fun cdv A outer s H vs Q E hr h => ?_)
  · obtain ⟨du, u, rfl, _⟩ := h
    rfl
  · obtain ⟨du, u, rfl, hu, q⟩ := h
    refine ⟨_, (pss_cons (ps_set (i := 1) S_staying_place.nd rfl (.inl rfl) (pe_ix ix_tup (pv 0) pe_int (fun _ _ => rfl)))
      (pss_one (ps_ret (pe_tup (pa_cons (pe_un un_neg (pe_callB call_len_seq (by rfl) T.m_len PySem.boot_len (pa_cons (pv 1) pa_nil))) (pa_cons (pe_slice (r := rSlA K) sl_tupA (pv 1) (po_some (pe_un un_neg pe_int)) po_none) (pa_cons (pv 1) pa_nil))))))), ?_⟩
    obtain ⟨b', c, pv, e, hb, np, hc⟩ := due_at hu
    cases e
    refine ⟨_, rfl, du, _, 4, .ref c, rfl, rfl, .inl (.inl hb), rfl, ?_⟩
    refine ⟨_, rfl, c, _, rfl, .inr (.inl (.inl hc)), _, rfl, _, rfl, 1, rfl, ?_⟩
    refine ⟨-1, rfl, np_in (sl_in hc fun c1 H1 s1 h1 => ?_)⟩
    rw [cut_last, List.length_map, ← List.map_drop] at h1
    refine ⟨_, rfl, sz (by show 3 ≤ 1000; decide), fun p np1 => ?_⟩
    rw [List.length_map]
    have s2 := same_upd (o := .tup [.int (-(u.fl.length : Int)), .ref c1, .ref c]) np1
    refine q p _ (s1.trans s2) (.tup upd_same (.cons (.int _) (.cons (.tup (s2 _ _ h1) (nk_ints _)) (.cons (.tup (s2 _ _ (s1 _ _ hc)) (nk_ints _)) .nil))))
/-- of two dues with one ower, owed and page the first stays -/
def stayB (u v : Due) : Bool := (ltK (stayK u) (stayK v)).getD false
theorem lt_nums : ∀ {xs ys : List Int}, ∃ c, ltAll (xs.map NestedKey.num) (ys.map .num) = some c
  | [], [] => ⟨_, rfl⟩
  | [], _ :: _ => ⟨_, rfl⟩
  | _ :: _, [] => ⟨_, rfl⟩
  | x :: xs, y :: ys => lt_step ⟨_, by rw [ltK]⟩ lt_nums
theorem stay_lt (u v : Due) : ltK (stayK u) (stayK v) = some (stayB u v) := by
  have : ∃ c, ltK (stayK u) (stayK v) = some c := by
    unfold stayK
    rw [ltK]
    exact lt_step ⟨_, by rw [ltK]⟩ (lt_step (by rw [ltK]; exact lt_nums) (lt_step (by rw [ltK]; exact lt_nums) lt_nil))
  obtain ⟨c, e⟩ := this
  unfold stayB
  rw [e]
  rfl
def keyD (u : Due) : NestedKey := .tup [.text u.ow, .text u.od, u.pg]
/-- a due more among those that stay -/
def stepD (m : List Due) (u : Due) : List Due := if keyD u ∈ m.map keyD then m.map (fun v => if keyD v = keyD u ∧ stayB u v = true then u else v) else m ++ [u]
def oneD (L : List Due) : List Due := L.foldl stepD []
theorem stepD_len (m : List Due) (u : Due) : (stepD m u).length ≤ m.length + 1 := by
  unfold stepD
  split
  · rw [List.length_map]; omega
  · rw [List.length_append]; exact Nat.le_refl _
theorem oneD_snoc (L : List Due) (u : Due) : oneD (L ++ [u]) = stepD (oneD L) u := by
  unfold oneD
  rw [List.foldl_append]
  rfl
theorem oneD_len (L : List Due) : (oneD L).length ≤ L.length := by
  obtain ⟨n, e⟩ : ∃ n, n = L.length := ⟨_, rfl⟩
  induction n generalizing L with
  | zero => rw [List.length_eq_zero_iff.mp e.symm]; exact Nat.le_refl _
  | succ n ih =>
    rcases List.eq_nil_or_concat L with rfl | ⟨M, u, rfl⟩
    · cases e
    · rw [List.concat_eq_append] at e ⊢
      rw [List.length_append] at e
      rw [oneD_snoc, List.length_append]
      exact Nat.le_trans (stepD_len _ _) (Nat.succ_le_succ (ih M (by simpa using e)))
theorem oneD_mem {u : Due} {L : List Due} (h : u ∈ oneD L) : u ∈ L := by
  have gen : ∀ (L m : List Due), u ∈ L.foldl stepD m → u ∈ m ∨ u ∈ L := fun L => by
    induction L with
    | nil => exact fun m h => .inl h
    | cons v L ih =>
      intro m h
      rcases ih _ h with h | h
      · unfold stepD at h
        split at h
        · obtain ⟨w, hw, e⟩ := List.mem_map.mp h
          split at e
          · exact .inr (e ▸ .head _)
          · exact .inl (e ▸ hw)
        · rcases List.mem_append.mp h with h | h
          · exact .inl h
          · exact .inr (List.mem_singleton.mp h ▸ .head _)
      · exact .inr (.tail _ h)
  rcases gen L [] h with h | h
  · cases h
  · exact h
theorem stepD_keys (m : List Due) (u : Due) : (stepD m u).map keyD = if keyD u ∈ m.map keyD then m.map keyD else m.map keyD ++ [keyD u] := by
  unfold stepD
  split
  · rw [List.map_map]
    refine List.map_congr_left fun v _ => ?_
    show keyD (if _ then _ else _) = _
    split
    · rename_i h; exact h.1.symm
    · rfl
  · rw [List.map_append]; rfl
theorem oneD_nd (L : List Due) : ((oneD L).map keyD).Nodup := by
  have gen : ∀ (L m : List Due), (m.map keyD).Nodup → ((L.foldl stepD m).map keyD).Nodup := fun L => by
    induction L with
    | nil => exact fun m h => h
    | cons v L ih =>
      intro m h
      refine ih _ ?_
      rw [stepD_keys]
      split
      · exact h
      · rename_i hn
        exact List.nodup_append.mpr ⟨h, List.nodup_cons.mpr ⟨by simp, .nil⟩, fun a ha b hb e => hn (by rw [List.mem_singleton.mp hb] at e; exact e ▸ ha)⟩
  exact gen L [] .nil
/-- the entries of the dict of those that stay -/
structure EnAt (H : Hp) (es : List EntV) (m : List Due) : Prop where
  keys : es.map (·.1) = m.map keyD
  vals : NkAll H (es.map fun e => V.ref e.2.2) (m.map dueK)
theorem EnAt.at {H H' : Hp} {es : List EntV} {m : List Due} (h : EnAt H es m) (t : Tups H H') : EnAt H' es m := ⟨h.keys, h.vals.at t⟩
theorem EnAt.new {H : Hp} {es : List EntV} {m : List Due} {u : Due} {a b : Addr} (h : EnAt H es m) (n : Nk H (.ref b) (dueK u)) : EnAt H (es ++ [(keyD u, a, b)]) (m ++ [u]) :=
  ⟨by rw [List.map_append, List.map_append, h.keys]; rfl, by rw [List.map_append, List.map_append]; exact h.vals.app (.cons n .nil)⟩
theorem EnAt.rep {H : Hp} {u : Due} {b : Addr} (n : Nk H (.ref b) (dueK u)) : ∀ {es : List EntV} {m : List Due}, EnAt H es m → EnAt H (es.map fun p => if p.1 = keyD u then (p.1, p.2.1, b) else p) (m.map fun v => if keyD v = keyD u then u else v)
  | [], [], _ => ⟨rfl, .nil⟩
  | [], _ :: _, h => by have := h.keys; cases this
  | _ :: _, [], h => by have := h.keys; cases this
  | e :: es, v :: m, h => by
    have hk := h.keys
    rw [List.map_cons, List.map_cons] at hk
    injection hk with k1 k2
    have hv := h.vals
    rw [List.map_cons, List.map_cons] at hv
    cases hv with
    | cons n1 n2 =>
      obtain ⟨i1, i2⟩ := EnAt.rep n (es := es) (m := m) ⟨k2, n2⟩
      refine ⟨?_, ?_⟩
      · rw [List.map_cons, List.map_cons, List.map_cons, List.map_cons, i1]
        congr 1
        by_cases c : e.1 = keyD u
        · rw [if_pos c, if_pos (k1 ▸ c)]; exact c
        · rw [if_neg c, if_neg (fun z => c (k1.trans z))]; exact k1
      · rw [List.map_cons, List.map_cons, List.map_cons, List.map_cons]
        refine .cons ?_ i2
        by_cases c : e.1 = keyD u
        · rw [if_pos c, if_pos (k1 ▸ c)]; exact n
        · rw [if_neg c, if_neg (fun z => c (k1.trans z))]; exact n1
theorem EnAt.find {H : Hp} {k : NestedKey} : ∀ {es : List EntV} {m : List Due}, EnAt H es m → k ∈ m.map keyD → ∃ v b, v ∈ m ∧ keyD v = k ∧ ((es.find? fun p => decide (p.1 = k)).map (·.2.2)) = some b ∧ Nk H (.ref b) (dueK v)
  | _, [], _, hk => by cases hk
  | [], _ :: _, h, _ => by have := h.keys; cases this
  | e :: es, v :: m, h, hk => by
    have hkk := h.keys
    rw [List.map_cons, List.map_cons] at hkk
    injection hkk with k1 k2
    have hv := h.vals
    rw [List.map_cons, List.map_cons] at hv
    cases hv with
    | cons n1 n2 =>
      by_cases c : keyD v = k
      · exact ⟨v, e.2.2, .head _, c, by rw [List.find?_cons_of_pos (by simp [k1, c])]; rfl, n1⟩
      · have hk2 : k ∈ m.map keyD := by
          rw [List.map_cons] at hk
          rcases List.mem_cons.mp hk with h | h
          · exact absurd h.symm c
          · exact h
        obtain ⟨v', b, a1, a2, a3, a4⟩ := EnAt.find (es := es) (m := m) ⟨k2, n2⟩ hk2
        exact ⟨v', b, .tail _ a1, a2, by rw [List.find?_cons_of_neg (by simp [k1, c])]; exact a3, a4⟩
theorem inj_of_nd {m : List Due} (nd : (m.map keyD).Nodup) {u v : Due} (hu : u ∈ m) (hv : v ∈ m) (e : keyD u = keyD v) : u = v := by
  induction m with
  | nil => cases hu
  | cons w m ih =>
    rw [List.map_cons] at nd
    obtain ⟨n1, n2⟩ := List.nodup_cons.mp nd
    rcases List.mem_cons.mp hu with rfl | hu
    · rcases List.mem_cons.mp hv with rfl | hv
      · rfl
      · exact absurd (List.mem_map.mpr ⟨v, hv, e.symm⟩) n1
    · rcases List.mem_cons.mp hv with rfl | hv
      · exact absurd (show keyD v ∈ m.map keyD from List.mem_map.mpr ⟨u, by assumption, e⟩) n1
      · exact ih n2 hu hv
theorem stay_depth (u : Due) : (stayK u).depth ≤ 50 := by
  have hn : ∀ ws : List Int, NestedKey.depthAll (ws.map .num) = 0 := fun ws => by
    induction ws with
    | nil => rw [List.map_nil, NestedKey.depthAll]
    | cons a l ih => rw [List.map_cons, NestedKey.depthAll, ih, NestedKey.depth]; rfl
  unfold stayK
  simp only [NestedKey.depthAll, NestedKey.depth, hn]
  omega
theorem pg_depth {k : NestedKey} (h : PgK k) : k.depth ≤ 3 := by
  have hn : ∀ ws : List Int, NestedKey.depthAll (ws.map .num) = 0 := fun ws => by
    induction ws with
    | nil => rw [List.map_nil, NestedKey.depthAll]
    | cons a l ih => rw [List.map_cons, NestedKey.depthAll, ih, NestedKey.depth]; rfl
  obtain ⟨z, d, r, rfl, hr, _⟩ := h
  cases hr <;> (simp only [NestedKey.depthAll, NestedKey.depth, hn]; omega)
def spMadeOne : Sp := fun vs H Q _ => ∃ (so : Addr) (xs : List V) (L : List Due), vs = [.ref so] ∧ H so = some (.lst xs) ∧ NkAll H xs (L.map dueK) ∧ (∀ u ∈ L, PgK u.pg) ∧ L.length ≤ 60000 ∧ ∀ r ys H', Same H H' → H r = none → H' r = some (.lst ys) → NkAll H' ys ((oneD L).map dueK) → Q (.ref r) H'
theorem ok_madeone (T : Tx K mg w) : FnOk P w K mg base CX0 2 T.f_made_one T.d_made_one ["some"] (spMadeOne) := by
  have G_staying_place : FnOk P w K mg base CX0 1 T.f_staying_place T.d_staying_place ["due"] (spStay) := ok_stay T
  refine T.F_made_one.ok S_made_one (fun vs H Q E h => ?_) (fun cdv A outer s H vs Q E hr h => ?_)
  · obtain ⟨so, xs, L, rfl, _⟩ := h
    rfl
  · obtain ⟨so, xs, L, rfl, hso, nk, pk, lL, q⟩ := h
    refine ⟨_, (pss_cons (ps_set (i := 1) S_made_one.nd rfl (.inl rfl) pe_dnewK)
      (pss_cons (ps_for PassesOwn.never rfl (pi_list (pv 0)) (pg_name (i := 2) S_made_one.nd rfl (.inl rfl))
      (pss_cons (ps_set (i := 3) S_made_one.nd rfl (.inl rfl) (pe_tup (pa_cons (pe_ix ix_tup (pv 2) pe_int (fun _ _ => rfl)) (pa_cons (pe_ix ix_tup (pv 2) pe_int (fun _ _ => rfl)) (pa_cons (pe_ix ix_tup (pv 2) pe_int (fun _ _ => rfl)) pa_nil)))))
      (pss_one (ps_if (PW.pt (pw_or (pt_cmpR (op_notInVd hr.units) (pv 3) (pv 1) (by rfl)) (pw_or1 (pt_cmpR (op_ltN hr.units) (pe_call G_staying_place hr (by rfl) T.g_staying_place T.F_staying_place.kp T.b_staying_place .nil pass0 (pa_cons (pv 2) pa_nil)) (pe_call G_staying_place hr (by rfl) T.g_staying_place T.F_staying_place.kp T.b_staying_place .nil pass0 (pa_cons (pe_dgetV hr.units (pv 1) (pv 3) (fun _ _ => rfl)) pa_nil)) (nomark _))))) (pss_one (ps_dputV hr.units (pv 1) (pv 3) (pv 2) rfl)) pss_nil))))
      (pss_one (ps_ret (pe_callTy (call_list_valsV (by rfl)) (by rfl) T.m_list (by decide +kernel) (pa_cons (pe_valsV (pv 1)) pa_nil)))))), ?_⟩
    intro D nD
    have s1 := same_upd (o := .dK []) nD
    have h1 := upd_same (H := H) (a := D) (o := .dK [])
    have nso : so ≠ D := ne_of_none hso nD
    refine ⟨_, rfl, so, rfl, ⟨_, .inl (.inl (s1 _ _ hso))⟩, ?_⟩
    have lx : xs.length = L.length := by rw [nk.length, List.length_map]
    refine for_list (xs := xs) (fun i σ Hx => (∃ y2 y3, σ = [some (.ref so), some (.ref D), y2, y3]) ∧ (∀ b o, b ≠ D → H b = some o → Hx b = some o) ∧ ∃ es, VdAt P w Hx D es ∧ EnAt Hx es (oneD (L.take i))) ⟨⟨_, _, rfl⟩, fun b o _ e => s1 _ _ e, [], ⟨.inr ⟨rfl, h1⟩, fun p h => by cases h⟩, rfl, .nil⟩ (fun i σ Hx _ ⟨_, k, _⟩ => .inl (.inl (k _ _ nso hso))) ?_ ?_
    · rintro i x σ Hx hi ⟨⟨y2, y3, rfl⟩, kx, es, vd, en⟩
      have tpx : Tups H Hx := fun b ys e => kx _ _ (fun z => by rw [z, nD] at e; cases e) e
      obtain ⟨kk, hk, nx0⟩ := nk.get hi
      rw [List.getElem?_map] at hk
      obtain ⟨u, hu, rfl⟩ := Option.map_eq_some_iff.mp hk
      have nx := nx0.at tpx
      obtain ⟨b', c, pv, rfl, hb, np, hc⟩ := due_at nx
      have pu := pk u (List.mem_of_getElem? hu)
      have tk : L.take (i + 1) = L.take i ++ [u] := by rw [List.take_add_one, hu]; rfl
      have lt : i < xs.length := (List.getElem?_eq_some_iff.mp hi).1
      have les : es.length ≤ i := by
        have := congrArg List.length en.keys
        rw [List.length_map, List.length_map] at this
        rw [this]
        exact Nat.le_trans (oneD_len _) (by rw [List.length_take]; omega)
      rw [tk, oneD_snoc]
      have ndm := oneD_nd (L.take i)
      generalize oneD (L.take i) = m at en ndm ⊢
      refine name_as (σ' := [some (.ref so), some (.ref D), some (.ref b'), y3]) rfl ?_
      refine ⟨_, rfl, b', _, 0, .str u.ow, rfl, rfl, .inl (.inl hb), rfl, _, rfl, b', _, 1, .str u.od, rfl, rfl, .inl (.inl hb), rfl, _, rfl, b', _, 3, pv, rfl, rfl, .inl (.inl hb), rfl, sz (by show 3 ≤ 1000; decide), fun pk' npk => ?_⟩
      have s2 := same_upd (o := .tup [.str u.ow, .str u.od, pv]) npk
      have hpk := upd_same (H := Hx) (a := pk') (o := .tup [.str u.ow, .str u.od, pv])
      have vd2 := vd.same s2
      have en2 := en.at (.same s2)
      have kx2 : ∀ b o, b ≠ D → H b = some o → upd Hx pk' (.tup [.str u.ow, .str u.od, pv]) b = some o := fun b o n e => s2 _ _ (kx b o n e)
      have nx2 := nx.at (.same s2)
      have nkk : Nk (upd Hx pk' (.tup [.str u.ow, .str u.od, pv])) (.ref pk') (keyD u) := .tup hpk (.cons (.str _) (.cons (.str _) (.cons (np.at (.same s2)) .nil)))
      generalize upd Hx pk' (.tup [.str u.ow, .str u.od, pv]) = H2 at s2 hpk vd2 en2 kx2 nx2 nkk ⊢
      have dk : (keyD u).depth ≤ 8 := by
        have := pg_depth pu
        unfold keyD
        simp only [NestedKey.depthAll, NestedKey.depth]
        omega
      have put : ∀ H3, Same H2 H3 → EnAt (upd H3 D (VD P w D (putV es (keyD u) pk' b'))) (putV es (keyD u) pk' b') (stepD m u) → ∃ d a b k xs', V.ref b' = .ref b ∧ V.ref D = .ref d ∧ V.ref pk' = .ref a ∧ VdAt P w H3 d xs' ∧ Nk H3 (.ref a) k ∧ k.depth ≤ 8 ∧ xs'.length < sizeLine ∧ ((∃ y2 y3, ([some (V.ref so), some (.ref D), some (.ref b'), some (.ref pk')] : L2.St) = [some (.ref so), some (.ref D), y2, y3]) ∧ (∀ b1 o, b1 ≠ D → H b1 = some o → upd H3 d (VD P w d (putV xs' k a b)) b1 = some o) ∧ ∃ es, VdAt P w (upd H3 d (VD P w d (putV xs' k a b))) D es ∧ EnAt (upd H3 d (VD P w d (putV xs' k a b))) es (stepD m u)) := fun H3 m3 he => by
        have vd3 := vd2.same m3
        exact ⟨D, pk', b', keyD u, es, rfl, rfl, rfl, vd3, nkk.at (.same m3), dk, smallL (by omega), ⟨_, _, rfl⟩, fun b1 o n e => by rw [upd_ne n]; exact m3 _ _ (kx2 _ _ n e), _, vd_put vd3 (nkk.at (.same m3)) dk (vd_ntup vd3), he⟩
      refine name_as (σ' := [some (.ref so), some (.ref D), some (.ref b'), some (.ref pk')]) rfl ?_
      have mk : (keyD u ∈ es.map (·.1)) ↔ keyD u ∈ m.map keyD := by rw [en2.keys]
      refine ⟨_, rfl, _, rfl, D, pk', keyD u, es, rfl, rfl, vd2, nkk, dk, _, rfl, ite2 (fun e => ?_) (fun e => ?_)⟩
      · have e : (!decide (keyD u ∈ es.map (·.1))) = true := e
        rw [Bool.not_eq_true', decide_eq_false_iff_not] at e
        refine ⟨_, rfl, _, rfl, _, rfl, put _ (fun _ _ e => e) ?_⟩
        have tpD : Tups H2 (upd H2 D (VD P w D (putV es (keyD u) pk' b'))) := fun c ys e => by rw [upd_ne (fun z => vd_ntup vd2 ys (by rw [← z]; exact e))]; exact e
        unfold putV stepD at *
        rw [if_neg e] at *
        rw [if_neg (fun z => e (mk.mpr z))]
        exact (en2.at tpD).new (nx2.at tpD)
      · have e : ¬ (!decide (keyD u ∈ es.map (·.1))) = true := e
        have hin : keyD u ∈ es.map (·.1) := by
          refine Classical.byContradiction fun z => e ?_
          rw [decide_eq_false z]; rfl
        obtain ⟨v, vb, hvm, ekv, hfind, nkv⟩ := en2.find (mk.mp hin)
        have uniq : ∀ v' ∈ m, keyD v' = keyD u → v' = v := fun v' hv' e' => by
          exact inj_of_nd ndm hv' hvm (e'.trans ekv.symm)
        refine ⟨_, rfl, b', u, rfl, nx2, fun r1 H3 m3 n3 => ⟨_, rfl, _, rfl, D, pk', keyD u, es, vb, rfl, rfl, vd2.same m3, nkk.at (.same m3), dk, hfind, vb, v, rfl, nkv.at (.same m3), fun r2 H4 m4 n4 => ⟨stayK u, stayK v, stayB u v, n3.at (.same m4), n4, stay_depth u, stay_lt u v, _, rfl, ite2 (fun e2 => ?_) (fun e2 => ?_)⟩⟩⟩
        · have m34 := m3.trans m4
          have vd4 := vd2.same m34
          refine ⟨_, rfl, _, rfl, _, rfl, put _ m34 ?_⟩
          have tpD : Tups H4 (upd H4 D (VD P w D (putV es (keyD u) pk' b'))) := fun c ys e => by rw [upd_ne (fun z => vd_ntup vd4 ys (by rw [← z]; exact e))]; exact e
          have es1 : putV es (keyD u) pk' b' = es.map (fun p => if p.1 = keyD u then (p.1, p.2.1, b') else p) := by unfold putV; rw [if_pos hin]
          have st1 : stepD m u = m.map fun v => if keyD v = keyD u then u else v := by
            unfold stepD
            rw [if_pos (mk.mp hin)]
            refine List.map_congr_left fun v' hv' => ?_
            by_cases c : keyD v' = keyD u
            · rw [if_pos c, if_pos ⟨c, by rw [uniq v' hv' c]; exact e2⟩]
            · rw [if_neg c, if_neg (fun z => c z.1)]
          have h4 := (en2.at (.same m34)).at tpD
          rw [st1]
          rw [es1] at h4 ⊢
          exact h4.rep ((nx2.at (.same m34)).at (by rw [es1] at tpD; exact tpD))
        · have st1 : stepD m u = m := by
            unfold stepD
            rw [if_pos (mk.mp hin)]
            refine (List.map_congr_left (g := id) fun v' hv' => ?_).trans (List.map_id m)
            by_cases c : keyD v' = keyD u
            · rw [if_neg (fun z => e2 (by rw [← uniq v' hv' c]; exact z.2))]; rfl
            · rw [if_neg (fun z => c z.1)]; rfl
          rw [st1]
          exact ⟨⟨_, _, rfl⟩, fun b o n e => m4 _ _ (m3 _ _ (kx2 _ _ n e)), es, (vd2.same m3).same m4, (en2.at (.same m3)).at (.same m4)⟩
    · rintro σ Hx ⟨⟨y2, y3, rfl⟩, kx, es, vd, en⟩
      rw [lx, List.take_length] at en
      have les : es.length ≤ 60000 := by
        have := congrArg List.length en.keys
        rw [List.length_map, List.length_map] at this
        rw [this]
        exact Nat.le_trans (oneD_len _) lL
      refine ⟨_, rfl, D, es, rfl, vd, fun pvw npv => ?_⟩
      have s3 := same_upd (o := valsO pvw D) npv
      have h3 := upd_same (H := Hx) (a := pvw) (o := valsO pvw D)
      generalize upd Hx pvw (valsO pvw D) = H3 at s3 h3 ⊢
      refine ⟨pvw, D, es, rfl, h3, vd.same s3, by rw [sizeLine_eq]; omega, fun l nl => ?_⟩
      have nlH : H l = none := by
        cases e : H l with
        | none => rfl
        | some o => rw [s3 _ _ (kx _ _ (fun z => by rw [z, nD] at e; cases e) e)] at nl; cases nl
      refine q l _ _ (fun b o e => ?_) nlH upd_same ((en.vals.at (.same s3)).at (.same (same_upd nl)))
      rw [upd_ne (ne_of_none e nlH)]
      exact s3 _ _ (kx _ _ (fun z => by rw [z, nD] at e; cases e) e)
def notAB (a b : Str) (u : Due) : Bool := !decide ((u.ow, u.od) = (a, b) ∨ (u.ow, u.od) = (b, a))
def othersD (a b : Str) (ds : List Due) : List Due := (ds.filter (notAB a b)).map (putD a b)
def joinS (s : WS) (a b : Str) : WS := { s with ds := oneD (othersD a b s.ds), sk := s.sk + ((s.ds.length : Int) - ((othersD a b s.ds).length : Int)), sp := s.sp + (((othersD a b s.ds).length : Int) - ((oneD (othersD a b s.ds)).length : Int)) }
def spJoin (T : Tx K mg w) : Sp := fun vs H Q _ => ∃ (t1 t2 : Int) (H0 : Hp) (A : WA) (s : WS) (n : Nat) (pn : Addr) (a b : Str), vs = [.ref A.wa, .ref pn] ∧ WkAt T t1 t2 H0 H A s n ∧ H pn = some (.tup [.str a, .str b]) ∧ s.ds.length ≤ 60000 ∧ (∀ u ∈ s.ds, PgK u.pg) ∧
  ∀ du' H', WkAt T t1 t2 H0 H' { A with du := du' } (joinS s a b) n → Tups H H' → Q .non H'
theorem ok_join (T : Tx K mg w) (B : Tb T base) : FnOk P w K mg base CX0 3 T.f_Walk_join_dues T.d_Walk_join_dues ["self", "names"] (spJoin T) := by
  have G_put_for : FnOk P w K mg base CX0 2 T.f_put_for T.d_put_for ["due", "a", "b"] (spPutFor T) := ok_putfor T B
  have G_made_one : FnOk P w K mg base CX0 2 T.f_made_one T.d_made_one ["some"] (spMadeOne) := ok_madeone T
  refine T.F_Walk_join_dues.ok S_Walk_join_dues (fun vs H Q E h => ?_) (fun cdv A0 outer sx H vs Q E hr h => ?_)
  · obtain ⟨t1, t2, H0, A, s, n, pn, a, b, rfl, _⟩ := h
    rfl
  · obtain ⟨t1, t2, H0, A, s, n, pn, a, b, rfl, W, hpn, ld, pk, q⟩ := h
    refine ⟨_, (pss_cons (ps_asg (pv 1) (pg_tup rfl (pgs_cons (pg_name (i := 2) S_Walk_join_dues.nd rfl (.inr rfl)) (pgs_cons (pg_name (i := 3) S_Walk_join_dues.nd rfl (.inr rfl)) pgs_nil))))
      (pss_cons (ps_setLc (i := 4) (own := [("due", 6)]) (g := gName 6) (by rfl) S_Walk_join_dues.nd rfl rfl (sw_true rfl rfl rfl (by decide +kernel)) (pi_list (pe_fld (pv 0) rfl)) (blkOk_by (own := [("due", 6)]) (N := N_Walk_join_dues) (sc := defScope s_Walk_join_dues) (by decide +kernel)) (fun _ _ _ _ _ => (pg_name (i := 6) S_Walk_join_dues.nd rfl (.inl rfl))) (fun _ _ _ _ _ => (pts_one (pt_cmpR (r := rInN K true) (op_notInN hr.units) (pe_slice (r := rSlA K) sl_tupA (pv 6) po_none (po_some pe_int)) (pe_tup (pa_cons (pe_tup (pa_cons (pv 2) (pa_cons (pv 3) pa_nil))) (pa_cons (pe_tup (pa_cons (pv 3) (pa_cons (pv 2) pa_nil))) pa_nil))) (by rfl)))) (fun _ _ _ _ _ => (pe_call G_put_for hr (by rfl) T.g_put_for T.F_put_for.kp T.b_put_for .nil pass0 (pa_cons (pv 6) (pa_cons (pv 2) (pa_cons (pv 3) pa_nil))))))
      (pss_cons (ps_set (i := 5) S_Walk_join_dues.nd rfl (.inl rfl) (pe_call G_made_one hr (by rfl) T.g_made_one T.F_made_one.kp T.b_made_one .nil pass0 (pa_cons (pv 4) pa_nil)))
      (pss_cons (ps_fldaug (pv 0) (pe_op op_sub (pe_callB call_len_seq (by rfl) T.m_len PySem.boot_len (pa_cons (pe_fld (pv 0) rfl) pa_nil)) (pe_callB call_len_seq (by rfl) T.m_len PySem.boot_len (pa_cons (pv 4) pa_nil))) in_add)
      (pss_cons (ps_fldaug (pv 0) (pe_op op_sub (pe_callB call_len_seq (by rfl) T.m_len PySem.boot_len (pa_cons (pv 4) pa_nil)) (pe_callB call_len_seq (by rfl) T.m_len PySem.boot_len (pa_cons (pv 5) pa_nil))) in_add)
      (pss_one (ps_fld (pv 0) (pv 5) rfl))))))), ?_⟩
    obtain ⟨us, u1, u2⟩ := W.du
    have lu : us.length = s.ds.length := by rw [u2.length, List.length_map]
    refine ⟨_, rfl, pn, _, rfl, .inl (.inl hpn), rfl, _, _, rfl, _, _, rfl, rfl, ?_⟩
    refine ⟨_, rfl, A.wa, _, _, _, _, rfl, W.ob, T.cl_Walk, T.na_Walk_dues, rfl, A.du, rfl, ⟨_, .inl (.inl u1)⟩, fun D nD => ?_⟩
    have fD : Frs H D := .of nD
    have f0 : Frs H0 D := fr_new W.gk nD
    refine lc_list (xs := us) (fun i Hx => ∃ acc, Gk (tbs T) H Hx ∧ Hx D = some (.lst acc) ∧ NkAll Hx acc ((othersD a b (s.ds.take i)).map dueK) ∧ acc.length ≤ i) ⟨[], .of_same (same_upd nD) W.gk.2, upd_same, .nil, Nat.le_refl _⟩ (fun i Hx hi ⟨_, g, _⟩ => .inl (.inl (g.1 _ _ u1 (fun ps z => by cases z)))) ?_ ?_
    · rintro i x Hx hi ⟨acc, g, hD, nk, la⟩
      obtain ⟨kk, hk, nx⟩ := u2.get hi
      rw [List.getElem?_map] at hk
      obtain ⟨u, hu, rfl⟩ := Option.map_eq_some_iff.mp hk
      have nx := nx.at (.gk g)
      obtain ⟨b', c, pv, rfl, hb, np, hc⟩ := due_at nx
      have lt : i < us.length := (List.getElem?_eq_some_iff.mp hi).1
      have tk : s.ds.take (i + 1) = s.ds.take i ++ [u] := by rw [List.take_add_one, hu]; rfl
      refine ⟨rfl, _, rfl, np_in ⟨2, rfl, sl_in hb fun c1 H1 s1 h1 => ?_⟩⟩
      have h1 : H1 c1 = some (.tup [.str u.ow, .str u.od]) := h1
      refine ⟨_, rfl, _, rfl, sz (by show 2 ≤ 1000; decide), fun q1 n1 => ?_⟩
      have s2 := s1.trans (same_upd (o := .tup [.str a, .str b]) n1)
      have hq1 := upd_same (H := H1) (a := q1) (o := .tup [.str a, .str b])
      have hc1 := same_upd (o := .tup [.str a, .str b]) n1 _ _ h1
      generalize upd H1 q1 (.tup [.str a, .str b]) = H2 at s2 hq1 hc1 ⊢
      refine ⟨_, rfl, _, rfl, sz (by show 2 ≤ 1000; decide), fun q2 n2 => ?_⟩
      have s3 := s2.trans (same_upd (o := .tup [.str b, .str a]) n2)
      have hq2 := upd_same (H := H2) (a := q2) (o := .tup [.str b, .str a])
      have hq1 := same_upd (o := .tup [.str b, .str a]) n2 _ _ hq1
      have hc1 := same_upd (o := .tup [.str b, .str a]) n2 _ _ hc1
      generalize upd H2 q2 (.tup [.str b, .str a]) = H3 at s3 hq2 hq1 hc1 ⊢
      refine ⟨sz (by show 2 ≤ 1000; decide), fun q3 n3 => ?_⟩
      have s4 := s3.trans (same_upd (o := .tup [.ref q1, .ref q2]) n3)
      have hq3 := upd_same (H := H3) (a := q3) (o := .tup [.ref q1, .ref q2])
      have hq2 := same_upd (o := .tup [.ref q1, .ref q2]) n3 _ _ hq2
      have hq1 := same_upd (o := .tup [.ref q1, .ref q2]) n3 _ _ hq1
      have hc1 := same_upd (o := .tup [.ref q1, .ref q2]) n3 _ _ hc1
      generalize upd H3 q3 (.tup [.ref q1, .ref q2]) = H4 at s4 hq3 hq2 hq1 hc1 ⊢
      have two : ∀ {q : Addr} {x y : Str}, H4 q = some (.tup [.str x, .str y]) → Nk H4 (.ref q) (.tup [.text x, .text y]) := fun h => .tup h (.cons (.str _) (.cons (.str _) .nil))
      have g4 := g.trans (.of_same s4 g.2)
      have eno : (!decide (NestedKey.tup [.text u.ow, .text u.od] ∈ ([.tup [.text a, .text b], .tup [.text b, .text a]] : List NestedKey))) = notAB a b u := by
        unfold notAB
        congr 1
        rw [Bool.eq_iff_iff, decide_eq_true_eq, decide_eq_true_eq]
        simp
      refine ⟨q3, [.ref q1, .ref q2], .tup [.text u.ow, .text u.od], _, rfl, .inr (.inl (.inl hq3)), two hc1, .cons (two hq1) (.cons (two hq2) .nil), by simp only [NestedKey.depth, NestedKey.depthAll]; omega, _, rfl, ?_⟩
      rw [if_pos rfl, eno]
      have fin : othersD a b (s.ds.take (i + 1)) = othersD a b (s.ds.take i) ++ if notAB a b u = true then [putD a b u] else [] := by
        unfold othersD
        rw [tk, List.filter_append, List.map_append]
        congr 1
        rw [List.filter_cons]
        split <;> rfl
      refine ite2 (fun e => ?_) (fun e => ?_)
      · refine ⟨_, rfl, _, rfl, _, rfl, b', u, a, b, rfl, nx.at (.same s4), g4.2, fun r H5 g5 n5 => ?_⟩
        have g45 := g4.trans g5
        have hD5 := g5.1 _ _ (s4 _ _ hD) (fun ps z => by cases z)
        have tp : Tups H5 (upd H5 D (.lst (acc ++ [.ref r]))) := fun c xs e => by rw [upd_ne (fun z => by rw [z, hD5] at e; cases e)]; exact e
        refine ⟨acc, hD5, smallL (by omega), _, gk_upd g45 fD hD5 (fun ps z => by cases z), upd_same, ?_, by rw [List.length_append]; exact Nat.succ_le_succ la⟩
        rw [fin, if_pos e, List.map_append]
        exact (nk.at (((Tups.same s4).trans (.gk g5)).trans tp)).app (.cons (n5.at tp) .nil)
      · refine ⟨acc, g4, s4 _ _ hD, ?_, by omega⟩
        rw [fin, if_neg e, List.append_nil]
        exact nk.at (.same s4)
    rintro Hx ⟨acc, g, hD, nk, la⟩
    rw [List.take_of_length_le (by rw [lu]; exact Nat.le_refl _)] at nk
    have Wx := W.gkk g
    have u1x := g.1 _ _ u1 (fun ps z => by cases z)
    have lac : acc.length = (othersD a b s.ds).length := by rw [nk.length, List.length_map]
    have lot : (othersD a b s.ds).length ≤ s.ds.length := by unfold othersD; rw [List.length_map]; exact List.length_filter_le _ _
    refine name_as (σ' := [some (.ref A.wa), some (.ref pn), some (.str a), some (.str b), some (.ref D), none, none]) rfl ?_
    refine ⟨_, rfl, D, acc, othersD a b s.ds, rfl, hD, nk, fun u hu => ?_, by omega, fun K' ys H2 m2 nK hK nkK => ?_⟩
    · unfold othersD at hu
      obtain ⟨v, hv, rfl⟩ := List.mem_map.mp hu
      exact pk v (List.mem_filter.mp hv).1
    have W2 := Wx.same m2
    obtain ⟨zs, a1, a2⟩ := Wx.an
    have sw := a2.swap nK m2
    obtain ⟨mk, k1, _⟩ := Wx.mks
    have lys : ys.length = (oneD (othersD a b s.ds)).length := by rw [nkK.length, List.length_map]
    refine name_as (σ' := [some (.ref A.wa), some (.ref pn), some (.str a), some (.str b), some (.ref D), some (.ref K'), none]) rfl ?_
    have hD2 := m2 _ _ hD
    have du2 := m2 _ _ u1x
    have an2 := m2 _ _ a1
    refine ⟨_, rfl, A.wa, _, _, _, _, rfl, W2.ob, T.cl_Walk, T.na_Walk_struck, rfl, _, rfl, A.wa, _, _, _, _, rfl, W2.ob, T.cl_Walk, T.na_Walk_dues, rfl, A.du, us, rfl, .inl (.inl (.inl du2)), _, rfl, D, acc, rfl, .inl (.inl (.inl hD2)), _, _, rfl, rfl, _, _, rfl, rfl, _, _, W2.ob, (by show 10 < 1000; decide), ?_⟩
    have st : ∀ {H : Hp} {c : Addr} {xs : List V} {o : HO} {C dx : Addr} {fs : List (Str × V)}, H A.wa = some (.ins C dx fs) → H c = some (.lst xs) → upd H A.wa o c = some (.lst xs) := fun h e => by rw [upd_ne (fun z => by rw [z, h] at e; cases e)]; exact e
    have W3 := W2.putC s.cp (s.sk + ((us.length : Int) - (acc.length : Int))) s.sp
    have t3 := W2.tupne (o := .ins T.C_Walk A.dx (fldsW A { s with cp := s.cp, sk := s.sk + ((us.length : Int) - (acc.length : Int)), sp := s.sp }))
    have hK3 := st (o := .ins T.C_Walk A.dx (fldsW A { s with cp := s.cp, sk := s.sk + ((us.length : Int) - (acc.length : Int)), sp := s.sp })) W2.ob hK
    have hD3 := st (o := .ins T.C_Walk A.dx (fldsW A { s with cp := s.cp, sk := s.sk + ((us.length : Int) - (acc.length : Int)), sp := s.sp })) W2.ob hD2
    have an3 := st (o := .ins T.C_Walk A.dx (fldsW A { s with cp := s.cp, sk := s.sk + ((us.length : Int) - (acc.length : Int)), sp := s.sp })) W2.ob an2
    have sw3 := sw.keep t3 fun l ys _ _ _ _ e => st (o := .ins T.C_Walk A.dx (fldsW A { s with cp := s.cp, sk := s.sk + ((us.length : Int) - (acc.length : Int)), sp := s.sp })) W2.ob e
    change (Ends.mk _ _ _ _).nx _ (upd H2 A.wa (.ins T.C_Walk A.dx (fldsW A { s with cp := s.cp, sk := s.sk + ((us.length : Int) - (acc.length : Int)), sp := s.sp })))
    generalize upd H2 A.wa (.ins T.C_Walk A.dx (fldsW A { s with cp := s.cp, sk := s.sk + ((us.length : Int) - (acc.length : Int)), sp := s.sp })) = H3 at W3 t3 hK3 hD3 an3 sw3 ⊢
    refine ⟨_, rfl, A.wa, _, _, _, _, rfl, W3.ob, T.cl_Walk, T.na_Walk_spare, rfl, _, rfl, D, acc, rfl, .inl (.inl (.inl hD3)), _, rfl, K', ys, rfl, .inl (.inl (.inl hK3)), _, _, rfl, rfl, _, _, rfl, rfl, _, _, W3.ob, (by show 10 < 1000; decide), ?_⟩
    have W4 := W3.putC s.cp (s.sk + ((us.length : Int) - (acc.length : Int))) (s.sp + ((acc.length : Int) - (ys.length : Int)))
    have t4 := W3.tupne (o := .ins T.C_Walk A.dx (fldsW A { s with cp := s.cp, sk := s.sk + ((us.length : Int) - (acc.length : Int)), sp := s.sp + ((acc.length : Int) - (ys.length : Int)) }))
    have hK4 := st (o := .ins T.C_Walk A.dx (fldsW A { s with cp := s.cp, sk := s.sk + ((us.length : Int) - (acc.length : Int)), sp := s.sp + ((acc.length : Int) - (ys.length : Int)) })) W3.ob hK3
    have an4 := st (o := .ins T.C_Walk A.dx (fldsW A { s with cp := s.cp, sk := s.sk + ((us.length : Int) - (acc.length : Int)), sp := s.sp + ((acc.length : Int) - (ys.length : Int)) })) W3.ob an3
    have sw4 := sw3.keep t4 fun l ys' _ _ _ _ e => st (o := .ins T.C_Walk A.dx (fldsW A { s with cp := s.cp, sk := s.sk + ((us.length : Int) - (acc.length : Int)), sp := s.sp + ((acc.length : Int) - (ys.length : Int)) })) W3.ob e
    change (Ends.mk _ _ _ _).nx _ (upd H3 A.wa (.ins T.C_Walk A.dx (fldsW A { s with cp := s.cp, sk := s.sk + ((us.length : Int) - (acc.length : Int)), sp := s.sp + ((acc.length : Int) - (ys.length : Int)) })))
    generalize upd H3 A.wa (.ins T.C_Walk A.dx (fldsW A { s with cp := s.cp, sk := s.sk + ((us.length : Int) - (acc.length : Int)), sp := s.sp + ((acc.length : Int) - (ys.length : Int)) })) = H4 at W4 t4 hK4 an4 sw4 ⊢
    refine ⟨_, rfl, _, rfl, A.wa, _, _, _, rfl, W4.ob, T.cl_Walk, T.na_Walk_dues, (by show 10 < 1000; decide), ?_⟩
    have tt : Tups H H4 := (Tups.gk g).trans ((Tups.same m2).trans (t3.trans t4))
    have nk4 : NkAll H4 ys ((oneD (othersD a b s.ds)).map dueK) := nkK.at (t3.trans t4)
    have W5 := W4.putDu2 (du' := K') (oneD (othersD a b s.ds)) s.cp (s.sk + ((us.length : Int) - (acc.length : Int))) (s.sp + ((acc.length : Int) - (ys.length : Int))) hK4 nk4 an4 sw4 (fr_new Wx.gk nK) (ne_of_none Wx.kn nK) (ne_of_none k1 nK).symm (ne_of_none a1 nK).symm
    have ej : joinS s a b = { s with ds := oneD (othersD a b s.ds), cp := s.cp, sk := s.sk + ((us.length : Int) - (acc.length : Int)), sp := s.sp + ((acc.length : Int) - (ys.length : Int)) } := by
      unfold joinS
      rw [lac, lys, lu]
    refine q K' _ (by rw [ej]; exact W5) (tt.trans W4.tupne)
end
end L20

set_option Elab.async false
set_option linter.all false
set_option maxRecDepth 100000
set_option maxHeartbeats 4000000
namespace L20
open PySem PySem.Spec PyProof.Rows L2 My
section
variable {P : Program} {w : World} {K : PySem.W.Frag} {mg : Str → Option Value} {base : Heap}
theorem WkAt.up {T : Tx K mg w} {t1 t2 : Int} {H0 H : Hp} {A : WA} {s : WS} {n m : Nat} (W : WkAt T t1 t2 H0 H A s n) (l : n ≤ m) : WkAt T t1 t2 H0 H A s m := by
  obtain ⟨kvs, h1, h2, h3⟩ := W.hm
  obtain ⟨kv2, M, m2⟩ := W.mo
  exact { W with
    hm := ⟨kvs, h1, Nat.le_trans h2 l, h3⟩, mo := ⟨kv2, ⟨M.hmu, Nat.le_trans M.len l, M.no, fun nm v hv => let ⟨da, dk, a, b, c, d, e⟩ := M.yes nm v hv; ⟨da, dk, a, b, c, Nat.le_trans d (Nat.mul_le_mul_left _ l), e⟩, M.inj⟩, m2⟩, knl := Nat.le_trans W.knl l }
def markS (k : NestedKey) (m : NestedKey) : NestedKey := .tup [k, m]
/-- a parting's dues -/
def partS (s : WS) (a b : Str) : WS := { s with ds := s.ds ++ copyD a b s.ds, cp := s.cp + ((copyD a b s.ds).length : Int) }
/-- a page that is no going, done -/
def bodyS (s : WS) (p : Pg) : WS :=
  if p.z = "part" then partS (turnS s p) p.a (p.b.getD p.a)
  else if p.z = "join" then joinS (turnS s p) p.a (p.b.getD p.a)
  else if p.z = "mourn" then { turnS s p with L := s.L ++ [(p.a, p.d, p.m)] }
  else turnS s p
/-- a page done: what stands behind it -/
def doS (s : WS) (k : NestedKey) : WS :=
  if goodS s (pgK k) = false then { s with mks := s.mks ++ [markS k (.tup [.text "idle"])] }
  else if (pgK k).z = "card" ∨ (pgK k).z = "visit" then { (goS (turnS s (pgK k)) k).1 with mks := s.mks ++ [markS k (goS (turnS s (pgK k)) k).2] }
  else { bodyS s (pgK k) with mks := s.mks ++ [markS k (.tup [.text "done"])] }
theorem pv_two {z a : Str} {b : Option Str} {lv : V} {r : List V} (h : PV z a b lv r) (e : z = "part" ∨ z = "join") : ∃ b', b = some b' := by
  cases h
  case part => exact ⟨_, rfl⟩
  case join => exact ⟨_, rfl⟩
  all_goals exact absurd e (by decide +kernel)
theorem turn_mks (s : WS) (p : Pg) : (turnS s p).mks = s.mks ∧ (turnS s p).ds = s.ds ∧ (turnS s p).an = s.an ∧ (turnS s p).L = s.L := by
  unfold turnS
  split
  · exact ⟨rfl, rfl, rfl, rfl⟩
  split
  · exact ⟨rfl, rfl, rfl, rfl⟩
  split
  · exact ⟨rfl, rfl, rfl, rfl⟩
  split <;> exact ⟨rfl, rfl, rfl, rfl⟩
theorem turn_going {s : WS} {p : Pg} (h : p.z = "card" ∨ p.z = "visit") : turnS s p = s := by
  unfold turnS
  rcases h with e | e <;> (rw [e]; rw [if_neg (by decide +kernel), if_neg (by decide +kernel), if_neg (by decide +kernel), if_neg (by decide +kernel)])
theorem WkAt.mark {T : Tx K mg w} {t1 t2 : Int} {H0 H : Hp} {A : WA} {s : WS} {n : Nat} (W : WkAt T t1 t2 H0 H A s n) {r1 : Addr} {m k : NestedKey} {pa : Addr} {v : V} {xs : List V} (hx : H A.mks = some (.lst xs)) (nx : NkAll H xs s.mks) (hr : H r1 = some (.tup [.ref pa, v])) (nk : Nk H (.ref pa) k) (nv : Nk H v m) :
    WkAt T t1 t2 H0 (upd H A.mks (.lst (xs ++ [.ref r1]))) A { s with mks := s.mks ++ [markS k m] } n ∧ Tups H (upd H A.mks (.lst (xs ++ [.ref r1]))) :=
  ⟨W.setMk (nx.app (.cons (.tup hr (.cons nk (.cons nv .nil))) .nil)), fun c ys e => by rw [upd_ne (fun z => by rw [z, hx] at e; cases e)]; exact e⟩
theorem mo_view {H : Hp} {pa : Addr} {k : NestedKey} (n : Nk H (.ref pa) k) (p : PgK k) (z : (pgK k).z = "mourn") : H pa = some (.tup [.str "mourn", .int (pgK k).d, .str (pgK k).a, .int (pgK k).m]) := by
  obtain ⟨pa', lv, r, e, hp, vw, _, _, _, _, hm⟩ := pg_at n p
  cases e
  obtain ⟨e1, _⟩ := hm z
  generalize pgK k = q at hp vw z e1 ⊢
  obtain ⟨qz, qd, qa, qb, qw, qm⟩ := q
  dsimp only at hp vw z e1 ⊢
  cases vw
  case mourn => cases e1; exact hp
  all_goals exact absurd z (by decide +kernel)
theorem go_mks (s : WS) (k : NestedKey) : (goS s k).1.mks = s.mks := by
  unfold goS
  split <;> rfl
def spDo (T : Tx K mg w) : Sp := fun vs H Q _ => ∃ (t1 t2 : Int) (H0 : Hp) (A : WA) (s : WS) (n : Nat) (pa : Addr) (k : NestedKey), vs = [.ref A.wa, .ref pa] ∧ WkAt T t1 t2 H0 H A s n ∧ Nk H (.ref pa) k ∧ PgK k ∧ n ≤ 250 ∧
  s.ds.length ≤ 30000 ∧ s.an.length ≤ 400 ∧ (∀ u ∈ s.ds, PgK u.pg) ∧ s.mks.length ≤ 400 ∧ (∀ u ∈ s.ds, (dueK u).depth ≤ 50) ∧ ∀ du' H', WkAt T t1 t2 H0 H' { A with du := du' } (doS s k) (n + 2) → Tups H H' → Q .non H'
theorem ok_do (T : Tx K mg w) (B : Tb T base) : FnOk P w K mg base CX0 6 T.f_Walk_do_page T.d_Walk_do_page ["self", "page"] (spDo T) := by
  have G_can_be_done : FnOk P w K mg base CX0 5 T.f_can_be_done T.d_can_be_done ["homes", "known", "page"] (spCan T) := ok_can T B
  have G_turn_houses : FnOk P w K mg base CX0 4 T.f_turn_houses T.d_turn_houses ["homes", "known", "page"] (spTurn T) := ok_turn T B
  have G_page_kind : FnOk P w K mg base CX0 1 T.f_page_kind T.d_page_kind ["page"] ((spAt 0)) := ok_page_kind T
  have G_names_of : FnOk P w K mg base CX0 3 T.f_names_of T.d_names_of ["page"] (spNms T) := ok_nms T B
  have G_Walk_go_out : FnOk P w K mg base CX0 4 T.f_Walk_go_out T.d_Walk_go_out ["self", "page"] (spGo T) := ok_go T
  have G_add_mourning : FnOk P w K mg base CX0 1 T.f_add_mourning T.d_add_mourning ["mourning", "page"] (spAdd) := ok_add T
  have G_Walk_part_dues : FnOk P w K mg base CX0 1 T.f_Walk_part_dues T.d_Walk_part_dues ["self", "names"] (spPart T) := ok_part T
  have G_Walk_join_dues : FnOk P w K mg base CX0 3 T.f_Walk_join_dues T.d_Walk_join_dues ["self", "names"] (spJoin T) := ok_join T B
  refine T.F_Walk_do_page.ok S_Walk_do_page (fun vs H Q E h => ?_) (fun cdv A0 outer sx H vs Q E hr h => ?_)
  · obtain ⟨t1, t2, H0, A, s, n, pa, k, rfl, _⟩ := h
    rfl
  · obtain ⟨t1, t2, H0, A, s, n, pa, k, rfl, W, nk, pk, ln, ld, la, pgs, lm, dd, q⟩ := h
    refine ⟨_, (pss_cons (ps_if (pt_not (pt_val (pe_call G_can_be_done hr (by rfl) T.g_can_be_done T.F_can_be_done.kp T.b_can_be_done .nil pass0 (pa_cons (pe_fld (pv 0) rfl) (pa_cons (pe_fld (pv 0) rfl) (pa_cons (pv 1) pa_nil)))))) (pss_cons (ps_expr (pe_bm PySem.F.plainAttrs_list PySem.F.slot_list_append PySem.F.type_list_append mt_append (pe_fld (pv 0) rfl) (pa_cons (pe_tup (pa_cons (pv 1) (pa_cons (pe_tup (pa_cons pe_str pa_nil)) pa_nil))) pa_nil)))
      (pss_one ps_retN)) pss_nil)
      (pss_cons (ps_expr (pe_call G_turn_houses (hr.mono (by decide)) (by rfl) T.g_turn_houses T.F_turn_houses.kp T.b_turn_houses .nil pass0 (pa_cons (pe_fld (pv 0) rfl) (pa_cons (pe_fld (pv 0) rfl) (pa_cons (pv 1) pa_nil)))))
      (pss_cons (ps_set (i := 2) S_Walk_do_page.nd rfl (.inl rfl) (pe_call G_page_kind (hr.mono (by decide)) (by rfl) T.g_page_kind T.F_page_kind.kp T.b_page_kind .nil pass0 (pa_cons (pv 1) pa_nil)))
      (pss_cons (ps_if (pt_cmpR op_in_seq (pv 2) (pe_glob (v := .ref T.a_GOINGS) (by rfl) T.c_GOINGS rfl) (by rfl)) (pss_cons (ps_expr (pe_bm PySem.F.plainAttrs_list PySem.F.slot_list_append PySem.F.type_list_append mt_append (pe_fld (pv 0) rfl) (pa_cons (pe_tup (pa_cons (pv 1) (pa_cons (pe_meth (pv 0) T.cl_Walk T.me_Walk_go_out G_Walk_go_out (hr.mono (by decide)) T.b_Walk_go_out .nil pass0 (pa_cons (pv 1) pa_nil)) pa_nil))) pa_nil)))
      (pss_one ps_retN)) pss_nil)
      (pss_cons (ps_if (pt_cmpR op_eq (pv 2) pe_str (nomark _)) (pss_one (ps_expr (pe_meth (pv 0) T.cl_Walk T.me_Walk_part_dues G_Walk_part_dues (hr.mono (by decide)) T.b_Walk_part_dues .nil pass0 (pa_cons (pe_call G_names_of (hr.mono (by decide)) (by rfl) T.g_names_of T.F_names_of.kp T.b_names_of .nil pass0 (pa_cons (pv 1) pa_nil)) pa_nil)))) (pss_one (ps_if (pt_cmpR op_eq (pv 2) pe_str (nomark _)) (pss_one (ps_expr (pe_meth (pv 0) T.cl_Walk T.me_Walk_join_dues G_Walk_join_dues (hr.mono (by decide)) T.b_Walk_join_dues .nil pass0 (pa_cons (pe_call G_names_of (hr.mono (by decide)) (by rfl) T.g_names_of T.F_names_of.kp T.b_names_of .nil pass0 (pa_cons (pv 1) pa_nil)) pa_nil)))) (pss_one (ps_if (pt_cmpR op_eq (pv 2) pe_str (nomark _)) (pss_one (ps_expr (pe_call G_add_mourning (hr.mono (by decide)) (by rfl) T.g_add_mourning T.F_add_mourning.kp T.b_add_mourning .nil pass0 (pa_cons (pe_fld (pv 0) rfl) (pa_cons (pv 1) pa_nil))))) pss_nil)))))
      (pss_one (ps_expr (pe_bm PySem.F.plainAttrs_list PySem.F.slot_list_append PySem.F.type_list_append mt_append (pe_fld (pv 0) rfl) (pa_cons (pe_tup (pa_cons (pv 1) (pa_cons (pe_tup (pa_cons pe_str pa_nil)) pa_nil))) pa_nil))))))))), ?_⟩
    obtain ⟨pa', lv, r, e, hp, vw, _, d0, d1, hw, hmm⟩ := pg_at nk pk
    cases e
    obtain ⟨kvs, h1, h2, h3⟩ := W.hm
    unfold doS at q
    have eg := good_hm h3 (pgK k)
    obtain ⟨p, ep⟩ : ∃ p, p = pgK k := ⟨_, rfl⟩
    rw [← ep] at q hp vw d0 d1 hw hmm eg
    refine ⟨_, rfl, A.wa, _, _, _, _, rfl, W.ob, T.cl_Walk, T.na_Walk_homes, rfl, ?_⟩
    refine ⟨_, rfl, A.wa, _, _, _, _, rfl, W.ob, T.cl_Walk, T.na_Walk_known, rfl, _, rfl, A.hm, A.kn, pa, kvs, s.kn, p.z, p.a, p.b, lv, .int p.d, r, rfl, h1, W.kn, hp, vw, W.gk.2, fun H1 g1 => ⟨_, rfl, ?_⟩⟩
    have W1 := W.gkk g1
    rw [eg]
    obtain ⟨xs, x1, x2⟩ := W1.mks
    have lx : xs.length ≤ 400 := by rw [x2.length]; exact lm
    refine ite2 (fun e => ?_) (fun e => ?_)
    · have e : goodS s p = false := by simpa using e
      rw [if_pos e] at q
      refine ⟨_, rfl, A.wa, _, _, _, _, rfl, W1.ob, T.cl_Walk, T.na_Walk_marks, rfl, .inl ⟨rfl, _, .inl (.inl x1)⟩, ?_⟩
      refine ⟨_, rfl, sz (by show 1 ≤ 1000; decide), fun r1 n1 => ?_⟩
      have s2 := same_upd (o := .tup [.str "idle"]) n1
      have i2 := upd_same (H := H1) (a := r1) (o := .tup [.str "idle"])
      generalize upd H1 r1 (.tup [.str "idle"]) = H2 at s2 i2 ⊢
      refine ⟨sz (by show 2 ≤ 1000; decide), fun r2 n2 => ?_⟩
      have s3 := same_upd (o := .tup [.ref pa, .ref r1]) n2
      have i3 := upd_same (H := H2) (a := r2) (o := .tup [.ref pa, .ref r1])
      generalize upd H2 r2 (.tup [.ref pa, .ref r1]) = H3 at s3 i3 ⊢
      have W3 := (W1.same s2).same s3
      have t3 := (Tups.gk g1).trans ((Tups.same s2).trans (.same s3))
      have x3 := s3 _ _ (s2 _ _ x1)
      refine ⟨A.mks, xs, .ref r2, rfl, rfl, x3, small1000 (by omega), ?_⟩
      obtain ⟨W4, t4⟩ := W3.mark (m := .tup [.text "idle"]) x3 (x2.at ((Tups.same s2).trans (.same s3))) i3 (nk.at t3) (.tup (s3 _ _ i2) (.cons (.str _) .nil))
      exact q A.du _ (W4.up (by omega)) (t3.trans t4)
    have e : goodS s p = true := by simpa using e
    rw [if_neg (by rw [e]; decide)] at q
    refine ⟨_, rfl, A.wa, _, _, _, _, rfl, W1.ob, T.cl_Walk, T.na_Walk_homes, rfl, ?_⟩
    refine ⟨_, rfl, A.wa, _, _, _, _, rfl, W1.ob, T.cl_Walk, T.na_Walk_known, rfl, _, rfl, ?_⟩
    have h11 := g1.1 _ _ h1 (fun ps z => by cases z)
    have hp1 := g1.tup hp
    refine ⟨A.hm, A.kn, pa, kvs, s.kn, p.z, p.a, p.b, lv, .int p.d, r, rfl, h11, W1.kn, hp1, vw, W1.gk.2, eg.trans e, by omega, by have := W.knl; omega, (fun z => by have := W1.kn; rw [← z, h11] at this; cases this), fun H2 k2 j1 j2 => ?_⟩
    obtain ⟨W2, t2'⟩ := W1.turn h11 h2 (h3.at (.gk g1)) k2 j1 j2 (fun z => let ⟨q, a, b⟩ := hw z; ⟨q, a, g1.tup b⟩)
    have tt := (Tups.gk g1).trans t2'
    refine ⟨_, rfl, pa, _, .str p.z, rfl, t2' _ _ hp1, rfl, ?_⟩
    refine ⟨_, rfl, T.a_GOINGS, [.str "card", .str "visit"], rfl, .inr (.inr T.w_GOINGS), rfl, rfl, _, rfl, ?_⟩
    have ei : inV (.str p.z) [.str "card", .str "visit"] = decide (p.z ∈ (["card", "visit"] : List Str)) := inV_strs p.z ["card", "visit"]
    refine ite2 (fun e2 => ?_) (fun e2 => ?_)
    · have e2 : inV (.str p.z) [.str "card", .str "visit"] = true := e2
      rw [ei, decide_eq_true_eq] at e2
      have zg : p.z = "card" ∨ p.z = "visit" := by
        rcases List.mem_cons.mp e2 with h | h
        · exact .inl h
        · exact .inr (List.mem_singleton.mp h)
      rw [if_pos zg] at q
      have tg := turn_going (s := s) zg
      rw [tg] at q W2
      have hb : ∀ b, (pgK k).b = some b → (s.hs b).isSome = true := fun b eb => by
        rw [← ep] at eb
        unfold goodS at e
        rw [if_neg (by rcases zg with h | h <;> (rw [h]; decide +kernel)), if_neg (by rcases zg with h | h <;> (rw [h]; decide +kernel)), eb] at e
        exact (Bool.and_eq_true _ _ ▸ e).2
      obtain ⟨xs2, y1, y2⟩ := W2.mks
      have lx2 : xs2.length ≤ 400 := by rw [y2.length]; exact lm
      refine ⟨_, rfl, A.wa, _, _, _, _, rfl, W2.ob, T.cl_Walk, T.na_Walk_marks, rfl, .inl ⟨rfl, _, .inl (.inl y1)⟩, ?_⟩
      refine ⟨_, rfl, ?_⟩
      refine ⟨_, rfl, A.wa, _, _, rfl, W2.ob, rfl, _, rfl, t1, t2, H0, A, s, n + 1, pa, k, rfl, W2, nk.at tt, pk, ep ▸ zg, hb, by omega, la, dd, fun du' mv H3 W3 nm t3 => ?_⟩
      obtain ⟨xs3, v1, v2⟩ := W3.mks
      have lx3 : xs3.length ≤ 400 := by rw [v2.length, go_mks]; exact lm
      refine ⟨sz (by show 2 ≤ 1000; decide), fun r2 n2 => ?_⟩
      have s3 := same_upd (o := .tup [.ref pa, mv]) n2
      have i3 := upd_same (H := H3) (a := r2) (o := .tup [.ref pa, mv])
      generalize upd H3 r2 (.tup [.ref pa, mv]) = H4 at s3 i3 ⊢
      refine ⟨A.mks, xs3, .ref r2, rfl, rfl, s3 _ _ v1, small1000 (by omega), ?_⟩
      have t4 := tt.trans (t3.trans (.same s3))
      obtain ⟨W5, t5⟩ := (W3.same s3).mark (A := { A with du := du' }) (s3 _ _ v1) (v2.at (.same s3)) i3 (nk.at t4) (nm.at (.same s3))
      rw [go_mks] at W5
      exact q du' _ (W5.up (by omega)) (t4.trans t5)
    have zg : ¬ (p.z = "card" ∨ p.z = "visit") := fun z => e2 (ei.trans (decide_eq_true (by rcases z with h | h <;> (rw [h]; decide +kernel))))
    rw [if_neg zg] at q
    refine ⟨_, rfl, rfl, _, rfl, ite2 (fun e3 => ?_) (fun e3 => ?_)⟩
    · have e3 : p.z = "part" := V.str.inj (of_decide_eq_true e3)
      unfold bodyS at q
      rw [if_pos e3] at q
      obtain ⟨b, eb⟩ := pv_two vw (.inl e3)
      rw [eb] at q vw
      obtain ⟨tm, td, ta, tl⟩ := turn_mks s p
      refine ⟨_, rfl, A.wa, _, _, rfl, W2.ob, rfl, _, rfl, pa, p.z, p.a, some b, lv, .int p.d, r, rfl, t2' _ _ hp1, vw, W2.gk.2, fun pn H3 g3 hq => ⟨t1, t2, H0, A, turnS s p, n + 1, pn, p.a, b, rfl, W2.gkk g3, hq, by rw [td]; exact ld, fun H4 W4 t4 => ?_⟩⟩
      have ttt := tt.trans ((Tups.gk g3).trans t4)
      obtain ⟨xs4, y1, y2⟩ := W4.mks
      have lx4 : xs4.length ≤ 400 := by rw [y2.length, show ({ turnS s p with ds := (turnS s p).ds ++ copyD p.a b (turnS s p).ds, cp := (turnS s p).cp + ((copyD p.a b (turnS s p).ds).length : Int) } : WS).mks = s.mks from tm]; exact lm
      refine ⟨_, rfl, A.wa, _, _, _, _, rfl, W4.ob, T.cl_Walk, T.na_Walk_marks, rfl, .inl ⟨rfl, _, .inl (.inl y1)⟩, ?_⟩
      refine ⟨_, rfl, sz (by show 1 ≤ 1000; decide), fun r1 n1 => ?_⟩
      have s2 := same_upd (o := .tup [.str "done"]) n1
      have i2 := upd_same (H := H4) (a := r1) (o := .tup [.str "done"])
      generalize upd H4 r1 (.tup [.str "done"]) = H4 at s2 i2 ⊢
      refine ⟨sz (by show 2 ≤ 1000; decide), fun r2 n2 => ?_⟩
      have s3 := same_upd (o := .tup [.ref pa, .ref r1]) n2
      have i3 := upd_same (H := H4) (a := r2) (o := .tup [.ref pa, .ref r1])
      generalize upd H4 r2 (.tup [.ref pa, .ref r1]) = H5 at s3 i3 ⊢
      have W5 := (W4.same s2).same s3
      have t5 := (Tups.same s2).trans (.same s3)
      refine ⟨A.mks, xs4, .ref r2, rfl, rfl, s3 _ _ (s2 _ _ y1), small1000 (by omega), ?_⟩
      obtain ⟨W6, t6⟩ := W5.mark (m := .tup [.text "done"]) (s3 _ _ (s2 _ _ y1)) (y2.at ((Tups.same s2).trans (.same s3))) i3 (nk.at (ttt.trans t5)) (.tup (s3 _ _ i2) (.cons (.str _) .nil))
      rw [show ({ turnS s p with ds := (turnS s p).ds ++ copyD p.a b (turnS s p).ds, cp := (turnS s p).cp + ((copyD p.a b (turnS s p).ds).length : Int) } : WS).mks = s.mks from tm] at W6
      exact q A.du _ (W6.up (by omega)) (ttt.trans (t5.trans t6))
    have z1 : p.z ≠ "part" := fun z => e3 (decide_eq_true (by rw [z]))
    refine ⟨_, rfl, rfl, _, rfl, ite2 (fun e3 => ?_) (fun e3 => ?_)⟩
    · have e3 : p.z = "join" := V.str.inj (of_decide_eq_true e3)
      unfold bodyS at q
      rw [if_neg z1, if_pos e3] at q
      obtain ⟨b, eb⟩ := pv_two vw (.inr e3)
      rw [eb] at q vw
      obtain ⟨tm, td, ta, tl⟩ := turn_mks s p
      refine ⟨_, rfl, A.wa, _, _, rfl, W2.ob, rfl, _, rfl, pa, p.z, p.a, some b, lv, .int p.d, r, rfl, t2' _ _ hp1, vw, W2.gk.2, fun pn H3 g3 hq => ⟨t1, t2, H0, A, turnS s p, n + 1, pn, p.a, b, rfl, W2.gkk g3, hq, by rw [td]; omega, by rw [td]; exact pgs, fun du7 H4 W4 t4 => ?_⟩⟩
      have ttt := tt.trans ((Tups.gk g3).trans t4)
      obtain ⟨xs4, y1, y2⟩ := W4.mks
      have lx4 : xs4.length ≤ 400 := by rw [y2.length, show (joinS (turnS s p) p.a b).mks = s.mks from tm]; exact lm
      refine ⟨_, rfl, A.wa, _, _, _, _, rfl, W4.ob, T.cl_Walk, T.na_Walk_marks, rfl, .inl ⟨rfl, _, .inl (.inl y1)⟩, ?_⟩
      refine ⟨_, rfl, sz (by show 1 ≤ 1000; decide), fun r1 n1 => ?_⟩
      have s2 := same_upd (o := .tup [.str "done"]) n1
      have i2 := upd_same (H := H4) (a := r1) (o := .tup [.str "done"])
      generalize upd H4 r1 (.tup [.str "done"]) = H4 at s2 i2 ⊢
      refine ⟨sz (by show 2 ≤ 1000; decide), fun r2 n2 => ?_⟩
      have s3 := same_upd (o := .tup [.ref pa, .ref r1]) n2
      have i3 := upd_same (H := H4) (a := r2) (o := .tup [.ref pa, .ref r1])
      generalize upd H4 r2 (.tup [.ref pa, .ref r1]) = H5 at s3 i3 ⊢
      have W5 := (W4.same s2).same s3
      have t5 := (Tups.same s2).trans (.same s3)
      refine ⟨A.mks, xs4, .ref r2, rfl, rfl, s3 _ _ (s2 _ _ y1), small1000 (by omega), ?_⟩
      obtain ⟨W6, t6⟩ := W5.mark (m := .tup [.text "done"]) (s3 _ _ (s2 _ _ y1)) (y2.at ((Tups.same s2).trans (.same s3))) i3 (nk.at (ttt.trans t5)) (.tup (s3 _ _ i2) (.cons (.str _) .nil))
      rw [show (joinS (turnS s p) p.a b).mks = s.mks from tm] at W6
      exact q du7 _ (W6.up (by omega)) (ttt.trans (t5.trans t6))
    have z2 : p.z ≠ "join" := fun z => e3 (decide_eq_true (by rw [z]))
    refine ⟨_, rfl, rfl, _, rfl, ite2 (fun e3 => ?_) (fun e3 => ?_)⟩
    · have e3 : p.z = "mourn" := V.str.inj (of_decide_eq_true e3)
      unfold bodyS at q
      rw [if_neg z1, if_neg z2, if_pos e3] at q
      have hm2 := mo_view (nk.at tt) pk (ep ▸ e3)
      rw [← ep] at hm2
      obtain ⟨_, m0, m1⟩ := hmm e3
      obtain ⟨kvm, M, fr⟩ := W2.mo
      refine ⟨_, rfl, A.wa, _, _, _, _, rfl, W2.ob, T.cl_Walk, T.na_Walk_mourning, rfl, _, rfl, A.mu, pa, _, kvm, _, n + 1, p.a, p.d, p.m, rfl, M.mu, by omega, hm2, d0, d1, m0, m1, fun kvs' H3 M3 => ?_⟩
      obtain ⟨tm, td, ta, tl⟩ := turn_mks s p
      obtain ⟨W3, t3⟩ := W2.addMo M fr M3 (Nat.le_succ _)
      rw [tl] at W3
      obtain ⟨xs4, y1, y2⟩ := W3.mks
      have lx4 : xs4.length ≤ 400 := by rw [y2.length, show ({ turnS s p with L := s.L ++ [(p.a, p.d, p.m)] } : WS).mks = s.mks from tm]; exact lm
      refine ⟨_, rfl, A.wa, _, _, _, _, rfl, W3.ob, T.cl_Walk, T.na_Walk_marks, rfl, .inl ⟨rfl, _, .inl (.inl y1)⟩, ?_⟩
      refine ⟨_, rfl, sz (by show 1 ≤ 1000; decide), fun r1 n1 => ?_⟩
      have s2 := same_upd (o := .tup [.str "done"]) n1
      have i2 := upd_same (H := H3) (a := r1) (o := .tup [.str "done"])
      generalize upd H3 r1 (.tup [.str "done"]) = H4 at s2 i2 ⊢
      refine ⟨sz (by show 2 ≤ 1000; decide), fun r2 n2 => ?_⟩
      have s3 := same_upd (o := .tup [.ref pa, .ref r1]) n2
      have i3 := upd_same (H := H4) (a := r2) (o := .tup [.ref pa, .ref r1])
      generalize upd H4 r2 (.tup [.ref pa, .ref r1]) = H5 at s3 i3 ⊢
      have W5 := (W3.same s2).same s3
      have t5 := t3.trans ((Tups.same s2).trans (.same s3))
      refine ⟨A.mks, xs4, .ref r2, rfl, rfl, s3 _ _ (s2 _ _ y1), small1000 (by omega), ?_⟩
      obtain ⟨W6, t6⟩ := W5.mark (m := .tup [.text "done"]) (s3 _ _ (s2 _ _ y1)) (y2.at ((Tups.same s2).trans (.same s3))) i3 (nk.at (tt.trans t5)) (.tup (s3 _ _ i2) (.cons (.str _) .nil))
      rw [show ({ turnS s p with L := s.L ++ [(p.a, p.d, p.m)] } : WS).mks = s.mks from tm] at W6
      exact q A.du _ W6 (tt.trans (t5.trans t6))
    · have e3 : p.z ≠ "mourn" := fun z => e3 (decide_eq_true (by rw [z]))
      unfold bodyS at q
      rw [if_neg z1, if_neg z2, if_neg e3] at q
      obtain ⟨tm, td, ta, tl⟩ := turn_mks s p
      have W3 := W2
      have t3 : Tups H2 H2 := fun _ _ e => e
      obtain ⟨xs4, y1, y2⟩ := W3.mks
      have lx4 : xs4.length ≤ 400 := by rw [y2.length, show (turnS s p).mks = s.mks from tm]; exact lm
      refine ⟨_, rfl, A.wa, _, _, _, _, rfl, W3.ob, T.cl_Walk, T.na_Walk_marks, rfl, .inl ⟨rfl, _, .inl (.inl y1)⟩, ?_⟩
      refine ⟨_, rfl, sz (by show 1 ≤ 1000; decide), fun r1 n1 => ?_⟩
      have s2 := same_upd (o := .tup [.str "done"]) n1
      have i2 := upd_same (H := H2) (a := r1) (o := .tup [.str "done"])
      generalize upd H2 r1 (.tup [.str "done"]) = H4 at s2 i2 ⊢
      refine ⟨sz (by show 2 ≤ 1000; decide), fun r2 n2 => ?_⟩
      have s3 := same_upd (o := .tup [.ref pa, .ref r1]) n2
      have i3 := upd_same (H := H4) (a := r2) (o := .tup [.ref pa, .ref r1])
      generalize upd H4 r2 (.tup [.ref pa, .ref r1]) = H5 at s3 i3 ⊢
      have W5 := (W3.same s2).same s3
      have t5 := t3.trans ((Tups.same s2).trans (.same s3))
      refine ⟨A.mks, xs4, .ref r2, rfl, rfl, s3 _ _ (s2 _ _ y1), small1000 (by omega), ?_⟩
      obtain ⟨W6, t6⟩ := W5.mark (m := .tup [.text "done"]) (s3 _ _ (s2 _ _ y1)) (y2.at ((Tups.same s2).trans (.same s3))) i3 (nk.at (tt.trans t5)) (.tup (s3 _ _ i2) (.cons (.str _) .nil))
      rw [show (turnS s p).mks = s.mks from tm] at W6
      exact q A.du _ (W6.up (by omega)) (tt.trans (t5.trans t6))
end
end L20

set_option Elab.async false
set_option linter.all false
set_option maxRecDepth 100000
set_option maxHeartbeats 2000000
/-! min(d, default=x), d a dict whose keys are numbers. -/
namespace My
open PySem PySem.Spec PyProof.Rows L2 PySem.SeqAt PySem.W
section
variable {X : Cx}
def rMinKD : List V → List V → Hp → VK → Prop := fun vs zs H Q => ∃ (p : Addr) (ps : List (Key × V)) (ms : List Int) (dv : V) (lo : Int), vs = [.ref p] ∧ zs = [dv] ∧ H p = some (.dK ps) ∧ ps.map Prod.fst = ms.map Sum.inl ∧ ((ms = [] ∧ dv = .int lo) ∨ (lo ∈ ms ∧ ∀ j ∈ ms, lo ≤ j)) ∧ Q (.int lo) H
theorem cr_minKD (calm : X.calm = true) : CallRK X (.builtin "min") [Str.ofString "default"] rMinKD := by
  intro pn s0 st0 G xs ys us ws Q In0 ra rb hyp
  obtain ⟨p, ps, ms, dv, lo, rfl, rfl, hp, hkeys, hlo, q⟩ := hyp
  have qn : ms = [] → Q dv G := fun e => by
    rcases hlo with ⟨_, rfl⟩ | ⟨h, _⟩
    · exact q
    · rw [e] at h; cases h
  have qs : ∀ m ∈ ms, (∀ j ∈ ms, m ≤ j) → Q (.int m) G := fun m hm le => by
    rcases hlo with ⟨e, _⟩ | ⟨h, le2⟩
    · rw [e] at hm; cases hm
    · rw [Int.le_antisymm (le _ h) (le2 _ hm)]; exact q
  rw [Vals.ref1 ra]
  obtain ⟨dw, rfl, rd⟩ : ∃ dw, ws = [dw] ∧ RelV dv dw := by
    cases rb with
    | cons r t => cases t; exact ⟨_, rfl, r⟩
  obtain ⟨_, sys, kvs, rl, dd⟩ := dk_of In0.hok hp
  obtain ⟨ep, da⟩ := dd.dictAt
  obtain ⟨ob, es, e1, e2, e3, e4, e5, e6⟩ := id da
  have ltp : p < s0.heap.objs.size := Heap.lt_size e1
  have kk : kvs.map Prod.fst = ms.map Sum.inl := (KV.keys rl).symm.trans hkeys
  have ll : kvs.length = ms.length := by
    have := congrArg List.length kk
    rwa [List.length_map, List.length_map] at this
  have vv : ∀ (i : Nat) (v : Value), (∃ k x, kvs[i]? = some (k, x) ∧ (mixKind X.prog X.w).is k v = true) → ∃ t, v = Value.int (ms.getD i 0) t := by
    rintro i v ⟨k, x, hk, isv⟩
    have g : (kvs.map Prod.fst)[i]? = some k := by rw [List.getElem?_map, hk]; rfl
    rw [kk, List.getElem?_map] at g
    obtain ⟨j, hj, rfl⟩ := Option.map_eq_some_iff.mp g
    have isv : Value.isInt j v = true := isv
    obtain ⟨t, rfl⟩ := Value.isInt_shape isv
    exact ⟨t, by rw [List.getD_eq_getElem?_getD, hj]; rfl⟩
  show wpAny _ _ (call (.builtin "min") [.ref p] [(Str.ofString "default", dw)]) _ _ _
  refine call_min_walkD (wpAny_pyIter_dict (knd := mixKind X.prog X.w) sys da ?_)
  have WD := Walks.dictKeys (knd := mixKind X.prog X.w) (A := X.A.in1) (In0.ok.hd calm) s0.heap.objs.size p (Nat.ne_of_lt ltp) kvs ep
  refine ⟨_, _, _, _, _, _, _, s0.heap, (fun i j => decide (ms.getD i 0 < ms.getD j 0)), rfl, WD.toS, ⟨⟨_, Heap.get?_push_size _ rfl, rfl, rfl⟩, da.keep fun b u e => Heap.get?_push_of_some _ e⟩, fun b hb => ?_, fun b o e hb => ?_, fun b o e => Heap.get?_push_of_some _ e, fun z s1 mv => ?_, fun pos => ⟨?_, fun v s1 hv mv => ?_⟩⟩
  · show b < (s0.heap.push _).objs.size
    rw [Heap.size_push]
    rcases List.mem_cons.mp hb with h | h
    · exact h ▸ Nat.lt_succ_self _
    · exact (List.mem_singleton.mp h) ▸ Nat.lt_succ_of_lt ltp
  · exact Nat.lt_irrefl _ ((List.mem_singleton.mp hb) ▸ Heap.lt_size e)
  · obtain ⟨h1, tk, rfl, keep⟩ := moved_old rfl rfl mv
    exact ⟨_, G, In0.kept (t' := tk) keep, rd, qn (List.eq_nil_of_length_eq_zero (by omega))⟩
  · have C := CmpOf.ints_lt (prog := X.prog) (w := X.w) (A := X.A.in1) (fun i => ms.getD i 0) vv
    exact fun i j a b s1 R E _ ha hb hR => C i j a b s1 R E ha hb hR
  · obtain ⟨h1, tk, rfl, keep⟩ := moved_old rfl rfl mv
    obtain ⟨t, rfl⟩ := vv _ v hv
    obtain ⟨b1, b2⟩ := argBest_lt (fun i => ms.getD i 0) (kvs.length - 1)
    refine ⟨.int _, G, In0.kept (t' := tk) keep, ⟨t, rfl⟩, qs _ ?_ fun j hj => ?_⟩
    · have lt : argBest (fun i j => decide (ms.getD i 0 < ms.getD j 0)) (kvs.length - 1) < ms.length := by omega
      rw [List.getD_eq_getElem?_getD, List.getElem?_eq_getElem lt]
      exact List.getElem_mem lt
    · obtain ⟨i, hi, rfl⟩ := List.mem_iff_getElem.mp hj
      have := b2 i (by omega)
      rwa [List.getD_eq_getElem?_getD (l := ms) (i := i), List.getElem?_eq_getElem hi] at this
end
end My

set_option Elab.async false
set_option linter.all false
set_option maxRecDepth 100000
set_option maxHeartbeats 2000000
/-! for .. in e, e a list or a tuple, known only when it is reached. -/
namespace My
open PySem PySem.Spec PyProof.Rows L2
def iSeq2 (K : PySem.W.Frag) (te : TE) : TI := fun σ H R => te σ H fun v G => ∃ p, v = .ref p ∧ (((∃ ys, SqL K G p ys) ∧ R (Itl K p) G) ∨ ((∃ ys, SqT K G p ys) ∧ R (Itt K p) G))
theorem pi_seq2 {X : Cx} {tg e : Expr} {te : TE} (he : PE X e te) : PI X tg e (iSeq2 X.K te) := by
  constructor
  intro pn s st H R In hyp
  refine thn (he.run pn s st H _ In hyp) fun v s' ⟨x, G, In', rv, q⟩ => ?_
  obtain ⟨p, rfl, q⟩ := q
  obtain rfl : v = Value.ref p := rv
  rcases q with ⟨⟨ys, hy⟩, q⟩ | ⟨⟨ys, hy⟩, q⟩
  · obtain ⟨us, _, pl, _⟩ := In'.list hy
    exact wpAny_pyIter_list pl.isList (pi_one (tk := s'.toks) In' _ (turn_list p _) ⟨_, Heap.get?_push_size _ rfl, rfl, rfl⟩ q)
  · obtain ⟨us, _, pl, _⟩ := In'.tuple hy
    exact wpAny_pyIter_tuple (show s'.heap.IsTuple p us.toArray from pl) (pi_one (tk := s'.toks) In' _ (turn_tuple p _) ⟨_, Heap.get?_push_size _ rfl, rfl, rfl⟩ q)
end My

set_option Elab.async false
set_option linter.all false
set_option maxRecDepth 100000
set_option maxHeartbeats 4000000
namespace L20
open PySem PySem.Spec PyProof.Rows L2 My
section
variable {P : Program} {w : World} {K : PySem.W.Frag} {mg : Str → Option Value} {base : Heap}
def KeepW (wa : Addr) (H H' : Hp) : Prop := ∀ b o, b ≠ wa → H b = some o → H' b = some o
theorem KeepW.trans {wa : Addr} {H H1 H2 : Hp} (a : KeepW wa H H1) (b : KeepW wa H1 H2) : KeepW wa H H2 := fun c o n e => b c o n (a c o n e)
def ws0 : WS := ⟨fun _ => none, [], [], [], [], [], 0, 0, 0⟩
theorem ini_step {wa p C dx : Addr} {H : Hp} {o : HO} {fs fs' : List (Str × V)} (hw : H wa = some (.ins C dx fs)) (np : H p = none) : KeepW wa H (upd (upd H p o) wa (.ins C dx fs')) ∧ upd (upd H p o) wa (.ins C dx fs') p = some o ∧ upd (upd H p o) wa (.ins C dx fs') wa = some (.ins C dx fs') ∧ p ≠ wa := by
  have n : p ≠ wa := fun z => by rw [z, hw] at np; cases np
  exact ⟨fun b u nb e => by rw [upd_ne nb, upd_ne (ne_of_none e np)]; exact e, by rw [upd_ne n, upd_same], upd_same, n⟩
theorem ini_num {wa C dx : Addr} {H : Hp} {fs' : List (Str × V)} : KeepW wa H (upd H wa (.ins C dx fs')) ∧ upd H wa (.ins C dx fs') wa = some (.ins C dx fs') :=
  ⟨fun b u nb e => by rw [upd_ne nb]; exact e, upd_same⟩
def spIni (T : Tx K mg w) : Sp := fun vs H Q _ => ∃ (H0 : Hp) (wa dx lim : Addr) (t1 t2 : Int), vs = [.ref wa, .ref lim] ∧ H wa = some (.ins T.C_Walk dx []) ∧ H lim = some (.tup [.int t1, .int t2]) ∧ Gk (tbs T) H0 H ∧ Frs H0 wa ∧
  ∀ A H', A.wa = wa → WkAt T t1 t2 H0 H' A ws0 0 → Q .non H'
theorem ok_ini (T : Tx K mg w) : FnOk P w K mg base CX0 1 T.f_Walk___init__ T.d_Walk___init__ ["self", "limits"] (spIni T) := by
  refine T.F_Walk___init__.ok S_Walk___init__ (fun vs H Q E h => ?_) (fun cdv A0 outer sx H vs Q E hr h => ?_)
  · obtain ⟨H0, wa, dx, lim, t1, t2, rfl, _⟩ := h
    rfl
  · obtain ⟨H0, wa, dx, lim, t1, t2, rfl, hw, hl, gk, fw, q⟩ := h
    refine ⟨_, (pss_cons (ps_fld (pv 0) (pv 1) rfl)
      (pss_cons (ps_fld (pv 0) pe_dnewK rfl)
      (pss_cons (ps_fld (pv 0) pe_dnewK rfl)
      (pss_cons (ps_fld (pv 0) (pe_lst pa_nil) rfl)
      (pss_cons (ps_fld (pv 0) (pe_lst pa_nil) rfl)
      (pss_cons (ps_fld (pv 0) (pe_lst pa_nil) rfl)
      (pss_cons (ps_fld (pv 0) (pe_lst pa_nil) rfl)
      (pss_cons (ps_fld (pv 0) pe_int rfl)
      (pss_cons (ps_fld (pv 0) pe_int rfl)
      (pss_one (ps_fld (pv 0) pe_int rfl))))))))))), ?_⟩
    have nl : lim ≠ wa := fun z => by rw [z, hw] at hl; cases hl
    refine ⟨_, rfl, _, rfl, wa, _, _, _, rfl, hw, T.cl_Walk, T.na_Walk_limits, (by show 0 < 1000; decide), ?_⟩
    obtain ⟨k1, w1⟩ := ini_num (wa := wa) (C := T.C_Walk) (dx := dx) (H := H) (fs' := putF "limits" (V.ref lim) [])
    generalize upd H wa (.ins T.C_Walk dx (putF "limits" (V.ref lim) [])) = H1 at k1 w1 ⊢
    intro a1 n1
    refine ⟨_, rfl, wa, _, _, _, rfl, (upd_ne (ne_of_none w1 n1)).trans w1, T.cl_Walk, T.na_Walk_homes, (by show 1 < 1000; decide), ?_⟩
    obtain ⟨k2, i1, w2, e1⟩ := ini_step (o := .dK []) (fs' := putF "homes" (V.ref a1) (putF "limits" (V.ref lim) [])) w1 n1
    generalize upd (upd H1 a1 (.dK [])) wa (.ins T.C_Walk dx (putF "homes" (V.ref a1) (putF "limits" (V.ref lim) []))) = H2 at k2 i1 w2 ⊢
    intro a2 n2
    refine ⟨_, rfl, wa, _, _, _, rfl, (upd_ne (ne_of_none w2 n2)).trans w2, T.cl_Walk, T.na_Walk_mourning, (by show 2 < 1000; decide), ?_⟩
    obtain ⟨k3, i2, w3, e2⟩ := ini_step (o := .dK []) (fs' := putF "mourning" (V.ref a2) (putF "homes" (V.ref a1) (putF "limits" (V.ref lim) []))) w2 n2
    generalize upd (upd H2 a2 (.dK [])) wa (.ins T.C_Walk dx (putF "mourning" (V.ref a2) (putF "homes" (V.ref a1) (putF "limits" (V.ref lim) [])))) = H3 at k3 i2 w3 ⊢
    refine ⟨sz (by show 0 ≤ 1000; decide), fun a3 n3 => ?_⟩
    refine ⟨_, rfl, wa, _, _, _, rfl, (upd_ne (ne_of_none w3 n3)).trans w3, T.cl_Walk, T.na_Walk_known, (by show 3 < 1000; decide), ?_⟩
    obtain ⟨k4, i3, w4, e3⟩ := ini_step (o := .lst []) (fs' := putF "known" (V.ref a3) (putF "mourning" (V.ref a2) (putF "homes" (V.ref a1) (putF "limits" (V.ref lim) [])))) w3 n3
    generalize upd (upd H3 a3 (.lst [])) wa (.ins T.C_Walk dx (putF "known" (V.ref a3) (putF "mourning" (V.ref a2) (putF "homes" (V.ref a1) (putF "limits" (V.ref lim) []))))) = H4 at k4 i3 w4 ⊢
    refine ⟨sz (by show 0 ≤ 1000; decide), fun a4 n4 => ?_⟩
    refine ⟨_, rfl, wa, _, _, _, rfl, (upd_ne (ne_of_none w4 n4)).trans w4, T.cl_Walk, T.na_Walk_dues, (by show 4 < 1000; decide), ?_⟩
    obtain ⟨k5, i4, w5, e4⟩ := ini_step (o := .lst []) (fs' := putF "dues" (V.ref a4) (putF "known" (V.ref a3) (putF "mourning" (V.ref a2) (putF "homes" (V.ref a1) (putF "limits" (V.ref lim) []))))) w4 n4
    generalize upd (upd H4 a4 (.lst [])) wa (.ins T.C_Walk dx (putF "dues" (V.ref a4) (putF "known" (V.ref a3) (putF "mourning" (V.ref a2) (putF "homes" (V.ref a1) (putF "limits" (V.ref lim) [])))))) = H5 at k5 i4 w5 ⊢
    refine ⟨sz (by show 0 ≤ 1000; decide), fun a5 n5 => ?_⟩
    refine ⟨_, rfl, wa, _, _, _, rfl, (upd_ne (ne_of_none w5 n5)).trans w5, T.cl_Walk, T.na_Walk_marks, (by show 5 < 1000; decide), ?_⟩
    obtain ⟨k6, i5, w6, e5⟩ := ini_step (o := .lst []) (fs' := putF "marks" (V.ref a5) (putF "dues" (V.ref a4) (putF "known" (V.ref a3) (putF "mourning" (V.ref a2) (putF "homes" (V.ref a1) (putF "limits" (V.ref lim) [])))))) w5 n5
    generalize upd (upd H5 a5 (.lst [])) wa (.ins T.C_Walk dx (putF "marks" (V.ref a5) (putF "dues" (V.ref a4) (putF "known" (V.ref a3) (putF "mourning" (V.ref a2) (putF "homes" (V.ref a1) (putF "limits" (V.ref lim) []))))))) = H6 at k6 i5 w6 ⊢
    refine ⟨sz (by show 0 ≤ 1000; decide), fun a6 n6 => ?_⟩
    refine ⟨_, rfl, wa, _, _, _, rfl, (upd_ne (ne_of_none w6 n6)).trans w6, T.cl_Walk, T.na_Walk_answers, (by show 6 < 1000; decide), ?_⟩
    obtain ⟨k7, i6, w7, e6⟩ := ini_step (o := .lst []) (fs' := putF "answers" (V.ref a6) (putF "marks" (V.ref a5) (putF "dues" (V.ref a4) (putF "known" (V.ref a3) (putF "mourning" (V.ref a2) (putF "homes" (V.ref a1) (putF "limits" (V.ref lim) []))))))) w6 n6
    generalize upd (upd H6 a6 (.lst [])) wa (.ins T.C_Walk dx (putF "answers" (V.ref a6) (putF "marks" (V.ref a5) (putF "dues" (V.ref a4) (putF "known" (V.ref a3) (putF "mourning" (V.ref a2) (putF "homes" (V.ref a1) (putF "limits" (V.ref lim) [])))))))) = H7 at k7 i6 w7 ⊢
    refine ⟨_, rfl, wa, _, _, _, rfl, w7, T.cl_Walk, T.na_Walk_copied, (by show 7 < 1000; decide), ?_⟩
    obtain ⟨k8, w8⟩ := ini_num (wa := wa) (C := T.C_Walk) (dx := dx) (H := H7) (fs' := putF "copied" (V.int 0) (putF "answers" (V.ref a6) (putF "marks" (V.ref a5) (putF "dues" (V.ref a4) (putF "known" (V.ref a3) (putF "mourning" (V.ref a2) (putF "homes" (V.ref a1) (putF "limits" (V.ref lim) []))))))))
    generalize upd H7 wa (.ins T.C_Walk dx (putF "copied" (V.int 0) (putF "answers" (V.ref a6) (putF "marks" (V.ref a5) (putF "dues" (V.ref a4) (putF "known" (V.ref a3) (putF "mourning" (V.ref a2) (putF "homes" (V.ref a1) (putF "limits" (V.ref lim) []))))))))) = H8 at k8 w8 ⊢
    refine ⟨_, rfl, wa, _, _, _, rfl, w8, T.cl_Walk, T.na_Walk_struck, (by show 8 < 1000; decide), ?_⟩
    obtain ⟨k9, w9⟩ := ini_num (wa := wa) (C := T.C_Walk) (dx := dx) (H := H8) (fs' := putF "struck" (V.int 0) (putF "copied" (V.int 0) (putF "answers" (V.ref a6) (putF "marks" (V.ref a5) (putF "dues" (V.ref a4) (putF "known" (V.ref a3) (putF "mourning" (V.ref a2) (putF "homes" (V.ref a1) (putF "limits" (V.ref lim) [])))))))))
    generalize upd H8 wa (.ins T.C_Walk dx (putF "struck" (V.int 0) (putF "copied" (V.int 0) (putF "answers" (V.ref a6) (putF "marks" (V.ref a5) (putF "dues" (V.ref a4) (putF "known" (V.ref a3) (putF "mourning" (V.ref a2) (putF "homes" (V.ref a1) (putF "limits" (V.ref lim) [])))))))))) = H9 at k9 w9 ⊢
    refine ⟨_, rfl, wa, _, _, _, rfl, w9, T.cl_Walk, T.na_Walk_spare, (by show 9 < 1000; decide), ?_⟩
    obtain ⟨k10, w10⟩ := ini_num (wa := wa) (C := T.C_Walk) (dx := dx) (H := H9) (fs' := putF "spare" (V.int 0) (putF "struck" (V.int 0) (putF "copied" (V.int 0) (putF "answers" (V.ref a6) (putF "marks" (V.ref a5) (putF "dues" (V.ref a4) (putF "known" (V.ref a3) (putF "mourning" (V.ref a2) (putF "homes" (V.ref a1) (putF "limits" (V.ref lim) []))))))))))
    generalize upd H9 wa (.ins T.C_Walk dx (putF "spare" (V.int 0) (putF "struck" (V.int 0) (putF "copied" (V.int 0) (putF "answers" (V.ref a6) (putF "marks" (V.ref a5) (putF "dues" (V.ref a4) (putF "known" (V.ref a3) (putF "mourning" (V.ref a2) (putF "homes" (V.ref a1) (putF "limits" (V.ref lim) []))))))))))) = H10 at k10 w10 ⊢
    have kk10 : KeepW wa H10 H10 := fun _ _ _ e => e
    have kk9 : KeepW wa H9 H10 := k10.trans kk10
    have kk8 : KeepW wa H8 H10 := k9.trans kk9
    have kk7 : KeepW wa H7 H10 := k8.trans kk8
    have kk6 : KeepW wa H6 H10 := k7.trans kk7
    have kk5 : KeepW wa H5 H10 := k6.trans kk6
    have kk4 : KeepW wa H4 H10 := k5.trans kk5
    have kk3 : KeepW wa H3 H10 := k4.trans kk4
    have kk2 : KeepW wa H2 H10 := k3.trans kk3
    have kk1 : KeepW wa H1 H10 := k2.trans kk2
    have kk0 : KeepW wa H H10 := k1.trans kk1
    have f1 := kk2 _ _ e1 i1
    have f2 := kk3 _ _ e2 i2
    have f3 := kk4 _ _ e3 i3
    have f4 := kk5 _ _ e4 i4
    have f5 := kk6 _ _ e5 i5
    have f6 := kk7 _ _ e6 i6
    have d12 : a1 ≠ a2 := ne_of_none i1 n2
    have d13 : a1 ≠ a3 := ne_of_none (k3 _ _ e1 i1) n3
    have d14 : a1 ≠ a4 := ne_of_none (k4 _ _ e1 (k3 _ _ e1 i1)) n4
    have d15 : a1 ≠ a5 := ne_of_none (k5 _ _ e1 (k4 _ _ e1 (k3 _ _ e1 i1))) n5
    have d16 : a1 ≠ a6 := ne_of_none (k6 _ _ e1 (k5 _ _ e1 (k4 _ _ e1 (k3 _ _ e1 i1)))) n6
    have d23 : a2 ≠ a3 := ne_of_none i2 n3
    have d24 : a2 ≠ a4 := ne_of_none (k4 _ _ e2 i2) n4
    have d25 : a2 ≠ a5 := ne_of_none (k5 _ _ e2 (k4 _ _ e2 i2)) n5
    have d26 : a2 ≠ a6 := ne_of_none (k6 _ _ e2 (k5 _ _ e2 (k4 _ _ e2 i2))) n6
    have d34 : a3 ≠ a4 := ne_of_none i3 n4
    have d35 : a3 ≠ a5 := ne_of_none (k5 _ _ e3 i3) n5
    have d36 : a3 ≠ a6 := ne_of_none (k6 _ _ e3 (k5 _ _ e3 i3)) n6
    have d45 : a4 ≠ a5 := ne_of_none i4 n5
    have d46 : a4 ≠ a6 := ne_of_none (k6 _ _ e4 i4) n6
    have d56 : a5 ≠ a6 := ne_of_none i5 n6
    have kb1 : ∀ {b : Addr} {o : HO}, H b = some o → b ≠ wa → H1 b = some o := fun e n => k1 _ _ n e
    have kb2 : ∀ {b : Addr} {o : HO}, H b = some o → b ≠ wa → H2 b = some o := fun e n => k2 _ _ n (kb1 e n)
    have kb3 : ∀ {b : Addr} {o : HO}, H b = some o → b ≠ wa → H3 b = some o := fun e n => k3 _ _ n (kb2 e n)
    have kb4 : ∀ {b : Addr} {o : HO}, H b = some o → b ≠ wa → H4 b = some o := fun e n => k4 _ _ n (kb3 e n)
    have kb5 : ∀ {b : Addr} {o : HO}, H b = some o → b ≠ wa → H5 b = some o := fun e n => k5 _ _ n (kb4 e n)
    have kb6 : ∀ {b : Addr} {o : HO}, H b = some o → b ≠ wa → H6 b = some o := fun e n => k6 _ _ n (kb5 e n)
    have g1 : Frs H0 a1 := fun o h => by
      cases o with
      | tbl ps => exact ⟨ps, rfl⟩
      | _ => exact absurd (kb1 (gk.1 _ _ h (fun ps z => by cases z)) e1) (by rw [n1]; exact fun z => by cases z)
    have g2 : Frs H0 a2 := fun o h => by
      cases o with
      | tbl ps => exact ⟨ps, rfl⟩
      | _ => exact absurd (kb2 (gk.1 _ _ h (fun ps z => by cases z)) e2) (by rw [n2]; exact fun z => by cases z)
    have g3 : Frs H0 a3 := fun o h => by
      cases o with
      | tbl ps => exact ⟨ps, rfl⟩
      | _ => exact absurd (kb3 (gk.1 _ _ h (fun ps z => by cases z)) e3) (by rw [n3]; exact fun z => by cases z)
    have g4 : Frs H0 a4 := fun o h => by
      cases o with
      | tbl ps => exact ⟨ps, rfl⟩
      | _ => exact absurd (kb4 (gk.1 _ _ h (fun ps z => by cases z)) e4) (by rw [n4]; exact fun z => by cases z)
    have g5 : Frs H0 a5 := fun o h => by
      cases o with
      | tbl ps => exact ⟨ps, rfl⟩
      | _ => exact absurd (kb5 (gk.1 _ _ h (fun ps z => by cases z)) e5) (by rw [n5]; exact fun z => by cases z)
    have g6 : Frs H0 a6 := fun o h => by
      cases o with
      | tbl ps => exact ⟨ps, rfl⟩
      | _ => exact absurd (kb6 (gk.1 _ _ h (fun ps z => by cases z)) e6) (by rw [n6]; exact fun z => by cases z)
    refine q ⟨wa, a1, a2, a3, a4, a5, a6, dx, lim⟩ H10 rfl ?_
    have gk2 : Gk (tbs T) H0 H10 := ⟨fun b o e t => kk0 _ _ (fun z => by obtain ⟨ps, h⟩ := fw o (z ▸ e); exact t ps h) (gk.1 b o e t), fun b hb => by
      obtain ⟨ps, e, hp⟩ := gk.2 b hb
      exact ⟨ps, kk0 _ _ (fun z => by rw [z, hw] at e; cases e) e, hp⟩⟩
    exact { gk := gk2, ob := w10, lim := kk0 _ _ nl hl, hm := ⟨[], f1, Nat.zero_le _, fun a => .inl ⟨rfl, rfl⟩⟩
            mo := ⟨[], ⟨f2, Nat.zero_le _, fun nm _ d => rfl, (fun nm v h => by cases h), (fun x y da h => by cases h)⟩, fun b ow => by
              rcases ow with rfl | ⟨nm, h⟩
              · exact ⟨g2, d12.symm⟩
              · cases h⟩
            kn := f3, knl := Nat.zero_le _, du := ⟨[], f4, .nil⟩, mks := ⟨[], f5, .nil⟩, an := ⟨[], f6, .nil⟩
            fw := fw, fh := g1, fk := g3, fd := g4, fm := g5, fa := g6, kd := d34, km := d35, ka := d36, dm := d45, da := d46, ma := d56 }
end
end L20

set_option Elab.async false
set_option linter.all false
set_option maxRecDepth 100000
set_option maxHeartbeats 4000000
namespace L20
open PySem PySem.Spec PyProof.Rows L2 My
section
variable {P : Program} {w : World} {K : PySem.W.Frag} {mg : Str → Option Value} {base : Heap}
def onDay (ks : List NestedKey) (d : Int) : List NestedKey := ks.filter fun k => decide (dayK k = d)
def endS (t1 t2 : Int) (s : WS) (d : Int) : WS := { s with ds := s.ds.map fun u => if fallsB t1 t2 s u d then { u with fl := u.fl ++ [d] } else u }
/-- what stands behind j days from lo on -/
def runS (t1 t2 : Int) (ks : List NestedKey) (lo : Int) : Nat → WS
  | 0 => ws0
  | j + 1 => endS t1 t2 ((onDay ks (lo + j)).foldl doS (runS t1 t2 ks lo j)) (lo + j)
/-- what bounds a walk: the pages' number, the parted houses' new names -/
def Cap (ks : List NestedKey) (NM : List Str) : Prop := (∀ k ∈ ks, (pgK k).z = "part" → (pgK k).b.getD (pgK k).a ∈ NM) ∧ ks.length * 2 ^ NM.length ≤ 1000
/-- a mark that a walk tells, at most B answered -/
def MkOk (B : Nat) (m : NestedKey) : Prop := m = .tup [.text "idle"] ∨ m = .tup [.text "due"] ∨ m = .tup [.text "done"] ∨ ∃ n : Nat, m = .tup [.text "answer", .num (n : Int)] ∧ 0 < n ∧ n ≤ B
theorem MkOk.up {B C : Nat} {m : NestedKey} (h : MkOk B m) (l : B ≤ C) : MkOk C m := h.imp id fun h => h.imp id fun h => h.imp id fun ⟨n, e, a, b⟩ => ⟨n, e, a, Nat.le_trans b l⟩
structure InvW (t1 t2 : Int) (NM : List Str) (s : WS) (n : Nat) : Prop where
  ds : ∃ L : List Str, L.Nodup ∧ (∀ b ∈ L, b ∈ s.kn) ∧ (∀ b ∈ L, b ∈ NM) ∧ s.ds.length ≤ n * 2 ^ L.length
  an : s.an.length ≤ n
  mks : s.mks.length ≤ n
  du : ∀ u ∈ s.ds, PgK u.pg ∧ (u.fl.length : Int) ≤ termB t1 t2 u
  ap : ∀ p ∈ s.an, PgK p.1 ∧ p.2 ≠ [] ∧ p.2.length ≤ n * 2 ^ NM.length ∧ ∀ u ∈ p.2, PgK u.pg
  mko : ∀ p ∈ s.mks, ∃ k m, p = markS k m ∧ MkOk (n * 2 ^ NM.length) m
/-- behind all -/
structure FinW (t1 t2 : Int) (s : WS) : Prop where
  ds : s.ds.length ≤ 1000
  an : s.an.length ≤ 100
  mks : s.mks.length ≤ 100
  du : ∀ u ∈ s.ds, PgK u.pg ∧ (u.fl.length : Int) ≤ termB t1 t2 u
  ap : ∀ p ∈ s.an, PgK p.1 ∧ p.2 ≠ [] ∧ p.2.length ≤ 1000 ∧ ∀ u ∈ p.2, PgK u.pg
  mko : ∀ p ∈ s.mks, ∃ k m, p = markS k m ∧ MkOk 1000 m
theorem nd_len {L NM : List Str} (nd : L.Nodup) (sub : ∀ b ∈ L, b ∈ NM) : L.length ≤ NM.length := by
  induction L generalizing NM with
  | nil => exact Nat.zero_le _
  | cons a L ih =>
    obtain ⟨n1, n2⟩ := List.nodup_cons.mp nd
    have ha := sub a (.head _)
    have := ih (NM := NM.erase a) n2 fun b hb => (List.mem_erase_of_ne (fun z => n1 (by rw [← z]; exact hb))).mpr (sub b (.tail _ hb))
    rw [List.length_erase_of_mem ha] at this
    have : 0 < NM.length := List.length_pos_of_mem ha
    show L.length + 1 ≤ _
    omega
theorem InvW.len {t1 t2 : Int} {NM : List Str} {s : WS} {n : Nat} (i : InvW t1 t2 NM s n) : s.ds.length ≤ n * 2 ^ NM.length := by
  obtain ⟨L, nd, _, h2, h3⟩ := i.ds
  exact Nat.le_trans h3 (Nat.mul_le_mul_left _ (Nat.pow_le_pow_right (by decide) (nd_len nd h2)))
theorem InvW.up {t1 t2 : Int} {NM : List Str} {s : WS} {n m : Nat} (i : InvW t1 t2 NM s n) (l : n ≤ m) : InvW t1 t2 NM s m :=
  ⟨let ⟨L, a, b, c, d⟩ := i.ds; ⟨L, a, b, c, Nat.le_trans d (Nat.mul_le_mul_right _ l)⟩, Nat.le_trans i.an l, Nat.le_trans i.mks l, i.du, fun p hp => let ⟨a, z, b, c⟩ := i.ap p hp; ⟨a, z, Nat.le_trans b (Nat.mul_le_mul_right _ l), c⟩, fun p hp => let ⟨k, m, e, o⟩ := i.mko p hp; ⟨k, m, e, o.up (Nat.mul_le_mul_right _ l)⟩⟩
theorem InvW.fin {t1 t2 : Int} {NM : List Str} {s : WS} {n : Nat} (i : InvW t1 t2 NM s n) (l : n ≤ 100) (h : n * 2 ^ NM.length ≤ 1000) : FinW t1 t2 s :=
  ⟨Nat.le_trans i.len h, Nat.le_trans i.an l, Nat.le_trans i.mks l, i.du, fun p hp => let ⟨a, z, b, c⟩ := i.ap p hp; ⟨a, z, Nat.le_trans b h, c⟩, fun p hp => let ⟨k, m, e, o⟩ := i.mko p hp; ⟨k, m, e, o.up h⟩⟩
theorem invW0 (t1 t2 : Int) (NM : List Str) : InvW t1 t2 NM ws0 0 := ⟨⟨[], .nil, (fun b h => by cases h), (fun b h => by cases h), Nat.le_refl _⟩, Nat.le_refl _, Nat.le_refl _, (fun u h => by cases h), (fun u h => by cases h), fun u h => by cases h⟩
theorem go_ds (s : WS) (k : NestedKey) : (goS s k).1.ds.length ≤ s.ds.length + 1 ∧ (∀ u ∈ (goS s k).1.ds, u ∈ s.ds ∨ (u.pg = k ∧ u.fl = [])) ∧ (goS s k).1.kn = s.kn ∧ ((goS s k).1.an = s.an ∨ ((goS s k).1.an = s.an ++ [(k, s.ds.filter (ansB (metB s (pgK k)) (pgK k)))] ∧ s.ds.filter (ansB (metB s (pgK k)) (pgK k)) ≠ [])) ∧ MkOk s.ds.length (goS s k).2 := by
  unfold goS
  split
  · refine ⟨by rw [List.length_append]; exact Nat.le_refl _, fun u h => ?_, rfl, .inl rfl, .inr (.inl rfl)⟩
    rcases List.mem_append.mp h with h | h
    · exact .inl h
    · rw [List.mem_singleton.mp h]; exact .inr ⟨rfl, rfl⟩
  · rename_i hne
    exact ⟨Nat.le_succ_of_le (List.length_filter_le _ _), fun u h => .inl (List.mem_filter.mp h).1, rfl, .inr ⟨rfl, hne⟩, .inr (.inr (.inr ⟨_, rfl, List.length_pos_iff.mpr hne, List.length_filter_le _ _⟩))⟩
theorem turn_kn (s : WS) (p : Pg) : ∀ b ∈ s.kn, b ∈ (turnS s p).kn := fun b h => by
  unfold turnS
  split
  · exact List.mem_append_left _ h
  split
  · exact List.mem_append_left _ h
  split
  · exact h
  split <;> exact h
theorem copy_mem {a b : Str} {ds : List Due} {u : Due} (h : u ∈ copyD a b ds) : ∃ v ∈ ds, v.ow = a ∧ u = { v with ow := b } := by
  obtain ⟨v, hv, rfl⟩ := List.mem_map.mp h
  obtain ⟨h1, h2⟩ := List.mem_filter.mp hv
  exact ⟨v, h1, of_decide_eq_true h2, rfl⟩
theorem join_mem {s : WS} {a b : Str} {u : Due} (h : u ∈ (joinS s a b).ds) : ∃ v ∈ s.ds, notAB a b v = true ∧ u = putD a b v := by
  have h := oneD_mem (show u ∈ oneD (othersD a b s.ds) from h)
  obtain ⟨v, hv, rfl⟩ := List.mem_map.mp h
  obtain ⟨h1, h2⟩ := List.mem_filter.mp hv
  exact ⟨v, h1, h2, rfl⟩
theorem InvW.do {t1 t2 : Int} {NM : List Str} {s : WS} {n : Nat} (i : InvW t1 t2 NM s n) (h1 : 0 ≤ t1) (h2 : 0 ≤ t2) {k : NestedKey} (pk : PgK k) (hn : (pgK k).z = "part" → (pgK k).b.getD (pgK k).a ∈ NM) : InvW t1 t2 NM (doS s k) (n + 1) := by
  have one : ∀ (m : NestedKey), (s.mks ++ [m]).length ≤ n + 1 := fun m => by rw [List.length_append]; exact Nat.succ_le_succ i.mks
  obtain ⟨tm, td, ta, tl⟩ := turn_mks s (pgK k)
  have tk := turn_kn s (pgK k)
  obtain ⟨L, nd, lk, ln, ld⟩ := i.ds
  have m2 : ∀ e : Nat, n * 2 ^ e + 1 ≤ (n + 1) * 2 ^ e := fun e => by
    rw [Nat.add_mul, Nat.one_mul]
    exact Nat.add_le_add_left (Nat.one_le_two_pow) _
  have up := i.up (Nat.le_succ n)
  have ap : ∀ p ∈ s.an, PgK p.1 ∧ p.2 ≠ [] ∧ p.2.length ≤ (n + 1) * 2 ^ NM.length ∧ ∀ u ∈ p.2, PgK u.pg := up.ap
  have mk : ∀ (m : NestedKey), MkOk ((n + 1) * 2 ^ NM.length) m → ∀ p ∈ s.mks ++ [markS k m], ∃ k m, p = markS k m ∧ MkOk ((n + 1) * 2 ^ NM.length) m := fun m hm p hp => by
    rcases List.mem_append.mp hp with h | h
    · exact up.mko p h
    · exact ⟨k, m, List.mem_singleton.mp h, hm⟩
  have stay : ∀ (s' : WS) (m : NestedKey), MkOk ((n + 1) * 2 ^ NM.length) m → (∀ b ∈ s.kn, b ∈ s'.kn) → s'.ds.length ≤ s.ds.length → (∀ u ∈ s'.ds, PgK u.pg ∧ (u.fl.length : Int) ≤ termB t1 t2 u) → s'.an = s.an → InvW t1 t2 NM { s' with mks := s.mks ++ [markS k m] } (n + 1) := fun s' m hm k1 k2 k3 k4 =>
    ⟨⟨L, nd, fun b hb => k1 b (lk b hb), ln, Nat.le_trans k2 (Nat.le_trans ld (Nat.mul_le_mul_right _ (Nat.le_succ n)))⟩, by show s'.an.length ≤ _; rw [k4]; exact Nat.le_succ_of_le i.an, one _, k3, (by show ∀ p ∈ s'.an, _; rw [k4]; exact ap), mk m hm⟩
  unfold doS
  split
  · exact stay s _ (.inl rfl) (fun b h => h) (Nat.le_refl _) i.du rfl
  split
  · rename_i hz
    rw [turn_going hz]
    obtain ⟨g2, g3, g4, g5, g6⟩ := go_ds s k
    refine ⟨⟨L, nd, fun b hb => by show b ∈ (goS s k).1.kn; rw [g4]; exact lk b hb, ln, Nat.le_trans (Nat.le_trans g2 (Nat.succ_le_succ ld)) (m2 _)⟩, ?_, one _, fun u h => ?_, ?_, mk _ (g6.up up.len)⟩
    · show (goS s k).1.an.length ≤ _
      rcases g5 with e | ⟨e, _⟩ <;> rw [e]
      · exact Nat.le_succ_of_le i.an
      · rw [List.length_append]; exact Nat.succ_le_succ i.an
    · rcases g3 u h with h | ⟨e1, e2⟩
      · exact i.du u h
      · refine ⟨e1 ▸ pk, ?_⟩
        rw [e2]
        unfold termB
        show (0 : Int) ≤ _
        split <;> assumption
    · show ∀ p ∈ (goS s k).1.an, _
      rcases g5 with e | ⟨e, hne⟩ <;> rw [e]
      · exact ap
      · intro p hp
        rcases List.mem_append.mp hp with hp | hp
        · exact ap p hp
        · rw [List.mem_singleton.mp hp]
          exact ⟨pk, hne, Nat.le_trans (List.length_filter_le _ _) up.len, fun u hu => (i.du u (List.mem_filter.mp hu).1).1⟩
  rename_i hg hz
  unfold bodyS
  split
  · rename_i ep
    have gd : goodS s (pgK k) = true := by simpa using hg
    have nb : (pgK k).b.getD (pgK k).a ∉ s.kn := by
      unfold goodS at gd
      rw [if_neg (by rw [ep]; decide +kernel), if_pos ep] at gd
      cases eb : (pgK k).b with
      | none => rw [eb] at gd; cases gd
      | some b =>
        rw [eb] at gd
        have := (Bool.and_eq_true _ _ ▸ gd).1
        simpa using this
    have ekn : (turnS s (pgK k)).kn = s.kn ++ [(pgK k).b.getD (pgK k).a] := by
      unfold turnS
      rw [if_neg (by rw [ep]; decide +kernel), if_pos ep]
    refine ⟨⟨L ++ [(pgK k).b.getD (pgK k).a], List.nodup_append.mpr ⟨nd, List.nodup_cons.mpr ⟨by simp, .nil⟩, fun a ha b hb e => nb (by rw [← List.mem_singleton.mp hb, ← e]; exact lk a ha)⟩, fun b hb => ?_, fun b hb => ?_, ?_⟩, by show (turnS s (pgK k)).an.length ≤ _; rw [ta]; exact Nat.le_succ_of_le i.an, one _, ?_, (by show ∀ p ∈ (turnS s (pgK k)).an, _; rw [ta]; exact ap), mk _ (.inr (.inr (.inl rfl)))⟩
    · show b ∈ (turnS s (pgK k)).kn
      rw [ekn]
      rcases List.mem_append.mp hb with hb | hb
      · exact List.mem_append_left _ (lk b hb)
      · exact List.mem_append_right _ hb
    · rcases List.mem_append.mp hb with hb | hb
      · exact ln b hb
      · rw [List.mem_singleton.mp hb]; exact hn ep
    · show ((turnS s (pgK k)).ds ++ copyD _ _ (turnS s (pgK k)).ds).length ≤ _
      rw [td, List.length_append, List.length_append]
      have : (copyD (pgK k).a ((pgK k).b.getD (pgK k).a) s.ds).length ≤ s.ds.length := by unfold copyD; rw [List.length_map]; exact List.length_filter_le _ _
      have m3 : n * 2 ^ L.length ≤ (n + 1) * 2 ^ L.length := Nat.mul_le_mul_right _ (Nat.le_succ n)
      show _ ≤ (n + 1) * 2 ^ (L.length + 1)
      rw [Nat.pow_succ, ← Nat.mul_assoc]
      omega
    · show ∀ u ∈ (turnS s (pgK k)).ds ++ copyD _ _ (turnS s (pgK k)).ds, _
      rw [td]
      intro u hu
      rcases List.mem_append.mp hu with hu | hu
      · exact i.du u hu
      · obtain ⟨v, hv, _, rfl⟩ := copy_mem hu
        exact i.du v hv
  split
  · refine stay (joinS (turnS s (pgK k)) _ _) _ (.inr (.inr (.inl rfl))) tk ?_ (fun u hu => ?_) ta
    · show (oneD (othersD _ _ (turnS s (pgK k)).ds)).length ≤ _
      rw [td]
      refine Nat.le_trans (oneD_len _) ?_
      unfold othersD
      rw [List.length_map]
      exact List.length_filter_le _ _
    · obtain ⟨v, hv, _, rfl⟩ := join_mem hu
      rw [td] at hv
      exact i.du v hv
  split
  · exact stay { turnS s (pgK k) with L := s.L ++ [((pgK k).a, (pgK k).d, (pgK k).m)] } _ (.inr (.inr (.inl rfl))) tk (Nat.le_of_eq (congrArg List.length td)) (by show ∀ u ∈ (turnS s (pgK k)).ds, _; rw [td]; exact i.du) ta
  · exact stay (turnS s (pgK k)) _ (.inr (.inr (.inl rfl))) tk (Nat.le_of_eq (congrArg List.length td)) (by rw [td]; exact i.du) ta
theorem InvW.end {t1 t2 : Int} {NM : List Str} {s : WS} {n : Nat} (i : InvW t1 t2 NM s n) (d : Int) : InvW t1 t2 NM (endS t1 t2 s d) n := by
  refine ⟨let ⟨L, a, b, c, e⟩ := i.ds; ⟨L, a, b, c, by unfold endS; rw [List.length_map]; exact e⟩, i.an, i.mks, fun u h => ?_, i.ap, i.mko⟩
  obtain ⟨v, hv, rfl⟩ := List.mem_map.mp h
  obtain ⟨p1, p2⟩ := i.du v hv
  by_cases c : fallsB t1 t2 s v d = true
  · rw [if_pos c]
    refine ⟨p1, ?_⟩
    show (((v.fl ++ [d]).length : Nat) : Int) ≤ termB t1 t2 v
    have : leftD t1 t2 v ≠ 0 := fun z => by
      unfold fallsB at c
      rw [decide_eq_true z] at c
      exact absurd c (by simp)
    unfold leftD at this
    rw [List.length_append]
    show ((v.fl.length + 1 : Nat) : Int) ≤ _
    omega
  · rw [if_neg c]
    exact ⟨p1, p2⟩
theorem cnt_step {f g : NestedKey → Bool} (h : ∀ k, ¬ (f k = true ∧ g k = true)) : ∀ ks : List NestedKey, (ks.filter f).length + (ks.filter g).length = (ks.filter fun k => f k || g k).length
  | [] => rfl
  | k :: ks => by
    have ih := cnt_step h ks
    have hk := h k
    rw [List.filter_cons, List.filter_cons, List.filter_cons]
    cases e1 : f k <;> cases e2 : g k <;> simp [e1, e2] at hk ⊢ <;> omega
/-- how many pages are ahead of a day -/
def cntD (ks : List NestedKey) (d : Int) : Nat := (ks.filter fun k => decide (dayK k < d)).length
theorem cnt_day (ks : List NestedKey) (d : Int) : cntD ks d + (onDay ks d).length = cntD ks (d + 1) := by
  unfold cntD onDay
  rw [cnt_step (fun k h => by have h1 := of_decide_eq_true h.1; have h2 := of_decide_eq_true h.2; omega)]
  congr 1
  refine List.filter_congr fun k _ => ?_
  rw [Bool.eq_iff_iff]
  simp only [Bool.or_eq_true, decide_eq_true_eq]
  omega
theorem cnt_le (ks : List NestedKey) (d : Int) : cntD ks d ≤ ks.length := List.length_filter_le _ _
/-- the dict of pages by days -/
structure ByD (H0 H : Hp) (D : Addr) (kvs : List (Key × V)) (ms : List Int) (ks : List NestedKey) : Prop where
  hd : H D = some (.dK kvs)
  keys : kvs.map Prod.fst = ms.map Sum.inl
  mem : ∀ m, m ∈ ms ↔ ∃ k ∈ ks, dayK k = m
  len : kvs.length ≤ ks.length
  fd : Frs H0 D
  day : ∀ d, (valV kvs (.inl d) = none ∧ onDay ks d = []) ∨ ∃ l xs, valV kvs (.inl d) = some (.ref l) ∧ H l = some (.lst xs) ∧ NkAll H xs (onDay ks d) ∧ Frs H0 l
  inj : ∀ d1 d2 l, valV kvs (.inl d1) = some (.ref l) → valV kvs (.inl d2) = some (.ref l) → d1 = d2
theorem ByD.at {H0 H H' : Hp} {D : Addr} {kvs : List (Key × V)} {ms : List Int} {ks : List NestedKey} {Ts : List Addr} (h : ByD H0 H D kvs ms ks) (g : Gk Ts H H') : ByD H0 H' D kvs ms ks :=
  ⟨g.1 _ _ h.hd (fun ps z => by cases z), h.keys, h.mem, h.len, h.fd, fun d => (h.day d).imp id fun ⟨l, xs, a, b, c, f⟩ => ⟨l, xs, a, g.1 _ _ b (fun ps z => by cases z), c.at (.gk g), f⟩, h.inj⟩
theorem on_snoc (ks : List NestedKey) (k : NestedKey) (d : Int) : onDay (ks ++ [k]) d = onDay ks d ++ if dayK k = d then [k] else [] := by
  unfold onDay
  rw [List.filter_append]
  by_cases c : dayK k = d
  · rw [if_pos c, List.filter_cons, if_pos (decide_eq_true c)]; rfl
  · rw [if_neg c, List.filter_cons, if_neg (by simp [c])]; rfl
theorem frs_gk {Ts : List Addr} {H0 H : Hp} {b : Addr} (g : Gk Ts H0 H) (f : Frs H b) : Frs H0 b := fun o h => by
  cases o with
  | tbl ps => exact ⟨ps, rfl⟩
  | _ => exact f _ (g.1 _ _ h (fun ps z => by cases z))
/-- a page put to the list of its day -/
theorem ByD.add {Ts : List Addr} {H0 H : Hp} {D l : Addr} {kvs : List (Key × V)} {ms : List Int} {ks : List NestedKey} {xs : List V} {k : NestedKey} {x : V} (h : ByD H0 H D kvs ms ks) (hv : valV kvs (.inl (dayK k)) = some (.ref l)) (hl : H l = some (.lst xs)) (nk : NkAll H xs (onDay ks (dayK k))) (nx : Nk H x k) :
    ByD H0 (upd H l (.lst (xs ++ [x]))) D kvs ms (ks ++ [k]) := by
  have hd := h.hd
  have nD : D ≠ l := fun z => by rw [z, hl] at hd; cases hd
  have tp : Tups H (upd H l (.lst (xs ++ [x]))) := fun c ys e => by rw [upd_ne (fun z => by rw [z, hl] at e; cases e)]; exact e
  have md : dayK k ∈ ms := by
    have e1 : (Sum.inl (dayK k) : Key) ∈ kvs.map Prod.fst := by
      by_cases c : (Sum.inl (dayK k) : Key) ∈ kvs.map Prod.fst
      · exact c
      · have : valV kvs (.inl (dayK k)) = none := by
          unfold valV
          rw [List.find?_eq_none.mpr fun p hp z => c (List.mem_map.mpr ⟨p, hp, of_decide_eq_true z⟩)]
          rfl
        rw [this] at hv
        cases hv
    rw [h.keys] at e1
    obtain ⟨m, hm, e⟩ := List.mem_map.mp e1
    rw [← Sum.inl.inj e]
    exact hm
  refine ⟨by rw [upd_ne nD]; exact hd, h.keys, fun m => ?_, by rw [List.length_append]; exact Nat.le_succ_of_le h.len, h.fd, fun d => ?_, h.inj⟩
  · rw [h.mem]
    constructor
    · rintro ⟨k', h1, h2⟩
      exact ⟨k', List.mem_append.mpr (.inl h1), h2⟩
    · rintro ⟨k', h1, h2⟩
      rcases List.mem_append.mp h1 with h1 | h1
      · exact ⟨k', h1, h2⟩
      · rw [List.mem_singleton.mp h1] at h2
        rw [h2] at md
        exact (h.mem m).mp md
  · rw [on_snoc]
    by_cases c : dayK k = d
    · subst c
      rw [if_pos rfl]
      rcases h.day (dayK k) with ⟨e, _⟩ | ⟨l', ys, e, e2, e3, e4⟩
      · rw [e] at hv; cases hv
      · rw [e] at hv
        cases hv
        rw [hl] at e2
        cases e2
        exact .inr ⟨_, _, e, upd_same, (nk.at tp).app (.cons (nx.at tp) .nil), e4⟩
    · rw [if_neg c, List.append_nil]
      refine (h.day d).imp id fun ⟨l', ys, e, e2, e3, e4⟩ => ⟨l', ys, e, ?_, e3.at tp, e4⟩
      rw [upd_ne (fun z => c (by rw [z] at e; exact h.inj _ _ _ hv e))]
      exact e2
/-- a new day's list -/
theorem ByD.new {Ts : List Addr} {H0 H : Hp} {D L : Addr} {kvs : List (Key × V)} {ms : List Int} {ks : List NestedKey} {x : V} {k : NestedKey} (h : ByD H0 H D kvs ms ks) (hv : valV kvs (.inl (dayK k)) = none) (nL : ∀ o, H L ≠ some (.dK o)) (fL : Frs H0 L) (hL : ∀ d, valV kvs (.inl d) ≠ some (.ref L)) (eL : H L = some (.lst [])) (nx : Nk H x k) :
    ByD H0 (upd (upd H D (.dK (putK kvs (.inl (dayK k)) (.ref L)))) L (.lst ([] ++ [x]))) D (putK kvs (.inl (dayK k)) (.ref L)) (ms ++ [dayK k]) (ks ++ [k]) := by
  have hd := h.hd
  have nD : D ≠ L := fun z => by rw [← z, hd] at eL; cases eL
  have tp : Tups H (upd (upd H D (.dK (putK kvs (.inl (dayK k)) (.ref L)))) L (.lst ([] ++ [x]))) := fun c ys e => by
    rw [upd_ne (fun z => by rw [z, eL] at e; cases e), upd_ne (fun z => by rw [z, hd] at e; cases e)]; exact e
  have nin : (Sum.inl (dayK k) : Key) ∉ kvs.map Prod.fst := fun z => by
    obtain ⟨p, hp, e⟩ := List.mem_map.mp z
    unfold valV at hv
    have := List.find?_eq_none.mp (Option.map_eq_none_iff.mp hv) p hp
    exact this (decide_eq_true e)
  refine ⟨by rw [upd_ne nD, upd_same], ?_, fun m => ?_, Nat.le_trans put_len (by rw [List.length_append]; exact Nat.succ_le_succ h.len), h.fd, fun d => ?_, fun d1 d2 l h1 h2 => ?_⟩
  · unfold putK
    rw [if_neg (fun z => by
      obtain ⟨p, hp, e⟩ := List.any_eq_true.mp z
      exact nin (List.mem_map.mpr ⟨p, hp, of_decide_eq_true e⟩))]
    rw [List.map_append, List.map_append, h.keys]
    rfl
  · rw [List.mem_append, h.mem, List.mem_singleton]
    constructor
    · rintro (⟨k', h1, h2⟩ | rfl)
      · exact ⟨k', List.mem_append.mpr (.inl h1), h2⟩
      · exact ⟨k, List.mem_append.mpr (.inr (.head _)), rfl⟩
    · rintro ⟨k', h1, h2⟩
      rcases List.mem_append.mp h1 with h1 | h1
      · exact .inl ⟨k', h1, h2⟩
      · rw [List.mem_singleton.mp h1] at h2
        exact .inr h2.symm
  · rw [on_snoc, valV_put]
    by_cases c : dayK k = d
    · subst c
      rw [if_pos rfl, if_pos rfl]
      rcases h.day (dayK k) with ⟨_, e⟩ | ⟨l', ys, e, _⟩
      · rw [e]
        exact .inr ⟨L, _, rfl, upd_same, .cons (nx.at tp) .nil, fL⟩
      · rw [e] at hv; cases hv
    · rw [if_neg c, List.append_nil, if_neg (fun z => c (Sum.inl.inj z).symm)]
      refine (h.day d).imp id fun ⟨l', ys, e, e2, e3, e4⟩ => ⟨l', ys, e, ?_, e3.at tp, e4⟩
      rw [upd_ne (fun z => hL d (by rw [e, z])), upd_ne (fun z => by rw [z, hd] at e2; cases e2)]
      exact e2
  · rw [valV_put] at h1 h2
    split at h1
    · rename_i c1
      cases h1
      split at h2
      · rename_i c2
        exact Sum.inl.inj (c1.trans c2.symm)
      · exact absurd h2 (hL _)
    · split at h2
      · cases h2
        exact absurd h1 (hL _)
      · exact h.inj _ _ _ h1 h2
/-- the walk, said of an elder heap -/
theorem WkAt.rebase {T : Tx K mg w} {t1 t2 : Int} {H0 H1 H : Hp} {A : WA} {s : WS} {n : Nat} (W : WkAt T t1 t2 H1 H A s n) (g : Gk (tbs T) H0 H1) : WkAt T t1 t2 H0 H A s n := by
  obtain ⟨kvs, m1, m2⟩ := W.mo
  exact { W with gk := g.trans W.gk, mo := ⟨kvs, m1, fun b o => ⟨frs_gk g (m2 b o).1, (m2 b o).2⟩⟩, fw := frs_gk g W.fw, fh := frs_gk g W.fh, fk := frs_gk g W.fk, fd := frs_gk g W.fd, fm := frs_gk g W.fm, fa := frs_gk g W.fa }
end
end L20

set_option Elab.async false
set_option linter.all false
set_option maxRecDepth 100000
set_option maxHeartbeats 4000000
namespace L20
open PySem PySem.Spec PyProof.Rows L2 My
section
variable {P : Program} {w : World} {K : PySem.W.Frag} {mg : Str → Option Value} {base : Heap}
theorem day_bound {k : NestedKey} (h : PgK k) : 0 ≤ dayK k ∧ dayK k < 20000 := by
  obtain ⟨z, d, r, rfl, _, d0, d1⟩ := h
  exact ⟨d0, by show d < 20000; omega⟩
theorem due_depth {u : Due} (h : PgK u.pg) : (dueK u).depth ≤ 50 := by
  have hn : ∀ ws : List Int, NestedKey.depthAll (ws.map .num) = 0 := fun ws => by
    induction ws with
    | nil => rw [List.map_nil, NestedKey.depthAll]
    | cons a l ih => rw [List.map_cons, NestedKey.depthAll, ih, NestedKey.depth]; rfl
  have := (place_depth h).2
  unfold dueK
  simp only [NestedKey.depthAll, NestedKey.depth, hn]
  omega
/-- the first day of a walk -/
def LoD (ks : List NestedKey) (day lo : Int) : Prop := (ks = [] ∧ lo = day) ∨ ((∃ k ∈ ks, dayK k = lo) ∧ ∀ k ∈ ks, lo ≤ dayK k)
def spWalked (T : Tx K mg w) : Sp := fun vs H Q _ => ∃ (bk lim : Addr) (t1 t2 day lo : Int) (xs : List V) (ks : List NestedKey), vs = [.ref bk, .ref lim, .int day] ∧ H bk = some (.tup xs) ∧ PgsAt H xs ks ∧ xs.length ≤ 100 ∧ H lim = some (.tup [.int t1, .int t2]) ∧ 0 ≤ t1 ∧ t1 ≤ 500 ∧ 0 ≤ t2 ∧ t2 ≤ 500 ∧ Tbs (tbs T) H ∧ 0 ≤ day ∧ day < 19999 ∧
  (∃ NM, Cap ks NM) ∧ LoD (ks.filter fun k => decide (dayK k ≤ day)) day lo ∧
  ∀ A H' n, WkAt T t1 t2 H H' A (runS t1 t2 (ks.filter fun k => decide (dayK k ≤ day)) lo (day + 1 - lo).toNat) n → FinW t1 t2 (runS t1 t2 (ks.filter fun k => decide (dayK k ≤ day)) lo (day + 1 - lo).toNat) → Q (.ref A.wa) H'
theorem ok_walked (T : Tx K mg w) (B : Tb T base) : FnOk P w K mg base CX0 7 T.f_walked T.d_walked ["book", "terms", "day"] (spWalked T) := by
  have G_up_to : FnOk P w K mg base CX0 3 T.f_up_to T.d_up_to ["book", "day"] (spUp T) := ok_up T B
  have G_page_day : FnOk P w K mg base CX0 1 T.f_page_day T.d_page_day ["page"] ((spAt 1)) := ok_page_day T
  have G_Walk___init__ : FnOk P w K mg base CX0 1 T.f_Walk___init__ T.d_Walk___init__ ["self", "limits"] (spIni T) := ok_ini T
  have G_Walk_do_page : FnOk P w K mg base CX0 6 T.f_Walk_do_page T.d_Walk_do_page ["self", "page"] (spDo T) := ok_do T B
  have G_Walk_end_day : FnOk P w K mg base CX0 4 T.f_Walk_end_day T.d_Walk_end_day ["self", "day"] (spEnd T) := ok_end T
  refine T.F_walked.ok S_walked (fun vs H Q E h => ?_) (fun cdv A0 outer sx H vs Q E hr h => ?_)
  · obtain ⟨bk, lim, t1, t2, day, lo, xs, ks, rfl, _⟩ := h
    rfl
  · obtain ⟨bk, lim, t1, t2, day, lo, xs, ks, rfl, hbk, pg, lx, hl, t10, t11, t20, t21, tb, d0, d1, ⟨NM, cp1, cp2⟩, hlo, q⟩ := h
    refine ⟨_, (pss_cons (ps_set (i := 3) S_walked.nd rfl (.inl rfl) pe_dnewK)
      (pss_cons (ps_for PassesOwn.never rfl (pi_tup (pe_call G_up_to (hr.mono (by decide)) (by rfl) T.g_up_to T.F_up_to.kp T.b_up_to .nil pass0 (pa_cons (pv 0) (pa_cons (pv 2) pa_nil)))) (pg_name (i := 4) S_walked.nd rfl (.inl rfl))
      (pss_one (ps_expr (pe_bm PySem.F.plainAttrs_list PySem.F.slot_list_append PySem.F.type_list_append mt_append (pe_dsetd (pv 3) (pe_call G_page_day (hr.mono (by decide)) (by rfl) T.g_page_day T.F_page_day.kp T.b_page_day .nil pass0 (pa_cons (pv 4) pa_nil)) (pe_lst pa_nil) ⟨by rfl, by rfl, by rfl, by rfl⟩) (pa_cons (pv 4) pa_nil)))))
      (pss_cons (ps_set (i := 5) S_walked.nd rfl (.inl rfl) (pe_make T.mk_Walk G_Walk___init__ (hr.mono (by decide)) (by rfl) T.gC_Walk T.b_Walk___init__ .nil pass0 (pa_cons (pv 1) pa_nil)))
      (pss_cons (ps_for PassesOwn.never rfl (pi_range2 (by rfl) T.m_range (pa_cons (pe_callBK (cr_minKD (by rfl)) (by rfl) T.m_min (by decide +kernel) (pa_cons (pv 3) pa_nil) (pk_cons (pv 2) pk_nil)) (pa_cons (pe_op op_add (pv 2) pe_int) pa_nil))) (pg_name (i := 6) S_walked.nd rfl (.inl rfl))
      (pss_cons (ps_for PassesOwn.never rfl (pi_seq2 (pe_dget2 (hu_of hr) (pv 3) (pv 6) (pe_tup pa_nil) ⟨by rfl, by rfl, by rfl, by rfl⟩)) (pg_name (i := 4) S_walked.nd rfl (.inl rfl))
      (pss_one (ps_expr (pe_meth (pv 5) T.cl_Walk T.me_Walk_do_page G_Walk_do_page hr T.b_Walk_do_page .nil pass0 (pa_cons (pv 4) pa_nil)))))
      (pss_one (ps_expr (pe_meth (pv 5) T.cl_Walk T.me_Walk_end_day G_Walk_end_day (hr.mono (by decide)) T.b_Walk_end_day .nil pass0 (pa_cons (pv 6) pa_nil))))))
      (pss_one (ps_ret (pv 5))))))), ?_⟩
    obtain ⟨kf, ekf⟩ : ∃ kf, kf = ks.filter fun k => decide (dayK k ≤ day) := ⟨_, rfl⟩
    rw [← ekf] at q hlo
    intro D nD
    have sD := same_upd (o := .dK []) nD
    have gD : Gk (tbs T) H (upd H D (.dK [])) := .of_same sD tb
    have hD := upd_same (H := H) (a := D) (o := .dK [])
    generalize upd H D (.dK []) = H1 at gD hD sD ⊢
    refine ⟨_, rfl, _, rfl, bk, day, xs, ks, rfl, sD _ _ hbk, ⟨pg.1.at (.same sD), pg.2⟩, by omega, gD.2, fun r zs H2 g2 hr2 nk2 lz _ => ⟨r, rfl, ⟨zs, .inl (.inl hr2)⟩, ?_⟩⟩
    rw [← ekf] at nk2
    have pk2 : ∀ k ∈ kf, PgK k ∧ dayK k ≤ day ∧ ((pgK k).z = "part" → (pgK k).b.getD (pgK k).a ∈ NM) := fun k hk => by
      rw [ekf] at hk
      obtain ⟨a, b⟩ := List.mem_filter.mp hk
      exact ⟨pg.2 k a, of_decide_eq_true b, cp1 k a⟩
    have lk : kf.length ≤ 100 := by rw [← nk2.length]; omega
    have lkk : kf.length ≤ ks.length := by rw [ekf]; exact List.length_filter_le _ _
    have capn : ∀ n, n ≤ kf.length → n * 2 ^ NM.length ≤ 1000 := fun n h => Nat.le_trans (Nat.mul_le_mul_right _ (Nat.le_trans h lkk)) cp2
    refine for_tup (xs := zs) (fun i σ Hx => (∃ y4 y5 y6, σ = [some (.ref bk), some (.ref lim), some (.int day), some (.ref D), y4, y5, y6]) ∧ Gk (tbs T) H Hx ∧ Hx r = some (.tup zs) ∧ NkAll Hx zs kf ∧ ∃ kvs ms, ByD H Hx D kvs ms (kf.take i)) ⟨⟨_, _, _, rfl⟩, gD.trans g2, hr2, nk2, [], [], ?_⟩ (fun i σ Hx _ ⟨_, _, h, _⟩ => .inl (.inl h)) ?_ ?_
    · exact ⟨g2.1 _ _ hD (fun ps z => by cases z), rfl, fun m => ⟨(fun h => by cases h), (fun ⟨k, h, _⟩ => by cases h)⟩, Nat.zero_le _, .of nD, fun d => .inl ⟨rfl, rfl⟩, (fun d1 d2 l h => by cases h)⟩
    · rintro i x σ Hx hi ⟨⟨y4, y5, y6, rfl⟩, gx, hrx, nkx, kvs, ms, bd⟩
      obtain ⟨k, hk, nx⟩ := nkx.get hi
      obtain ⟨pk, _⟩ := pk2 k (List.mem_of_getElem? hk)
      obtain ⟨pa, ys, rfl, hpa, ed⟩ := day_at nx pk
      have lb := bd.len
      rw [List.length_take] at lb
      have tk : kf.take (i + 1) = kf.take i ++ [k] := by rw [List.take_add_one, hk]; rfl
      refine ⟨_, rfl, D, rfl, .inl ⟨_, .inl bd.hd⟩, ?_⟩
      refine ⟨_, rfl, pa, ys, _, rfl, hpa, ed, ?_⟩
      refine ⟨sz (by show 0 ≤ 1000; decide), fun L nL => ?_⟩
      have sL := same_upd (o := .lst []) nL
      have gL : Gk (tbs T) Hx (upd Hx L (.lst [])) := .of_same sL gx.2
      have hL := upd_same (H := Hx) (a := L) (o := .lst [])
      generalize upd Hx L (.lst []) = H3 at sL gL hL ⊢
      have bd3 := bd.at gL
      have fL : Frs H L := fr_new gx nL
      refine ⟨kvs, .inl (dayK k), bd3.hd, rfl, small1000 (by omega), fun v hv => ?_, fun hv => ?_⟩
      · obtain ⟨l, xs3, e1, e2, e3, e4⟩ : ∃ l xs3, v = .ref l ∧ H3 l = some (.lst xs3) ∧ NkAll H3 xs3 (onDay (kf.take i) (dayK k)) ∧ Frs H l := by
          rcases bd3.day (dayK k) with ⟨e, _⟩ | ⟨l, xs3, e, e2, e3, e4⟩
          · rw [e] at hv; cases hv
          · rw [e] at hv; cases hv; exact ⟨l, xs3, rfl, e2, e3, e4⟩
        subst e1
        have l3 : xs3.length ≤ 100 := by
          rw [e3.length]
          exact Nat.le_trans (List.length_filter_le _ _) (by rw [List.length_take]; omega)
        have tp : Tups H3 (upd H3 l (.lst (xs3 ++ [.ref pa]))) := fun c ys e => by rw [upd_ne (fun z => by rw [z, e2] at e; cases e)]; exact e
        refine ⟨.inl ⟨rfl, _, .inl (.inl e2)⟩, _, rfl, l, xs3, .ref pa, rfl, rfl, e2, small1000 (by omega), ⟨_, _, _, rfl⟩, gk_upd (gx.trans gL) e4 e2 (fun ps z => by cases z), tp _ _ (sL _ _ hrx), (nkx.at (.same sL)).at tp, kvs, ms, ?_⟩
        rw [tk]
        exact bd3.add (Ts := tbs T) hv e2 e3 (nx.at (.same sL))
      · have hDL : D ≠ L := fun z => by have := bd.hd; rw [z, nL] at this; cases this
        have e2 : upd H3 D (.dK (putK kvs (.inl (dayK k)) (.ref L))) L = some (.lst []) := by rw [upd_ne hDL.symm]; exact hL
        have t1' : Tups H3 (upd H3 D (.dK (putK kvs (.inl (dayK k)) (.ref L)))) := fun c ys e => by rw [upd_ne (fun z => by have := bd3.hd; rw [← z, e] at this; cases this)]; exact e
        have t2' : Tups (upd H3 D (.dK (putK kvs (.inl (dayK k)) (.ref L)))) (upd (upd H3 D (.dK (putK kvs (.inl (dayK k)) (.ref L)))) L (.lst ([] ++ [.ref pa]))) := fun c ys e => by rw [upd_ne (fun z => by rw [z, e2] at e; cases e)]; exact e
        have g4 := gk_upd (o := .dK (putK kvs (.inl (dayK k)) (.ref L))) (gx.trans gL) bd3.fd bd3.hd (fun ps z => by cases z)
        refine ⟨.inl ⟨rfl, _, .inl (.inl e2)⟩, _, rfl, L, [], .ref pa, rfl, rfl, e2, small1000 (by show 0 ≤ 1000; decide), ⟨_, _, _, rfl⟩, gk_upd g4 fL e2 (fun ps z => by cases z), t2' _ _ (t1' _ _ (sL _ _ hrx)), ((nkx.at (.same sL)).at t1').at t2', putK kvs (.inl (dayK k)) (.ref L), ms ++ [dayK k], ?_⟩
        rw [tk]
        refine bd3.new (Ts := tbs T) hv (fun o z => by rw [hL] at z; cases z) fL (fun d z => ?_) hL (nx.at (.same sL))
        rcases bd.day d with ⟨e, _⟩ | ⟨l', ys', e, e5, _⟩
        · rw [e] at z; cases z
        · rw [e] at z
          cases z
          rw [e5] at nL
          cases nL
    · rintro σ Hx ⟨⟨y4, y5, y6, rfl⟩, gx, hrx, nkx, kvs, ms, bd⟩
      rw [List.take_of_length_le (by rw [nk2.length]; exact Nat.le_refl _)] at bd
      refine ⟨_, rfl, fun wa dx nw nd ne => ?_⟩
      have sd := same_upd (o := .own wa) nd
      have nw2 : upd Hx dx (.own wa) wa = none := by rw [upd_ne ne.symm]; exact nw
      have sw := sd.trans (same_upd (o := .ins T.C_Walk dx []) nw2)
      refine ⟨Hx, wa, dx, lim, t1, t2, rfl, upd_same, sw _ _ (gx.tup hl), .of_same sw gx.2, .of nw, fun A H4 ea W => ⟨rfl, ?_⟩⟩
      subst ea
      have bd4 := bd.at W.gk
      have lo1 : (ms = [] ∧ V.int day = V.int lo) ∨ (lo ∈ ms ∧ ∀ j ∈ ms, lo ≤ j) := by
        rcases hlo with ⟨e1, e2⟩ | ⟨e1, e2⟩
        · refine .inl ⟨?_, by rw [e2]⟩
          cases hms : ms with
          | nil => rfl
          | cons m _ =>
            obtain ⟨k, hk, _⟩ := (bd.mem m).mp (by rw [hms]; exact .head _)
            rw [e1] at hk; cases hk
        · exact .inr ⟨(bd.mem lo).mpr e1, fun j hj => by obtain ⟨k, hk, e⟩ := (bd.mem j).mp hj; rw [← e]; exact e2 k hk⟩
      have lo2 : lo ≤ day ∧ 0 ≤ lo := by
        rcases hlo with ⟨_, e⟩ | ⟨⟨k, hk, e⟩, _⟩
        · omega
        · have h1 := pk2 k hk
          have h2 := day_bound h1.1
          omega
      refine ⟨_, rfl, _, rfl, D, kvs, ms, _, lo, rfl, rfl, bd4.hd, bd4.keys, lo1, _, rfl, _, _, rfl, rfl, lo, day + 1, rfl, ⟨by omega, by omega, by omega, by omega⟩, ?_⟩
      refine for_range (lo := lo) (n := (day + 1 - lo).toNat) (fun j σ Hy => (∃ y4 y6, σ = [some (.ref bk), some (.ref lim), some (.int day), some (.ref D), y4, some (.ref A.wa), y6]) ∧ ∃ A', A'.wa = A.wa ∧ WkAt T t1 t2 Hx Hy A' (runS t1 t2 kf lo j) (2 * cntD kf (lo + j)) ∧ InvW t1 t2 NM (runS t1 t2 kf lo j) (cntD kf (lo + j))) ⟨⟨_, _, rfl⟩, A, rfl, W.up (Nat.zero_le _), (invW0 t1 t2 NM).up (Nat.zero_le _)⟩ ?_ ?_
      · rintro j σ Hy hj ⟨⟨y4, y6, rfl⟩, A', ea, Wy, iv⟩
        have bdy := bd.at Wy.gk
        have cs := cnt_day kf (lo + j)
        have cl := cnt_le kf (lo + j + 1)
        refine ⟨_, rfl, D, rfl, .inl ⟨_, .inl bdy.hd⟩, _, rfl, sz (by show 0 ≤ 1000; decide), fun U nU => ?_⟩
        have sU := same_upd (o := .tup []) nU
        have hU := upd_same (H := Hy) (a := U) (o := .tup [])
        generalize upd Hy U (.tup []) = H5 at sU hU ⊢
        have W5 := Wy.same sU
        have bd5 := bd.at W5.gk
        refine ⟨_, DGet.k (k := .inl (lo + j)) bd5.hd, ?_⟩
        rcases bd.day (lo + j) with ⟨e1, e2⟩ | ⟨l, xs5, e1, hl1, e3x, e4⟩
        · rw [e1]
          refine ⟨U, rfl, .inr ⟨⟨_, .inl (.inl hU)⟩, ?_⟩⟩
          refine for_tup (xs := []) (fun i σ Hz => (∃ y4, σ = [some (.ref bk), some (.ref lim), some (.int day), some (.ref D), y4, some (.ref A.wa), some (.int (lo + j))]) ∧ Hz = H5) ⟨⟨_, rfl⟩, rfl⟩ (fun i σ Hz _ ⟨_, h⟩ => by rw [h]; exact .inl (.inl hU)) (fun i x σ Hz hi => by cases hi) ?_
          rintro σ Hz ⟨⟨y4', rfl⟩, rfl⟩
          have W7 : WkAt T t1 t2 Hx Hz A' ((onDay kf (lo + j)).foldl doS (runS t1 t2 kf lo j)) (2 * cntD kf (lo + j + 1)) := by rw [← cs, e2, List.length_nil, Nat.add_zero]; exact W5
          have iv7 : InvW t1 t2 NM ((onDay kf (lo + j)).foldl doS (runS t1 t2 kf lo j)) (cntD kf (lo + j + 1)) := by rw [← cs, e2, List.length_nil, Nat.add_zero]; exact iv
          obtain ⟨wa', hm', mu', kn', du', mk', an', dx', li'⟩ := A'
          obtain rfl : wa' = A.wa := ea
          refine ⟨_, rfl, A.wa, _, _, rfl, W7.ob, rfl, _, rfl, t1, t2, Hx, ⟨A.wa, hm', mu', kn', du', mk', an', dx', li'⟩, _, _, lo + j, rfl, W7, fun u hu => (iv7.du u hu).1, Nat.le_trans iv7.len (Nat.le_trans (capn _ (by omega)) (by decide)), fun u hu => ?_, by omega, by omega, fun du7 H7 W8 _ => ?_⟩
          · have := (iv7.du u hu).2
            unfold termB at this
            split at this <;> omega
          · refine ⟨⟨_, _, rfl⟩, ⟨A.wa, hm', mu', kn', du7, mk', an', dx', li'⟩, rfl, ?_, ?_⟩
            · rw [show lo + ((j + 1 : Nat) : Int) = lo + j + 1 by omega]
              exact W8
            · rw [show lo + ((j + 1 : Nat) : Int) = lo + j + 1 by omega]
              exact iv7.end (lo + j)
        · have e2 := W5.gk.1 _ _ hl1 (fun ps z => by cases z)
          have e3 := e3x.at (.gk W5.gk)
          rw [e1]
          refine ⟨l, rfl, .inl ⟨⟨_, .inl (.inl e2)⟩, ?_⟩⟩
          have lx5 : xs5.length = (onDay kf (lo + j)).length := e3.length
          refine for_list (xs := xs5) (fun i σ Hz => (∃ y4, σ = [some (.ref bk), some (.ref lim), some (.int day), some (.ref D), y4, some (.ref A.wa), some (.int (lo + j))]) ∧ ∃ A', A'.wa = A.wa ∧ WkAt T t1 t2 Hx Hz A' (((onDay kf (lo + j)).take i).foldl doS (runS t1 t2 kf lo j)) (2 * (cntD kf (lo + j) + i)) ∧ InvW t1 t2 NM (((onDay kf (lo + j)).take i).foldl doS (runS t1 t2 kf lo j)) (cntD kf (lo + j) + i) ∧ Hz l = some (.lst xs5) ∧ NkAll Hz xs5 (onDay kf (lo + j))) ⟨⟨_, rfl⟩, A', ea, W5, iv, e2, e3⟩ (fun i σ Hz _ ⟨_, _, _, _, _, h, _⟩ => .inl (.inl h)) ?_ ?_
          · rintro i x σ Hz hi ⟨⟨y4', rfl⟩, A2, ea2, W6, iv6, hlz, nkz⟩
            obtain ⟨k, hk, nx⟩ := nkz.get hi
            have hin : k ∈ kf := (List.mem_filter.mp (List.mem_of_getElem? hk)).1
            obtain ⟨pk, _, z1⟩ := pk2 k hin
            obtain ⟨wa', hm', mu', kn', du', mk', an', dx', li'⟩ := A2
            obtain rfl : wa' = A.wa := ea2
            have il : i < (onDay kf (lo + j)).length := (List.getElem?_eq_some_iff.mp hk).1
            obtain ⟨pa, _, rfl, _⟩ := day_at nx pk
            have iv7 := iv6.do t10 t20 pk z1
            refine ⟨_, rfl, A.wa, _, _, rfl, W6.ob, rfl, _, rfl, t1, t2, Hx, ⟨A.wa, hm', mu', kn', du', mk', an', dx', li'⟩, _, _, pa, k, rfl, W6, nx, pk, by omega, Nat.le_trans iv6.len (Nat.le_trans (capn _ (by omega)) (by decide)), by have := iv6.an; omega, fun u hu => (iv6.du u hu).1, by have := iv6.mks; omega, fun u hu => ?_, fun du7 H7 W8 tp => ?_⟩
            · exact due_depth (iv6.du u hu).1
            · have tk : (onDay kf (lo + j)).take (i + 1) = (onDay kf (lo + j)).take i ++ [k] := by rw [List.take_add_one, hk]; rfl
              refine ⟨⟨_, rfl⟩, ⟨A.wa, hm', mu', kn', du7, mk', an', dx', li'⟩, rfl, ?_, ?_, W8.gk.1 _ _ hl1 (fun ps z => by cases z), nkz.at tp⟩
              · rw [tk, List.foldl_append]
                exact W8
              · rw [tk, List.foldl_append]
                exact iv7
          · rintro σ Hz ⟨⟨y4', rfl⟩, A2, ea2, W6, iv6, _⟩
            rw [List.take_of_length_le (by rw [lx5]; exact Nat.le_refl _)] at W6 iv6
            have W7 : WkAt T t1 t2 Hx Hz A2 ((onDay kf (lo + j)).foldl doS (runS t1 t2 kf lo j)) (2 * cntD kf (lo + j + 1)) := by rw [← cs, ← lx5]; exact W6
            have iv7 : InvW t1 t2 NM ((onDay kf (lo + j)).foldl doS (runS t1 t2 kf lo j)) (cntD kf (lo + j + 1)) := by rw [← cs, ← lx5]; exact iv6
            obtain ⟨wa', hm', mu', kn', du', mk', an', dx', li'⟩ := A2
            obtain rfl : wa' = A.wa := ea2
            refine ⟨_, rfl, A.wa, _, _, rfl, W7.ob, rfl, _, rfl, t1, t2, Hx, ⟨A.wa, hm', mu', kn', du', mk', an', dx', li'⟩, _, _, lo + j, rfl, W7, fun u hu => (iv7.du u hu).1, Nat.le_trans iv7.len (Nat.le_trans (capn _ (by omega)) (by decide)), fun u hu => ?_, by omega, by omega, fun du7 H7 W8 _ => ?_⟩
            · have := (iv7.du u hu).2
              unfold termB at this
              split at this <;> omega
            · refine ⟨⟨_, _, rfl⟩, ⟨A.wa, hm', mu', kn', du7, mk', an', dx', li'⟩, rfl, ?_, ?_⟩
              · rw [show lo + ((j + 1 : Nat) : Int) = lo + j + 1 by omega]
                exact W8
              · rw [show lo + ((j + 1 : Nat) : Int) = lo + j + 1 by omega]
                exact iv7.end (lo + j)
      · rintro σ Hy ⟨⟨y4, y6, rfl⟩, A', ea, Wy, iv⟩
        refine ⟨_, rfl, ?_⟩
        rw [← ea]
        exact q A' Hy _ (Wy.rebase gx) (iv.fin (by have := cnt_le kf (lo + ((day + 1 - lo).toNat : Nat)); omega) (capn _ (cnt_le kf (lo + ((day + 1 - lo).toNat : Nat)))))
end
end L20

set_option Elab.async false
set_option linter.all false
/-! Rules that name the fragment, for use inside comprehensions (the block's context must not stand in what they ask). -/
namespace My
open PySem PySem.Spec PyProof.Rows L2
def rLenK (K : PySem.W.Frag) : List V → Hp → VK → Prop := fun xs H Q => ∃ p ys, xs = [.ref p] ∧ (SqL K H p ys ∨ SqT K H p ys) ∧ Q (.int ys.length) H
section
variable {X : Cx}
theorem call_lenK : CallR X (.builtin "len") (rLenK X.K) := call_len_seq
variable {o e : Expr} {es : List Expr} {to : TE} {t : TA} {name : Str} {apos cpos : Pos} {T id : String} {r : V → List V → Hp → VK → Prop} {K1 : PySem.W.Frag}
theorem pe_bmK (hK : X.K = K1) (pa : PlainAttrs T) (slot : Slot T name id) (hty : typeOf (.builtin id) = pure (.type "method_descriptor")) (hm : MtR X id r) (ho : PE X o to) (ha : PA X (e :: es) t)
    (hbase : attributeBase o name X.env (eval o X.env) = eval o X.env := by rfl)
    (hfew : ((backTo cpos (starEach (e :: es) X.env)).all (fun x => !x.1) && (backToKw cpos (keywordEach [] X.env)).all (fun x => x.1.isSome)
      && decide ((e :: es).length + ([] : List Keyword).length + (if ([] : List Keyword).isEmpty then 0 else 1) < 30)) = true := by rfl)
    (hline : (apos.endLine == cpos.line) = true := by rfl) (hs : starEach (e :: es) X.env = (false, eval e X.env) :: starEach es X.env := by rfl) (hplain : (backTo cpos (starEach es X.env)).any (·.1) = false := by rfl) :
    PE X (.Call (.Attribute o name apos) (e :: es) [] cpos) (tBM K1 T r to t) := by
  subst hK
  exact pe_bm pa slot hty hm ho ha hbase hfew hline hs hplain
theorem pi_listK {tg : Expr} {te : TE} (hK : X.K = K1) (h : PE X e te) : PI X tg e (iList K1 te) := by
  subst hK
  exact pi_list h
theorem pi_tupK {tg : Expr} {te : TE} (hK : X.K = K1) (h : PE X e te) : PI X tg e (iTup K1 te) := by
  subst hK
  exact pi_tup h
end
end My

set_option Elab.async false
set_option linter.all false
set_option maxRecDepth 100000
set_option maxHeartbeats 2000000
/-! t[::-1], t a tuple of two. -/
namespace My
open PySem PySem.Spec PyProof.Rows L2 HT
section
variable {prog : Program} {w : World} {A : Around} {E : Value → Shared → Prop} {s : Shared}
theorem applied_back {sl : Addr} {u : Tok} {Q : Int × Int × Nat → Shared → Prop} (hs : s.heap.IsSliceOf sl .none .none (.int (-1) u)) (h : Q (1, -1, 2) s) :
    wpAny (model prog w) A (Builtin.Slice.sliceApplied (.ref sl) (pure (2 : Int))) Q E s := by
  obtain ⟨o, ho, _, hd⟩ := hs
  unfold Builtin.Slice.sliceApplied Builtin.Slice.sliceFields
  refine wpAny_bind (wpAny_bind (wpAny_field ho hd (x := .none) rfl ?_))
  refine wpAny_bind (wpAny_field ho hd (x := .none) rfl ?_)
  refine wpAny_bind (wpAny_field ho hd (x := .int (-1) u) rfl (wpAny_pure ?_))
  refine wpAny_bind (slicePart_ (.int (-1) u) ?_)
  show wpAny _ _ (if ((-1 : Int) == 0) = true then _ else _) _ _ s
  rw [if_neg (show ¬ ((-1 : Int) == 0) = true by decide)]
  exact wpAny_bind (slicePart_ .none (wpAny_bind (slicePart_ .none (wpAny_bind (wpAny_pure (wpAny_pure h))))))
theorem item_back {t sl : Addr} {a b : Value} {u : Tok} {Q : Value → Shared → Prop} (ht : IsTup s.heap t #[a, b]) (hs : s.heap.IsSliceOf sl .none .none (.int (-1) u))
    (h : Q (.ref s.heap.objs.size) { s with heap := s.heap.push { cls := .type "tuple", data := .seq #[b, a] } }) : wpAny (model prog w) A (getItem (.ref t) (.ref sl)) Q E s := by
  obtain ⟨o, ho, hc, hd⟩ := id hs
  have ty : s.TypeIs (.ref sl) "slice" := ⟨o, ho, hc⟩
  have fit : sizeOk (.seq #[b, a]) := by show 2 ≤ sizeLine; exact sz (by decide)
  unfold getItem
  try with_reducible refine wpAny_holding ?_
  first | refine wpAny_bind (wpAny_pure ?_) | skip
  refine wpAny_bind (wpAny_sequenceKey ht.typeIs (by decide) (wpAny_bind (wpAny_callSpecial?_slot (name := Str.ofString "__getitem__") ht.typeIs PyProof.Rows.slot_tuple_getitem (wpAny_call_entry PyProof.Rows.slot_tuple_getitem ht.typeIs entry_tuple_getitem ?_ (args_tuple_getitem _ _)))))
  show wpAny _ _ (Builtin.Tuple.tupleItemsOf (.ref t) >>= _) _ _ s
  refine wpAny_bind (tupleItemsOf_ ht (wpAny_bind (wpAny_typeOf ty ?_)))
  rw [if_pos (by decide)]
  refine wpAny_bind (applied_back hs ?_)
  show wpAny _ _ (if (((1 : Int) == 0) && ((-1 : Int) == 1) && ((2 : Nat) == 2)) = true then _ else _) _ _ s
  rw [if_neg (by decide)]
  have e : ((List.range 2).filterMap fun (k : Nat) => (#[a, b] : Array Value)[((1 : Int) + (k : Int) * (-1)).toNat]?).toArray = #[b, a] := rfl
  rw [e]
  first
    | exact wpAny_bind (m := Builtin.Tuple.tupleExact _) (wpAny_newObj_type (wpAny_pure ⟨_, rfl, wpAny_pure h⟩) fit)
    | exact wpAny_bind (m := Builtin.Tuple.tupleExact _) (wpAny_newObj_type (wpAny_bind (wpAny_pure (wpAny_pure ⟨_, rfl, wpAny_pure h⟩))) fit)
    | exact wpAny_bind (wpAny_bind (m := Builtin.Tuple.tupleExact _) (wpAny_newObj_type (wpAny_pure (wpAny_pure ⟨_, rfl, wpAny_pure h⟩)) fit))
    | exact wpAny_bind (wpAny_bind (m := Builtin.Tuple.tupleExact _) (wpAny_newObj_type (wpAny_pure ⟨_, rfl, wpAny_pure h⟩) fit))
end
section
variable {X : Cx} {K1 : PySem.W.Frag}
def tRevP (K : PySem.W.Frag) (te : TE) : TE := fun σ H Q => te σ H fun x H1 => ∃ a p q, x = .ref a ∧ SqT K H1 a [p, q] ∧ ∀ b, H1 b = none → Q (.ref b) (upd H1 b (.tup [q, p]))
theorem pe_revP {e : Expr} {te : TE} {k : Nat} {p1 p2 p3 pos : Pos} (hK : X.K = K1) (he : PE X e te) : PE X (.Subscript e (.Slice none none (some (.UnaryOp .USub (.Constant (.int 1) k p1) p2)) p3) pos) (tRevP K1 te) := by
  subst hK
  have step : PO X (some (.UnaryOp .USub (.Constant (.int 1) k p1) p2)) (tPart (tUn (rU fun i => .int (-i)) (tC (.int 1)))) := po_some (pe_un un_neg pe_int)
  constructor
  intro pins s σ H Q I h
  refine Subscript_ (thn (he.run pins s σ H _ I h) ?_)
  rintro v s1 ⟨x, H1, I1, r1, a, p, q, rfl, hx, hq⟩
  cases r1
  refine wpAny_Slice (thn (po_none.run pins s1 σ H1 (fun o G => o = none ∧ G = H1) I1 ⟨rfl, rfl⟩) ?_)
  rintro vl s2 ⟨o1, G1, I2, q1, rfl, rfl⟩
  refine thn (po_none.run pins s2 σ G1 (fun o G => o = none ∧ G = G1) I2 ⟨rfl, rfl⟩) ?_
  rintro vu s3 ⟨o2, G2, I3, q2, rfl, rfl⟩
  refine thn (step.run pins s3 σ G2 (fun o G => o = some (-1) ∧ G = G2) I3 ⟨1, rfl, -1, rfl, rfl, rfl⟩) ?_
  rintro vs s4 ⟨o3, G3, I4, q3, rfl, rfl⟩
  cases q1
  cases q2
  cases q3 with
  | int _ u =>
    have I5 : Inv X pins σ G3 { s4 with heap := s4.heap.push { cls := .type "slice", data := .fields #[.none, .none, .int (-1) u] } } := I4.kept (t' := s4.toks) fun b ob q => Heap.get?_push_of_some _ q
    obtain ⟨its, r, ht, _⟩ := I5.tuple hx
    cases r with
    | @cons _ b1 _ _ ra r =>
      cases r with
      | @cons _ b2 _ _ rb r =>
        cases r
        show wpAny (model X.prog X.w) X.A (subscriptTail e (.Slice none none (some (.UnaryOp .USub (.Constant (.int 1) k p1) p2)) p3) (.ref a) (.ref s4.heap.objs.size)) (EP X pins σ Q) X.xe { s4 with heap := s4.heap.push { cls := .type "slice", data := .fields #[.none, .none, .int (-1) u] } }
        refine tail_any (ops := [.ref a, .ref s4.heap.objs.size]) ht.typeIs (PyProof.Rows.slot_tuple_getitem.lookup) ?_ (by with_unfolding_all rfl)
        refine item_back ht (Heap.IsSliceOf.new _ .none .none (.int (-1) u)) ?_
        refine ⟨.ref _, _, I5.laid (t' := s4.toks) (o := .tup [q, p]) (fun b ob q => Heap.get?_push_of_some _ q) (Nat.le_refl _) ⟨sz (by show 2 ≤ 1000; decide), [b2, b1], .cons rb (.cons ra .nil), IsTup.new _ _⟩, rfl, hq _ (I5.hok.fresh (Nat.le_refl _))⟩
end
end My

set_option Elab.async false
set_option linter.all false
set_option maxRecDepth 100000
set_option maxHeartbeats 2000000
/-! t[:1:-1], t a tuple of four. -/
namespace My
open PySem PySem.Spec PyProof.Rows L2 HT
section
variable {prog : Program} {w : World} {A : Around} {E : Value → Shared → Prop} {s : Shared}
theorem applied_back4 {sl : Addr} {u v : Tok} {Q : Int × Int × Nat → Shared → Prop} (hs : s.heap.IsSliceOf sl .none (.int 1 v) (.int (-1) u)) (h : Q (3, -1, 2) s) :
    wpAny (model prog w) A (Builtin.Slice.sliceApplied (.ref sl) (pure (4 : Int))) Q E s := by
  obtain ⟨o, ho, _, hd⟩ := hs
  unfold Builtin.Slice.sliceApplied Builtin.Slice.sliceFields
  refine wpAny_bind (wpAny_bind (wpAny_field ho hd (x := .none) rfl ?_))
  refine wpAny_bind (wpAny_field ho hd (x := .int 1 v) rfl ?_)
  refine wpAny_bind (wpAny_field ho hd (x := .int (-1) u) rfl (wpAny_pure ?_))
  refine wpAny_bind (slicePart_ (.int (-1) u) ?_)
  show wpAny _ _ (if ((-1 : Int) == 0) = true then _ else _) _ _ s
  rw [if_neg (show ¬ ((-1 : Int) == 0) = true by decide)]
  exact wpAny_bind (slicePart_ .none (wpAny_bind (slicePart_ (.int 1 v) (wpAny_bind (wpAny_pure (wpAny_pure h))))))
theorem item_back4 {t sl : Addr} {a b c d : Value} {u v : Tok} {Q : Value → Shared → Prop} (ht : IsTup s.heap t #[a, b, c, d]) (hs : s.heap.IsSliceOf sl .none (.int 1 v) (.int (-1) u))
    (h : Q (.ref s.heap.objs.size) { s with heap := s.heap.push { cls := .type "tuple", data := .seq #[d, c] } }) : wpAny (model prog w) A (getItem (.ref t) (.ref sl)) Q E s := by
  obtain ⟨o, ho, hc, hd⟩ := id hs
  have ty : s.TypeIs (.ref sl) "slice" := ⟨o, ho, hc⟩
  have fit : sizeOk (.seq #[d, c]) := by show 2 ≤ sizeLine; exact sz (by decide)
  unfold getItem
  try with_reducible refine wpAny_holding ?_
  first | refine wpAny_bind (wpAny_pure ?_) | skip
  refine wpAny_bind (wpAny_sequenceKey ht.typeIs (by decide) (wpAny_bind (wpAny_callSpecial?_slot (name := Str.ofString "__getitem__") ht.typeIs PyProof.Rows.slot_tuple_getitem (wpAny_call_entry PyProof.Rows.slot_tuple_getitem ht.typeIs entry_tuple_getitem ?_ (args_tuple_getitem _ _)))))
  show wpAny _ _ (Builtin.Tuple.tupleItemsOf (.ref t) >>= _) _ _ s
  refine wpAny_bind (tupleItemsOf_ ht (wpAny_bind (wpAny_typeOf ty ?_)))
  rw [if_pos (by decide)]
  refine wpAny_bind (applied_back4 hs ?_)
  show wpAny _ _ (if (((3 : Int) == 0) && ((-1 : Int) == 1) && ((2 : Nat) == 4)) = true then _ else _) _ _ s
  rw [if_neg (by decide)]
  have e : ((List.range 2).filterMap fun (k : Nat) => (#[a, b, c, d] : Array Value)[((3 : Int) + (k : Int) * (-1)).toNat]?).toArray = #[d, c] := rfl
  rw [e]
  first
    | exact wpAny_bind (m := Builtin.Tuple.tupleExact _) (wpAny_newObj_type (wpAny_pure ⟨_, rfl, wpAny_pure h⟩) fit)
    | exact wpAny_bind (m := Builtin.Tuple.tupleExact _) (wpAny_newObj_type (wpAny_bind (wpAny_pure (wpAny_pure ⟨_, rfl, wpAny_pure h⟩))) fit)
    | exact wpAny_bind (wpAny_bind (m := Builtin.Tuple.tupleExact _) (wpAny_newObj_type (wpAny_pure (wpAny_pure ⟨_, rfl, wpAny_pure h⟩)) fit))
    | exact wpAny_bind (wpAny_bind (m := Builtin.Tuple.tupleExact _) (wpAny_newObj_type (wpAny_pure ⟨_, rfl, wpAny_pure h⟩) fit))
end
section
variable {X : Cx} {K1 : PySem.W.Frag}
def tRev4 (K : PySem.W.Frag) (te : TE) : TE := fun σ H Q => te σ H fun x H1 => ∃ a p q y z, x = .ref a ∧ SqT K H1 a [p, q, y, z] ∧ ∀ b, H1 b = none → Q (.ref b) (upd H1 b (.tup [z, y]))
theorem pe_rev4 {e : Expr} {te : TE} {k kk : Nat} {p0 p1 p2 p3 pos : Pos} (hK : X.K = K1) (he : PE X e te) : PE X (.Subscript e (.Slice none (some (.Constant (.int 1) kk p0)) (some (.UnaryOp .USub (.Constant (.int 1) k p1) p2)) p3) pos) (tRev4 K1 te) := by
  subst hK
  have step : PO X (some (.UnaryOp .USub (.Constant (.int 1) k p1) p2)) (tPart (tUn (rU fun i => .int (-i)) (tC (.int 1)))) := po_some (pe_un un_neg pe_int)
  have upper : PO X (some (.Constant (.int 1) kk p0)) (tPart (tC (.int 1))) := po_some pe_int
  constructor
  intro pins s σ H Q I h
  refine Subscript_ (thn (he.run pins s σ H _ I h) ?_)
  rintro v s1 ⟨x, H1, I1, r1, a, p, q, y, z, rfl, hx, hq⟩
  cases r1
  refine wpAny_Slice (thn (po_none.run pins s1 σ H1 (fun o G => o = none ∧ G = H1) I1 ⟨rfl, rfl⟩) ?_)
  rintro vl s2 ⟨o1, G1, I2, q1, rfl, rfl⟩
  refine thn (upper.run pins s2 σ G1 (fun o G => o = some 1 ∧ G = G1) I2 ⟨1, rfl, rfl, rfl⟩) ?_
  rintro vu s3 ⟨o2, G2, I3, q2, rfl, rfl⟩
  refine thn (step.run pins s3 σ G2 (fun o G => o = some (-1) ∧ G = G2) I3 ⟨1, rfl, -1, rfl, rfl, rfl⟩) ?_
  rintro vs s4 ⟨o3, G3, I4, q3, rfl, rfl⟩
  cases q1
  cases q2 with
  | int _ v =>
  cases q3 with
  | int _ u =>
    have I5 : Inv X pins σ G3 { s4 with heap := s4.heap.push { cls := .type "slice", data := .fields #[.none, .int 1 v, .int (-1) u] } } := I4.kept (t' := s4.toks) fun b ob q => Heap.get?_push_of_some _ q
    obtain ⟨its, r, ht, _⟩ := I5.tuple hx
    cases r with
    | @cons _ b1 _ _ ra r =>
      cases r with
      | @cons _ b2 _ _ rb r =>
        cases r with
        | @cons _ b3 _ _ rc r =>
          cases r with
          | @cons _ b4 _ _ rd r =>
            cases r
            show wpAny (model X.prog X.w) X.A (subscriptTail e (.Slice none (some (.Constant (.int 1) kk p0)) (some (.UnaryOp .USub (.Constant (.int 1) k p1) p2)) p3) (.ref a) (.ref s4.heap.objs.size)) (EP X pins σ Q) X.xe { s4 with heap := s4.heap.push { cls := .type "slice", data := .fields #[.none, .int 1 v, .int (-1) u] } }
            refine tail_any (ops := [.ref a, .ref s4.heap.objs.size]) ht.typeIs (PyProof.Rows.slot_tuple_getitem.lookup) ?_ (by with_unfolding_all rfl)
            refine item_back4 ht (Heap.IsSliceOf.new _ .none (.int 1 v) (.int (-1) u)) ?_
            refine ⟨.ref _, _, I5.laid (t' := s4.toks) (o := .tup [z, y]) (fun b ob q => Heap.get?_push_of_some _ q) (Nat.le_refl _) ⟨sz (by show 2 ≤ 1000; decide), [b4, b3], .cons rd (.cons rc .nil), IsTup.new _ _⟩, rfl, hq _ (I5.hok.fresh (Nat.le_refl _))⟩
end
end My

set_option Elab.async false
set_option linter.all false
set_option maxRecDepth 100000
set_option maxHeartbeats 4000000
namespace L20
open PySem PySem.Spec PyProof.Rows L2 My
section
variable {P : Program} {w : World} {K : PySem.W.Frag} {mg : Str → Option Value} {base : Heap}
def placeD : NestedKey → NestedKey
  | .tup [a, b, _, p, _] => .tup [a, b, place p]
  | _ => .none
def IsDue (k : NestedKey) : Prop := ∃ u, k = dueK u ∧ PgK u.pg
theorem ok_due_place (T : Tx K mg w) : FnOk P w K mg base CX0 3 T.f_due_place T.d_due_place ["due"] (spKey placeD IsDue) := by
  have G_page_place : FnOk P w K mg base CX0 2 T.f_page_place T.d_page_place ["page"] (spKey place PgK) := ok_place T
  refine T.F_due_place.ok S_due_place (fun vs H Q E h => ?_) (fun cdv A outer s H vs Q E hr h => ?_)
  · obtain ⟨x, k, rfl, _⟩ := h
    rfl
  · obtain ⟨x, k, rfl, hx, ⟨u, rfl, pk⟩, q⟩ := h
    refine ⟨_, (pss_one (ps_ret (pe_tup (pa_cons (pe_ix ix_tup (pv 0) pe_int (fun _ _ => rfl)) (pa_cons (pe_ix ix_tup (pv 0) pe_int (fun _ _ => rfl)) (pa_cons (pe_call G_page_place hr (by rfl) T.g_page_place T.F_page_place.kp T.b_page_place .nil pass0 (pa_cons (pe_ix ix_tup (pv 0) pe_int (fun _ _ => rfl)) pa_nil)) pa_nil)))))), ?_⟩
    obtain ⟨b, c, pv, rfl, hb, np, hc⟩ := due_at hx
    refine ⟨_, rfl, b, _, 0, .str u.ow, rfl, rfl, .inl (.inl hb), rfl, _, rfl, b, _, 1, .str u.od, rfl, rfl, .inl (.inl hb), rfl, _, rfl, b, _, 3, pv, rfl, rfl, .inl (.inl hb), rfl, pv, u.pg, rfl, np, pk, fun v H1 s1 n1 => ⟨sz (by show 3 ≤ 1000; decide), fun p np1 => ?_⟩⟩
    have s2 := same_upd (o := .tup [.str u.ow, .str u.od, v]) np1
    exact q _ _ (s1.trans s2) (.tup upd_same (.cons (.str _) (.cons (.str _) (.cons (n1.at (.same s2)) .nil))))
def leD (u v : Due) : Bool := leF placeD (.non, dueK u) (.non, dueK v)
def sortU (ds : List Due) : List Due := ds.mergeSort leD
theorem sort_dues (xs : List V) (ds : List Due) (l : xs.length = ds.length) : ((xs.zip (ds.map dueK)).mergeSort (leF placeD)).map Prod.snd = (sortU ds).map dueK := by
  rw [List.map_mergeSort (r := leF placeD) (f := Prod.snd) (l := xs.zip (ds.map dueK)) (s := fun a b => leF placeD (.non, a) (.non, b)) (fun a _ b _ => rfl)]
  rw [show (xs.zip (ds.map dueK)).map Prod.snd = ds.map dueK from List.map_snd_zip (by rw [List.length_map, l]; exact Nat.le_refl _)]
  exact (List.map_mergeSort (r := leD) (f := dueK) (l := ds) (s := fun a b => leF placeD (.non, a) (.non, b)) (fun a _ b _ => rfl)).symm
theorem nk_zip {H : Hp} : ∀ {xs : List V} {ks : List NestedKey}, NkAll H xs ks → ∀ b ∈ xs.zip ks, Nk H b.1 b.2
  | _, _, .nil, b, hb => by cases hb
  | _, _, .cons n h, b, hb => by
    rcases List.mem_cons.mp hb with rfl | hb
    · exact n
    · exact nk_zip h b hb
def spDues (T : Tx K mg w) : Sp := fun vs H Q _ => ∃ (bk lim : Addr) (t1 t2 day lo : Int) (xs : List V) (ks : List NestedKey), vs = [.ref bk, .ref lim, .int day] ∧ H bk = some (.tup xs) ∧ PgsAt H xs ks ∧ xs.length ≤ 100 ∧ H lim = some (.tup [.int t1, .int t2]) ∧ 0 ≤ t1 ∧ t1 ≤ 500 ∧ 0 ≤ t2 ∧ t2 ≤ 500 ∧ Tbs (tbs T) H ∧ 0 ≤ day ∧ day < 19999 ∧
  (∃ NM, Cap ks NM) ∧ LoD (ks.filter fun k => decide (dayK k ≤ day)) day lo ∧
  ∀ r ys H', Gk (tbs T) H H' → Frs H r → H' r = some (.lst ys) → NkAll H' ys ((sortU (runS t1 t2 (ks.filter fun k => decide (dayK k ≤ day)) lo (day + 1 - lo).toNat).ds).map dueK) → ys.length ≤ 1000 → Q (.ref r) H'
theorem ok_dues (T : Tx K mg w) (B : Tb T base) : FnOk P w K mg base CX0 8 T.f_dues T.d_dues ["book", "terms", "day"] (spDues T) := by
  have G_walked : FnOk P w K mg base CX0 7 T.f_walked T.d_walked ["book", "terms", "day"] (spWalked T) := ok_walked T B
  have K_due_place : FnOk P w K mg base CX0 3 T.f_due_place T.d_due_place ["due"] (spKey placeD IsDue) := ok_due_place T
  refine T.F_dues.ok S_dues (fun vs H Q E h => ?_) (fun cdv A0 outer sx H vs Q E hr h => ?_)
  · obtain ⟨bk, lim, t1, t2, day, lo, xs, ks, rfl, _⟩ := h
    rfl
  · obtain ⟨bk, lim, t1, t2, day, lo, xs, ks, rfl, hbk, pg, lx, hl, t10, t11, t20, t21, tb, d0, d1, npj, hlo, q⟩ := h
    refine ⟨_, (pss_one (ps_ret (pe_callBK (cr_sortKT K_due_place (hr.mono (by decide)) T.b_due_place) (by rfl) T.m_sorted (by decide +kernel) (pa_cons (pe_fld (pe_call G_walked hr (by rfl) T.g_walked T.F_walked.kp T.b_walked .nil pass0 (pa_cons (pv 0) (pa_cons (pv 1) (pa_cons (pv 2) pa_nil)))) rfl) pa_nil) (pk_cons (pe_glob (v := .ref T.f_due_place) (by rfl) T.g_due_place rfl) pk_nil)))), ?_⟩
    refine ⟨_, rfl, _, rfl, _, rfl, bk, lim, t1, t2, day, lo, xs, ks, rfl, hbk, pg, lx, hl, t10, t11, t20, t21, tb, d0, d1, npj, hlo, fun A H1 n W iv => ?_⟩
    generalize runS t1 t2 (ks.filter fun k => decide (dayK k ≤ day)) lo (day + 1 - lo).toNat = s at W iv q
    obtain ⟨us, u1, u2⟩ := W.du
    have lu : us.length = s.ds.length := by rw [u2.length, List.length_map]
    have isd : ∀ k ∈ s.ds.map dueK, IsDue k := fun k hk => by
      obtain ⟨u, hu, rfl⟩ := List.mem_map.mp hk
      exact ⟨u, rfl, (iv.du u hu).1⟩
    refine ⟨A.wa, _, _, _, _, rfl, W.ob, T.cl_Walk, T.na_Walk_dues, rfl, A.du, us, s.ds.map dueK, rfl, rfl, .inl (.inl u1), u2, isd, ?_, ?_, ?_, by have := iv.ds; omega, fun H2 p sm np np1 => ?_⟩
    · intro k hk
      obtain ⟨u, rfl, _⟩ := isd k hk
      exact ⟨_, _, rfl⟩
    · intro k hk k' hk'
      obtain ⟨u, rfl, p1⟩ := isd k hk
      obtain ⟨u', rfl, p2⟩ := isd k' hk'
      show ∃ c, ltK (.tup [.text u.ow, .text u.od, place u.pg]) (.tup [.text u'.ow, .text u'.od, place u'.pg]) = some c
      rw [ltK]
      exact lt_step (lt_text _ _) (lt_step (lt_text _ _) (lt_step (place_lt p1 p2) lt_nil))
    · intro k hk
      obtain ⟨u, rfl, p1⟩ := isd k hk
      have d8 := (place_depth p1).2
      obtain ⟨z, d, r, e, _⟩ := p1
      show (NestedKey.tup [.text u.ow, .text u.od, place u.pg]).depth ≤ 50
      rw [e] at d8 ⊢
      rw [place_eq]
      simp only [NestedKey.depthAll, NestedKey.depth] at d8 ⊢
      omega
    · have sm2 : Same H2 (upd H2 p (.lst (((us.zip (s.ds.map dueK)).mergeSort (leF placeD)).map Prod.fst))) := same_upd np
      refine q p _ _ (W.gk.trans (.of_same (sm.trans sm2) W.gk.2)) (fr_new W.gk np1) upd_same ?_ ?_
      · rw [← sort_dues us s.ds lu]
        refine nk_pairs fun b hb => ?_
        have hb := (List.mergeSort_perm _ _).mem_iff.mp hb
        exact (nk_zip (u2.at (.same (sm.trans sm2))) b hb)
      · rw [List.length_map, List.length_mergeSort, List.length_zip]
        have := iv.ds
        omega
theorem kp_none {H H1 : Hp} {t p : Addr} (k : Kp t H H1) (hp : H1 p = none) (n : p ≠ t) : H p = none := by
  cases e : H p with
  | none => rfl
  | some o =>
    have := k p o n e
    rw [hp] at this
    cases this
theorem join_sg : ∀ {ks : List Nat}, TL.tl (Str.join "" (ks.map sg)) = ks
  | [] => rfl
  | [k] => rfl
  | k :: l :: r => by
    show TL.tl (sg k ++ "" ++ Str.join "" ((l :: r).map sg)) = _
    rw [TL.tl_append, TL.tl_append, join_sg (ks := l :: r)]
    rfl
theorem erase_map {α β : Type} (f : α → β) : ∀ (l : List α) (k : Nat), (l.map f).eraseIdx k = (l.eraseIdx k).map f
  | [], _ => rfl
  | _ :: _, 0 => rfl
  | a :: l, k + 1 => by
    show f a :: (l.map f).eraseIdx k = f a :: (l.eraseIdx k).map f
    rw [erase_map f l k]
theorem erase_perm {α : Type} : ∀ {l : List α} {k : Nat} (h : k < l.length), (l[k] :: l.eraseIdx k).Perm l
  | _ :: _, 0, _ => List.Perm.refl _
  | a :: l, k + 1, h => (List.Perm.swap _ _ _).trans ((erase_perm (l := l) (k := k) (Nat.lt_of_succ_lt_succ h)).cons a)
/-- a name as the document has it -/
def Nm (z : Str) : Prop := 1 ≤ z.length ∧ z.length ≤ 8 ∧ ∀ c ∈ z.cps.toList, 97 ≤ c ∧ c ≤ 122
theorem Nm.plain {z : Str} (h : Nm z) : Plain z := ⟨by have := h.2.1; omega, fun c hc => by have := h.2.2 c hc; omega⟩
theorem letterX {x : Int} (h0 : 0 ≤ x) (h1 : x < 26) : atI (Str.ofString "abcdefghijklmnopqrstuvwxyz").cps.toList x = some (97 + x.toNat) := by
  obtain ⟨k, hk, rfl⟩ : ∃ k : Nat, k < 26 ∧ x = (k : Int) := ⟨x.toNat, by omega, by omega⟩
  have := (show ∀ k : Fin 26, ((Str.ofString "abcdefghijklmnopqrstuvwxyz").cps.toList[k.val]? == some (97 + k.val)) = true by decide +kernel) ⟨k, hk⟩
  exact atI_nat (by simpa using this)
theorem len_tl (z : Str) : z.length = (TL.tl z).length := (Array.length_toList (xs := z.cps)).symm
theorem cut_hd {z : Str} {k : Nat} : TL.tl (cutS z none (some (k : Int))) = (TL.tl z).take k := by
  unfold cutS
  show ((z.cps.toList.drop (HT.sIx z.length 0 none)).take (HT.sIx z.length z.length (some (k : Int)) - HT.sIx z.length 0 none)) = z.cps.toList.take k
  rw [HT.sIx_none, HT.sIx_nat, List.drop_zero, Nat.sub_zero, ← List.take_take]
  congr 1
  have : z.length = z.cps.toList.length := len_tl z
  rw [this, List.take_length]
theorem cut_rest {z : Str} {k : Nat} (h : k ≤ z.length) : TL.tl (cutS z (some (k : Int)) none) = (TL.tl z).drop k := by
  unfold cutS
  show ((z.cps.toList.drop (HT.sIx z.length 0 (some (k : Int)))).take (HT.sIx z.length z.length none - HT.sIx z.length 0 (some (k : Int)))) = z.cps.toList.drop k
  rw [HT.sIx_none, HT.sIx_nat, Nat.min_eq_left h]
  refine List.take_of_length_le ?_
  rw [List.length_drop, ← show z.length = z.cps.toList.length from len_tl z]
  exact Nat.le_refl _
/-- nine unlike names -/
structure Nine (zs : List Str) : Prop where
  len : zs.length = 9
  nm : ∀ z ∈ zs, Nm z
  nd : zs.Nodup
def lit0 : List Str := ["a", "ab", "abc", "b", "ba", "bab", "c", "ca", "zz"]
def lit1 : List Str := ["card", "cards", "visit", "house", "home", "part", "join", "mourn", "ahead"]
theorem nm_dec {z : Str} (h : (decide (1 ≤ z.length) && decide (z.length ≤ 8) && z.cps.toList.all fun c => decide (97 ≤ c) && decide (c ≤ 122)) = true) : Nm z := by
  rw [Bool.and_eq_true, Bool.and_eq_true, decide_eq_true_eq, decide_eq_true_eq] at h
  refine ⟨h.1.1, h.1.2, fun c hc => ?_⟩
  have := List.all_eq_true.mp h.2 c hc
  rw [Bool.and_eq_true, decide_eq_true_eq, decide_eq_true_eq] at this
  exact this
theorem nine_dec {zs : List Str} (h : (decide (zs.length = 9) && decide zs.Nodup && zs.all fun z => decide (1 ≤ z.length) && decide (z.length ≤ 8) && z.cps.toList.all fun c => decide (97 ≤ c) && decide (c ≤ 122)) = true) : Nine zs := by
  rw [Bool.and_eq_true, Bool.and_eq_true, decide_eq_true_eq, decide_eq_true_eq] at h
  exact ⟨h.1.1, fun z hz => nm_dec (List.all_eq_true.mp h.2 z hz), h.1.2⟩
theorem nine0 : Nine lit0 := nine_dec (by decide +kernel)
theorem nine1 : Nine lit1 := nine_dec (by decide +kernel)
/-- a word with another sign at a place -/
theorem swap_nm {wd x : Str} {at' : Nat} {s : Nat} (hw : Nm wd) (ha : at' < wd.length) (hs : 97 ≤ s ∧ s ≤ 122) (ex : TL.tl x = (TL.tl wd).take at' ++ [s] ++ (TL.tl wd).drop (at' + 1)) : Nm x ∧ (TL.tl x)[at']? = some s := by
  have lw := len_tl wd
  have e1 : ((TL.tl wd).take at').length = at' := by rw [List.length_take]; omega
  refine ⟨⟨?_, ?_, fun c hc => ?_⟩, ?_⟩
  · rw [len_tl, ex]
    simp only [List.length_append, List.length_take, List.length_drop, List.length_cons, List.length_nil]
    omega
  · rw [len_tl, ex]
    simp only [List.length_append, List.length_take, List.length_drop, List.length_cons, List.length_nil]
    have := hw.2.1
    omega
  · have hc : c ∈ TL.tl x := hc
    rw [ex] at hc
    rcases List.mem_append.mp hc with h | h
    · rcases List.mem_append.mp h with h | h
      · exact hw.2.2 c (List.mem_of_mem_take h)
      · rw [List.mem_singleton.mp h]; exact hs
    · exact hw.2.2 c (List.mem_of_mem_drop h)
  · rw [ex, List.append_assoc, List.getElem?_append_right (by omega), e1, Nat.sub_self]
    rfl
def spNine : Sp := fun vs H Q _ => ∃ (t c : Addr) (n : Nat), vs = [.ref t] ∧ FeedC H t c n ∧ n < 900000 ∧
  ∀ (p : Addr) (zs : List Str) (H' : Hp), H' p = some (.lst (zs.map V.str)) → Nine zs → FeedC H' t c (n + 30) → Kp t H H' → H p = none → Q (.ref p) H'
theorem ok_nine (T : Tx K mg w) : FnOk P w K mg base CX0 2 T.f_w_names T.d_w_names ["_law_feed_here"] (spNine) := by
  have G_w_draw : FnOk P w K mg base CX0 1 T.f_w_draw T.d_w_draw ["_law_feed_here", "_law_many"] (spDraw) := ok_draw T
  refine T.F_w_names.ok S_w_names (fun vs H Q E h => ?_) (fun cdv A outer s H vs Q E hr h => ?_)
  · obtain ⟨t, c, n, rfl, _⟩ := h
    rfl
  · obtain ⟨t, c, n, rfl, hT, hn, q⟩ := h
    refine ⟨_, (pss_cons (ps_set (i := 1) S_w_names.nd rfl (.inl rfl) (pe_call G_w_draw hr (by rfl) T.g_w_draw T.F_w_draw.kp T.b_w_draw .nil pass0 (pa_cons (pv 0) (pa_cons pe_int pa_nil))))
      (pss_cons (ps_set (i := 2) S_w_names.nd rfl (.inr rfl) (pe_lst (pa_cons pe_str (pa_cons pe_str (pa_cons pe_str (pa_cons pe_str (pa_cons pe_str (pa_cons pe_str (pa_cons pe_str (pa_cons pe_str (pa_cons pe_str pa_nil)))))))))))
      (pss_cons (ps_if (pt_cmpR op_eq (pv 1) pe_int (nomark _)) (pss_one (ps_set (i := 2) S_w_names.nd rfl (.inr rfl) (pe_lst (pa_cons pe_str (pa_cons pe_str (pa_cons pe_str (pa_cons pe_str (pa_cons pe_str (pa_cons pe_str (pa_cons pe_str (pa_cons pe_str (pa_cons pe_str pa_nil)))))))))))) pss_nil)
      (pss_cons (ps_if (pt_cmpR op_eq (pv 1) pe_int (nomark _)) (pss_cons (ps_set (i := 3) S_w_names.nd rfl (.inr rfl) pe_str)
      (pss_cons (ps_par (i := 4) (j := 5) (by rfl) S_w_names.nd rfl rfl (by decide) rfl rfl (pa_cons (pe_op op_add pe_int (pe_call G_w_draw hr (by rfl) T.g_w_draw T.F_w_draw.kp T.b_w_draw .nil pass0 (pa_cons (pv 0) (pa_cons pe_int pa_nil)))) (pa_cons (pe_call G_w_draw hr (by rfl) T.g_w_draw T.F_w_draw.kp T.b_w_draw .nil pass0 (pa_cons (pv 0) (pa_cons pe_int pa_nil))) pa_nil)) (by rfl))
      (pss_cons (ps_set (i := 6) S_w_names.nd rfl (.inl rfl) (pe_call G_w_draw hr (by rfl) T.g_w_draw T.F_w_draw.kp T.b_w_draw .nil pass0 (pa_cons (pv 0) (pa_cons (pv 4) pa_nil))))
      (pss_cons (ps_set (i := 8) S_w_names.nd rfl (.inl rfl) (pe_join pe_str (pe_lc (own := [("_law_k", 7)]) (g := gName 7) (tt := tYes) (by rfl) S_w_names.nd (pi_range1 (by rfl) T.m_range (pa_cons (pv 4) pa_nil)) (blkOk_by (own := [("_law_k", 7)]) (N := N_w_names) (sc := defScope s_w_names) (by decide +kernel)) (fun _ _ _ _ _ => (pg_name (i := 7) S_w_names.nd rfl (.inl rfl))) (fun _ _ _ _ _ => pts_nil) (fun _ _ _ _ _ => (pe_ix ix_str (pv 3) (pe_call G_w_draw hr (by rfl) T.g_w_draw T.F_w_draw.kp T.b_w_draw .nil pass0 (pa_cons (pv 0) (pa_cons pe_int pa_nil))) (fun _ _ => rfl))))))
      (pss_cons (ps_set (i := 2) S_w_names.nd rfl (.inr rfl) (pe_lst pa_nil))
      (pss_one (ps_for PassesOwn.never rfl (pi_range1 (by rfl) T.m_range (pa_cons pe_int pa_nil)) (pg_name (i := 7) S_w_names.nd rfl (.inl rfl))
      (pss_cons (ps_set (i := 9) S_w_names.nd rfl (.inl rfl) (pe_ix ix_str (pv 3) (pe_op op_mod (pe_op op_add (pv 5) (pe_op op_mul pe_int (pv 7))) pe_int) (fun _ _ => rfl)))
      (pss_one (ps_expr (pe_bm PySem.F.plainAttrs_list PySem.F.slot_list_append PySem.F.type_list_append mt_append (pv 2) (pa_cons (pe_op op_add_str (pe_op op_add_str (pe_slice sl_str (pv 8) po_none (po_some (pv 6))) (pv 9)) (pe_slice sl_str (pv 8) (po_some (pe_op op_add (pv 6) pe_int)) po_none)) pa_nil)))))))))))) pss_nil)
      (pss_one (ps_ret (pe_lc (own := [("_law_k", 7)]) (g := gName 7) (tt := tYes) (by rfl) S_w_names.nd (pi_range1 (by rfl) T.m_range (pa_cons pe_int pa_nil)) (blkOk_by (own := [("_law_k", 7)]) (N := N_w_names) (sc := defScope s_w_names) (by decide +kernel)) (fun _ _ _ _ _ => (pg_name (i := 7) S_w_names.nd rfl (.inl rfl))) (fun _ _ _ _ _ => pts_nil) (fun _ _ _ _ _ => (pe_bmK (K1 := K) rfl PySem.F.plainAttrs_list PySem.F.slot_list_pop PySem.F.type_list_pop mt_popAt (pv 2) (pa_cons (pe_call G_w_draw hr (by rfl) T.g_w_draw T.F_w_draw.kp T.b_w_draw .nil pass0 (pa_cons (pv 0) (pa_cons (pe_callB (r := rLenK K) call_lenK (by rfl) T.m_len PySem.boot_len (pa_cons (pv 2) pa_nil)) pa_nil))) pa_nil)))))))))), ?_⟩
    refine ⟨_, rfl, t, 3, n, c, rfl, by decide, by decide, hT, by omega, fun way H1 w0 w1 hT1 hK1 => ?_⟩
    refine ⟨sz (by show 9 ≤ 1000; decide), fun L0 n0 => ?_⟩
    have s0 := same_upd (o := .lst (lit0.map V.str)) n0
    have h0 := upd_same (H := H1) (a := L0) (o := .lst (lit0.map V.str))
    have hT2 := hT1.same s0
    have hK2 : Kp t H (upd H1 L0 (.lst (lit0.map V.str))) := hK1.new n0
    have f0 : H L0 = none := kp_none hK1 n0 (hT1.ne n0).1
    show _
    change (fun x H1 => _) _ (upd H1 L0 (.lst (lit0.map V.str)))
    generalize upd H1 L0 (.lst (lit0.map V.str)) = H2 at s0 h0 hT2 hK2 ⊢
    refine ⟨_, rfl, rfl, _, rfl, ite2 (fun e1 => ?_) (fun e1 => ?_)⟩
    case' refine_1 =>
      refine ⟨sz (by show 9 ≤ 1000; decide), fun L1 n1 => ?_⟩
      have s1 := same_upd (o := .lst (lit1.map V.str)) n1
      have h1 := upd_same (H := H2) (a := L1) (o := .lst (lit1.map V.str))
      have hT3 := hT2.same s1
      have hK3 : Kp t H (upd H2 L1 (.lst (lit1.map V.str))) := hK2.new n1
      have f1 : H L1 = none := kp_none hK2 n1 (hT2.ne n1).1
      change (fun x H1 => _) _ (upd H2 L1 (.lst (lit1.map V.str)))
      generalize upd H2 L1 (.lst (lit1.map V.str)) = H3 at s1 h1 hT3 hK3 ⊢
      have c1 : way = 1 := V.int.inj (of_decide_eq_true e1)
      refine ⟨_, rfl, rfl, _, rfl, ite2 (fun e2 => absurd (V.int.inj (of_decide_eq_true e2)) (by omega)) (fun _ => ?_)⟩
      obtain ⟨zs, ez⟩ : ∃ zs, zs = lit1 := ⟨_, rfl⟩
      have ni : Nine zs := ez ▸ nine1
      rw [← ez] at h1
      have hT4 := hT3.mono (show n + 1 ≤ n + 21 by omega)
      clear e1 hT3
    case' refine_2 =>
      refine ⟨_, rfl, rfl, _, rfl, ite2 (fun e2 => ?W2) (fun _ => ?W0)⟩
    case' W0 =>
      obtain ⟨zs, ez⟩ : ∃ zs, zs = lit0 := ⟨_, rfl⟩
      have ni : Nine zs := ez ▸ nine0
      rw [← ez] at h0
      have hT4 := hT2.mono (show n + 1 ≤ n + 21 by omega)
      clear e1 hT2
    case' W2 =>
      refine ⟨_, rfl, t, 8, n + 1, c, rfl, by decide, by decide, hT2, by omega, fun sz0 H3 v0 v1 hT3 hK3 => ⟨_, _, rfl, rfl, _, rfl, t, 26, n + 2, c, rfl, by decide, by decide, hT3, by omega, fun fi H4 fi0 fi1 hT4 hK4 => ?_⟩⟩
      refine ⟨_, _, rfl, ?_⟩
      refine ⟨_, rfl, _, rfl, t, 1 + sz0, n + 3, c, rfl, by omega, by omega, hT4, by omega, fun at0 H5 a0 a1 hT5 hK5 => ?_⟩
      have hK6 : Kp t H H5 := ((hK2.trans hK3).trans hK4).trans hK5
      clear hT2 hT3 hT4 hK3 hK4 hK5
      refine ⟨⟨_, rfl⟩, _, rfl, 1 + sz0, rfl, by omega, by omega, fun D nD => ?_⟩
      refine lc_range (lo := 0) (n := (1 + sz0).toNat) (fun i Hx => ∃ ks : List Nat, Hx D = some (.lst ((ks.map sg).map V.str)) ∧ ks.length = i ∧ (∀ k ∈ ks, 97 ≤ k ∧ k ≤ 122) ∧ FeedC Hx t c (n + 4 + i) ∧ Kp t H Hx) ⟨[], upd_same, rfl, (fun k hk => by cases hk), hT5.new nD, hK6.new nD⟩ ?_ ?_
      · rintro i Hx hi ⟨ks, hD, hl, hb, hTx, hKx⟩
        obtain ⟨f1, f2⟩ := hT5.ne nD
        refine ⟨rfl, tYesT ⟨_, rfl, _, rfl, t, 26, n + 4 + i, c, rfl, by decide, by decide, hTx, by omega, fun v H6 u0 u1 hT6 hK7 => ?_⟩⟩
        have hD6 := hK7 _ _ f1 hD
        refine ⟨_, _, _, rfl, rfl, sz (by decide +kernel), letterX u0 u1, _, hD6, small1000 (by rw [List.length_map, List.length_map]; omega), ks ++ [97 + v.toNat], ?_, by rw [List.length_append, hl]; rfl, fun k hk2 => ?_, hT6.updO f1 f2, kp_fresh (kp_none hK6 nD f1) (hKx.trans hK7)⟩
        · rw [upd_same, List.map_append, List.map_append]
          rfl
        · rcases List.mem_append.mp hk2 with h | h
          · exact hb k h
          · rw [List.mem_singleton.mp h]; omega
      · rintro Hx ⟨ks, hD, hl, hb, hTx, hKx⟩
        refine ⟨_, D, ks.map sg, rfl, rfl, .inl (.inl (.inl hD)), ?_, ?_⟩
        · have : ∀ l : List Nat, ((l.map sg).map (·.length)).sum = l.length := fun l => by
            induction l with
            | nil => rfl
            | cons a r ih =>
              show 1 + ((r.map sg).map (·.length)).sum = r.length + 1
              omega
          rw [this, List.length_map]
          show _ + _ * 0 ≤ _
          omega
        have ej : TL.tl (Txt.join "" (ks.map sg)) = ks := by
          rw [TL.join_eq]
          exact join_sg
        generalize Txt.join "" (ks.map sg) = wd at ej
        have lw : wd.length = ks.length := by rw [len_tl, ej]
        have hw : Nm wd := ⟨by omega, by omega, fun x hx => by
          have hx : x ∈ TL.tl wd := hx
          rw [ej] at hx
          exact hb x hx⟩
        obtain ⟨an, rfl⟩ : ∃ an : Nat, at0 = an := ⟨at0.toNat, by omega⟩
        refine ⟨sz (by show 0 ≤ 1000; decide), fun L2 n2 => ?_⟩
        obtain ⟨g1, g2⟩ := hTx.ne n2
        have fL := kp_none hKx n2 g1
        refine ⟨9, rfl, by decide, by decide, ?_⟩
        refine for_range (lo := 0) (n := 9) (fun i σ Hy => (∃ y7 y9, σ = [some (.ref t), some (.int way), some (.ref L2), some (.str "abcdefghijklmnopqrstuvwxyz"), some (.int (1 + sz0)), some (.int fi), some (.int (an : Int)), y7, some (.str wd), y9]) ∧ ∃ zs : List Str, Hy L2 = some (.lst (zs.map V.str)) ∧ zs.length = i ∧ (∀ z ∈ zs, Nm z) ∧ zs.Nodup ∧ (∀ z ∈ zs, ∃ j : Nat, j < i ∧ (TL.tl z)[an]? = some (97 + ((fi + 5 * (j : Int)) % 26).toNat)) ∧ FeedC Hy t c (n + 21) ∧ Kp t H Hy) ⟨⟨_, _, rfl⟩, [], upd_same, rfl, (fun z hz => by cases hz), List.nodup_nil, (fun z hz => by cases hz), (hTx.new n2).mono (by omega), hKx.new n2⟩ ?_ ?_
        · rintro i σ Hy hi ⟨⟨y7, y9, rfl⟩, zs, hL, lz, nz, nd, sg', hTy, hKy⟩
          have m0 := Int.emod_nonneg (fi + 5 * (0 + (i : Int))) (show (26 : Int) ≠ 0 by decide)
          have m1 := Int.emod_lt_of_pos (fi + 5 * (0 + (i : Int))) (show (0 : Int) < 26 by decide)
          have c1 := cutS_length wd none (some (an : Int))
          have c2 := cutS_length wd (some ((an : Int) + 1)) none
          have w8 := hw.2.1
          refine ⟨_, rfl, _, rfl, _, rfl, _, _, rfl, rfl, .inl ⟨by decide, by decide⟩, _, _, rfl, rfl, _, _, rfl, rfl, (show (0 : Int) < 26 by decide), _, _, _, rfl, rfl, sz (by decide +kernel), letterX m0 m1, ?_⟩
          refine ⟨_, rfl, .inl ⟨rfl, _, .inl (.inl hL)⟩, ?_⟩
          refine ⟨_, rfl, _, rfl, (an : Int), rfl, wd, rfl, sz (by omega), _, rfl, _, _, rfl, rfl, sz (by show _ + 1 ≤ _; omega), ?_⟩
          refine ⟨_, rfl, _, rfl, _, _, rfl, rfl, _, rfl, wd, rfl, sz (by omega), _, _, rfl, rfl, ?_, ?_⟩
          · refine sz ?_
            show (cutS wd none (some (an : Int)) ++ sg _).length + _ ≤ _
            rw [PySem.Str.length_append]
            show _ + 1 + _ ≤ _
            omega
          obtain ⟨x, ex⟩ : ∃ x, x = cutS wd none (some (an : Int)) ++ sg (97 + ((fi + 5 * (0 + (i : Int))) % 26).toNat) ++ cutS wd (some ((an : Int) + 1)) none := ⟨_, rfl⟩
          have et : TL.tl x = (TL.tl wd).take an ++ [97 + ((fi + 5 * (0 + (i : Int))) % 26).toNat] ++ (TL.tl wd).drop (an + 1) := by
            rw [ex, TL.tl_append, TL.tl_append, cut_hd, show ((an : Int) + 1) = ((an + 1 : Nat) : Int) by omega, cut_rest (by omega)]
            rfl
          obtain ⟨nx, sx⟩ := swap_nm hw (by omega) (s := 97 + ((fi + 5 * (0 + (i : Int))) % 26).toNat) (by omega) et
          refine ⟨L2, zs.map V.str, .str x, rfl, by rw [ex]; rfl, hL, small1000 (by rw [List.length_map]; omega), ?_⟩
          refine ⟨⟨_, _, rfl⟩, zs ++ [x], by rw [upd_same, List.map_append]; rfl, by rw [List.length_append, lz]; rfl, fun z hz => ?_, ?_, fun z hz => ?_, hTy.updO g1 g2, kp_fresh fL hKy⟩
          · rcases List.mem_append.mp hz with h | h
            · exact nz z h
            · rw [List.mem_singleton.mp h]; exact nx
          · refine List.nodup_append.mpr ⟨nd, List.nodup_cons.mpr ⟨(fun e => by cases e), List.nodup_nil⟩, fun z hz z' hz' e => ?_⟩
            rw [List.mem_singleton.mp hz'] at e
            subst e
            obtain ⟨j, hj, e2⟩ := sg' z hz
            rw [sx] at e2
            have e3 := Option.some.inj e2
            omega
          · rcases List.mem_append.mp hz with h | h
            · obtain ⟨j, hj, e⟩ := sg' z h
              exact ⟨j, by omega, e⟩
            · rw [List.mem_singleton.mp h]
              refine ⟨i, by omega, ?_⟩
              rw [sx, Int.zero_add]
        · rintro σ Hy ⟨⟨y7, y9, rfl⟩, zs, hL, lz, nz, nd, sg', hTy, hKy⟩
          have ni : Nine zs := ⟨lz, nz, nd⟩
          have q12 : L2 ≠ t ∧ L2 ≠ c := ⟨g1, g2⟩
          refine ⟨9, rfl, by decide, by decide, fun D nD => ?_⟩
          obtain ⟨q1, q2⟩ := q12
          obtain ⟨d1, d2⟩ := hTy.ne nD
          have fD := kp_none hKy nD d1
          have dp : L2 ≠ D := ne_of_none hL nD
          refine lc_range (lo := 0) (n := 9) (fun i Hz => ∃ ws ds : List Str, Hz L2 = some (.lst (ws.map V.str)) ∧ Hz D = some (.lst (ds.map V.str)) ∧ ws.length + i = 9 ∧ ds.length = i ∧ (∀ z ∈ ws, Nm z) ∧ (∀ z ∈ ds, Nm z) ∧ (ws ++ ds).Nodup ∧ FeedC Hz t c (n + 21 + i) ∧ Kp t H Hz) ⟨zs, [], same_upd nD _ _ hL, upd_same, ni.len, rfl, ni.nm, (fun z hz => by cases hz), by rw [List.append_nil]; exact ni.nd, hTy.new nD, hKy.new nD⟩ ?_ ?_
          · rintro i Hz hi ⟨ws, ds, j1, j2, lw, ld, wn, dn, nd, hTz, hKz⟩
            refine ⟨rfl, tYesT ⟨_, rfl, .inl ⟨rfl, _, .inl (.inl j1)⟩, _, rfl, _, rfl, L2, _, rfl, .inl (.inl (.inl j1)), t, _, n + 21 + i, c, rfl, by rw [List.length_map]; omega, by rw [List.length_map]; omega, hTz, by omega, fun v Hv u0 u1 hTv hKv => ?_⟩⟩
            rw [List.length_map] at u1
            have g1 := hKv _ _ q1 j1
            have g2 := hKv _ _ d1 j2
            have vw : v.toNat < ws.length := by omega
            have gw : (ws.map V.str)[v.toNat]? = some (.str ws[v.toNat]) := by rw [List.getElem?_map, List.getElem?_eq_getElem vw]; rfl
            refine ⟨L2, _, v, v.toNat, .str ws[v.toNat], rfl, rfl, g1, by omega, by omega, ?_, gw, ?_⟩
            · rw [List.length_map]
              exact PyProof.Rows.seqIndex_at u0 (by omega)
            have k2 : upd Hv L2 (.lst ((ws.map V.str).eraseIdx v.toNat)) D = _ := (upd_ne dp.symm).trans g2
            refine ⟨_, k2, small1000 (by rw [List.length_map]; omega), ws.eraseIdx v.toNat, ds ++ [ws[v.toNat]], ?_, by rw [upd_same, List.map_append]; rfl, by rw [List.length_eraseIdx_of_lt vw]; omega, by rw [List.length_append, ld]; rfl, fun z hz => wn z (List.mem_of_mem_eraseIdx hz), fun z hz => ?_, ?_, (hTv.updO q1 q2).updO d1 d2, kp_fresh fD (kp_fresh fL (hKz.trans hKv))⟩
            · rw [upd_ne dp, upd_same, erase_map]
            · rcases List.mem_append.mp hz with h | h
              · exact dn z h
              · rw [List.mem_singleton.mp h]; exact wn _ (List.getElem_mem vw)
            · refine (List.Perm.nodup_iff ?_).mp nd
              refine ((erase_perm vw).symm.append_right ds).trans ?_
              rw [← List.append_assoc]
              exact (List.perm_append_singleton _ _).symm
          · rintro Hz ⟨ws, ds, j1, j2, lw, ld, wn, dn, nd, hTz, hKz⟩
            exact q D ds Hz j2 ⟨ld, dn, (List.nodup_append.mp nd).2.1⟩ hTz hKz fD
    · have q12 : L0 ≠ t ∧ L0 ≠ c := hT1.ne n0
      refine ⟨9, rfl, by decide, by decide, fun D nD => ?_⟩
      obtain ⟨q1, q2⟩ := q12
      obtain ⟨d1, d2⟩ := hT4.ne nD
      have fD := kp_none hK2 nD d1
      have dp : L0 ≠ D := ne_of_none h0 nD
      refine lc_range (lo := 0) (n := 9) (fun i Hz => ∃ ws ds : List Str, Hz L0 = some (.lst (ws.map V.str)) ∧ Hz D = some (.lst (ds.map V.str)) ∧ ws.length + i = 9 ∧ ds.length = i ∧ (∀ z ∈ ws, Nm z) ∧ (∀ z ∈ ds, Nm z) ∧ (ws ++ ds).Nodup ∧ FeedC Hz t c (n + 21 + i) ∧ Kp t H Hz) ⟨zs, [], same_upd nD _ _ h0, upd_same, ni.len, rfl, ni.nm, (fun z hz => by cases hz), by rw [List.append_nil]; exact ni.nd, hT4.new nD, hK2.new nD⟩ ?_ ?_
      · rintro i Hz hi ⟨ws, ds, j1, j2, lw, ld, wn, dn, nd, hTz, hKz⟩
        refine ⟨rfl, tYesT ⟨_, rfl, .inl ⟨rfl, _, .inl (.inl j1)⟩, _, rfl, _, rfl, L0, _, rfl, .inl (.inl (.inl j1)), t, _, n + 21 + i, c, rfl, by rw [List.length_map]; omega, by rw [List.length_map]; omega, hTz, by omega, fun v Hv u0 u1 hTv hKv => ?_⟩⟩
        rw [List.length_map] at u1
        have g1 := hKv _ _ q1 j1
        have g2 := hKv _ _ d1 j2
        have vw : v.toNat < ws.length := by omega
        have gw : (ws.map V.str)[v.toNat]? = some (.str ws[v.toNat]) := by rw [List.getElem?_map, List.getElem?_eq_getElem vw]; rfl
        refine ⟨L0, _, v, v.toNat, .str ws[v.toNat], rfl, rfl, g1, by omega, by omega, ?_, gw, ?_⟩
        · rw [List.length_map]
          exact PyProof.Rows.seqIndex_at u0 (by omega)
        have k2 : upd Hv L0 (.lst ((ws.map V.str).eraseIdx v.toNat)) D = _ := (upd_ne dp.symm).trans g2
        refine ⟨_, k2, small1000 (by rw [List.length_map]; omega), ws.eraseIdx v.toNat, ds ++ [ws[v.toNat]], ?_, by rw [upd_same, List.map_append]; rfl, by rw [List.length_eraseIdx_of_lt vw]; omega, by rw [List.length_append, ld]; rfl, fun z hz => wn z (List.mem_of_mem_eraseIdx hz), fun z hz => ?_, ?_, (hTv.updO q1 q2).updO d1 d2, kp_fresh fD (kp_fresh f0 (hKz.trans hKv))⟩
        · rw [upd_ne dp, upd_same, erase_map]
        · rcases List.mem_append.mp hz with h | h
          · exact dn z h
          · rw [List.mem_singleton.mp h]; exact wn _ (List.getElem_mem vw)
        · refine (List.Perm.nodup_iff ?_).mp nd
          refine ((erase_perm vw).symm.append_right ds).trans ?_
          rw [← List.append_assoc]
          exact (List.perm_append_singleton _ _).symm
      · rintro Hz ⟨ws, ds, j1, j2, lw, ld, wn, dn, nd, hTz, hKz⟩
        exact q D ds Hz j2 ⟨ld, dn, (List.nodup_append.mp nd).2.1⟩ hTz hKz fD
    · have q12 : L1 ≠ t ∧ L1 ≠ c := hT2.ne n1
      refine ⟨9, rfl, by decide, by decide, fun D nD => ?_⟩
      obtain ⟨q1, q2⟩ := q12
      obtain ⟨d1, d2⟩ := hT4.ne nD
      have fD := kp_none hK3 nD d1
      have dp : L1 ≠ D := ne_of_none h1 nD
      refine lc_range (lo := 0) (n := 9) (fun i Hz => ∃ ws ds : List Str, Hz L1 = some (.lst (ws.map V.str)) ∧ Hz D = some (.lst (ds.map V.str)) ∧ ws.length + i = 9 ∧ ds.length = i ∧ (∀ z ∈ ws, Nm z) ∧ (∀ z ∈ ds, Nm z) ∧ (ws ++ ds).Nodup ∧ FeedC Hz t c (n + 21 + i) ∧ Kp t H Hz) ⟨zs, [], same_upd nD _ _ h1, upd_same, ni.len, rfl, ni.nm, (fun z hz => by cases hz), by rw [List.append_nil]; exact ni.nd, hT4.new nD, hK3.new nD⟩ ?_ ?_
      · rintro i Hz hi ⟨ws, ds, j1, j2, lw, ld, wn, dn, nd, hTz, hKz⟩
        refine ⟨rfl, tYesT ⟨_, rfl, .inl ⟨rfl, _, .inl (.inl j1)⟩, _, rfl, _, rfl, L1, _, rfl, .inl (.inl (.inl j1)), t, _, n + 21 + i, c, rfl, by rw [List.length_map]; omega, by rw [List.length_map]; omega, hTz, by omega, fun v Hv u0 u1 hTv hKv => ?_⟩⟩
        rw [List.length_map] at u1
        have g1 := hKv _ _ q1 j1
        have g2 := hKv _ _ d1 j2
        have vw : v.toNat < ws.length := by omega
        have gw : (ws.map V.str)[v.toNat]? = some (.str ws[v.toNat]) := by rw [List.getElem?_map, List.getElem?_eq_getElem vw]; rfl
        refine ⟨L1, _, v, v.toNat, .str ws[v.toNat], rfl, rfl, g1, by omega, by omega, ?_, gw, ?_⟩
        · rw [List.length_map]
          exact PyProof.Rows.seqIndex_at u0 (by omega)
        have k2 : upd Hv L1 (.lst ((ws.map V.str).eraseIdx v.toNat)) D = _ := (upd_ne dp.symm).trans g2
        refine ⟨_, k2, small1000 (by rw [List.length_map]; omega), ws.eraseIdx v.toNat, ds ++ [ws[v.toNat]], ?_, by rw [upd_same, List.map_append]; rfl, by rw [List.length_eraseIdx_of_lt vw]; omega, by rw [List.length_append, ld]; rfl, fun z hz => wn z (List.mem_of_mem_eraseIdx hz), fun z hz => ?_, ?_, (hTv.updO q1 q2).updO d1 d2, kp_fresh fD (kp_fresh f1 (hKz.trans hKv))⟩
        · rw [upd_ne dp, upd_same, erase_map]
        · rcases List.mem_append.mp hz with h | h
          · exact dn z h
          · rw [List.mem_singleton.mp h]; exact wn _ (List.getElem_mem vw)
        · refine (List.Perm.nodup_iff ?_).mp nd
          refine ((erase_perm vw).symm.append_right ds).trans ?_
          rw [← List.append_assoc]
          exact (List.perm_append_singleton _ _).symm
      · rintro Hz ⟨ws, ds, j1, j2, lw, ld, wn, dn, nd, hTz, hKz⟩
        exact q D ds Hz j2 ⟨ld, dn, (List.nodup_append.mp nd).2.1⟩ hTz hKz fD
theorem seq_asg {te : TE} {g : TG} {u : TS} {D} {σ : L2.St} {H : Hp} (h : te σ H fun x H1 => g x σ H1 (u D)) : tSeq (tAsg te g) u D σ H := h
theorem name_seq {i : Nat} {v : V} {σ σ' : L2.St} {H : Hp} {te : TE} {g : TG} {u : TS} {D : Ends} {rt : VK} {bk ct : L2.St → Hp → Prop} (e : σ.set i (some v) = σ') (h : te σ' H fun x H1 => g x σ' H1 (u D)) : gName i v σ H (Ends.mk (tSeq (tAsg te g) u D) rt bk ct).nx := by
  unfold gName
  rw [e]
  exact h
theorem name_in {i : Nat} {v : V} {σ : L2.St} {H : Hp} {Q : L2.St → Hp → Prop} (h : Q (σ.set i (some v)) H) : gName i v σ H Q := h
theorem and_val {ta tb : TE} {σ : L2.St} {H : Hp} {Q : VK} {c m : Bool} (ha : ∀ Q' : VK, Q' (.bl c) H → ta σ H Q') (hb : ∀ Q' : VK, Q' (.bl m) H → tb σ H Q') (q : Q (.bl (c && m)) H) : tAndV ta tb σ H Q := by
  refine ha _ ⟨c, rfl, ?_⟩
  cases c with
  | true => rw [if_pos rfl]; exact hb _ q
  | false => rw [if_neg (by decide)]; exact q
theorem cut_tk {xs : List V} {k : Nat} : cutV xs none (some (k : Int)) = xs.take k := by
  unfold cutV
  rw [HT.sIx_none, HT.sIx_nat, List.drop_zero, Nat.sub_zero, ← List.take_take, List.take_length]
theorem FeedC.gk {Ts : List Addr} {H H' : Hp} {t c : Addr} {n : Nat} (h : FeedC H t c n) (g : Gk Ts H H') : FeedC H' t c n := by
  obtain ⟨ns, sp, re, ca, e1, e2, r⟩ := h
  exact ⟨ns, sp, re, ca, g.1 _ _ e1 (fun ps z => by cases z), g.1 _ _ e2 (fun ps z => by cases z), r⟩
theorem tb_kp {Ts : List Addr} {t : Addr} {H H' : Hp} (tb : Tbs Ts H) (k : Kp t H H') (nt : H t = none) : Tbs Ts H' := fun b hb => by
  obtain ⟨ps, e, q⟩ := tb b hb
  exact ⟨ps, k _ _ (fun z => by rw [z, nt] at e; cases e) e, q⟩
theorem at_ks {x y : Str} (k : Bool) : atI [V.str x, V.str y] (if k = true then 1 else 0) = some (.str (if k = true then y else x)) := by cases k <;> rfl
theorem at_ki {x y : Int} (k : Bool) : atI [V.int x, V.int y] (if k = true then 1 else 0) = some (.int (if k = true then y else x)) := by cases k <;> rfl
theorem at3i {x y z v : Int} (h0 : 0 ≤ v) (h1 : v < 3) : atI [V.int x, V.int y, V.int z] v = some (.int (if v = 0 then x else if v = 1 then y else z)) := by
  obtain rfl | rfl | rfl : v = 0 ∨ v = 1 ∨ v = 2 := by omega
  · rfl
  · rfl
  · rfl
theorem cut_two {x y : V} {r : List V} : cutV (x :: y :: r) none (some 2) = [x, y] := by
  unfold cutV
  rw [HT.sIx_none, show HT.sIx (x :: y :: r).length (x :: y :: r).length (some 2) = min 2 (x :: y :: r).length from HT.sIx_nat _ _ 2]
  rfl
theorem tb_kp' {Ts : List Addr} {t c : Addr} {n : Nat} {H H' : Hp} (tb : Tbs Ts H) (h : FeedC H t c n) (k : Kp t H H') : Tbs Ts H' := fun b hb => by
  obtain ⟨ps, e, q⟩ := tb b hb
  obtain ⟨ns, sp, re, ca, e1, _⟩ := h
  exact ⟨ps, k _ _ (fun z => by rw [z, e1] at e; cases e) e, q⟩
theorem not_yes {b : Bool} (e : (!b) = true) : b = false := by cases b <;> simp_all
theorem not_no {b : Bool} (e : ¬ (!b) = true) : b = true := by cases b <;> simp_all
/-- two ways made one: what holds behind either -/
theorem te_join {te : TE} {σ : L2.St} {H : Hp} {Q : VK} (R : V → Hp → Prop) (h : ∀ Q' : VK, (∀ v H', R v H' → Q' v H') → te σ H Q') (k : ∀ v H', R v H' → Q v H') : te σ H Q := h Q k
theorem seq_join {a b : TS} {D : Ends} {σ : L2.St} {H : Hp} (R : L2.St → Hp → Prop) (h : ∀ D' : Ends, (∀ σ' H', R σ' H' → D'.nx σ' H') → a D' σ H) (k : ∀ σ' H', R σ' H' → b D σ' H') : tSeq a b D σ H := h _ k
theorem FeedC.ne' {H : Hp} {t c b : Addr} {n : Nat} {xs : List V} (h : FeedC H t c n) (e : H b = some (.lst xs)) : b ≠ t := fun z => by
  obtain ⟨ns, sp, re, ca, e1, _⟩ := h
  rw [z, e1] at e
  cases e
theorem name_join {i : Nat} {v : V} {σ σ' : L2.St} {H : Hp} {a b : TS} {D : Ends} {rt : VK} {bk ct : L2.St → Hp → Prop} (R : L2.St → Hp → Prop) (e : σ.set i (some v) = σ') (h : ∀ D' : Ends, (∀ σ2 H2, R σ2 H2 → D'.nx σ2 H2) → a D' σ' H) (k : ∀ σ2 H2, R σ2 H2 → b D σ2 H2) : gName i v σ H (Ends.mk (tSeq a b D) rt bk ct).nx := by
  unfold gName
  rw [e]
  exact h _ k
theorem dput_join {td ty tv : TE} {D : Ends} {σ : L2.St} {H : Hp} (R : V → Hp → Prop) (h : ∀ Q' : VK, (∀ v H', R v H' → Q' v H') → tv σ H Q') (k : ∀ v H1, R v H1 → td σ H1 fun x H2 => ty σ H2 fun y H3 => ∃ a H4, x = .ref a ∧ DPut H3 a y v H4 ∧ D.nx σ H4) : sDPut td ty tv D σ H := h _ k
theorem name_dput {i : Nat} {v : V} {σ σ' : L2.St} {H : Hp} {td ty tv : TE} {D : Ends} {rt : VK} {bk ct : L2.St → Hp → Prop} (R : V → Hp → Prop) (e : σ.set i (some v) = σ') (h : ∀ Q' : VK, (∀ v H', R v H' → Q' v H') → tv σ' H Q') (k : ∀ v H1, R v H1 → td σ' H1 fun x H2 => ty σ' H2 fun y H3 => ∃ a H4, x = .ref a ∧ DPut H3 a y v H4 ∧ D.nx σ' H4) : gName i v σ H (Ends.mk (sDPut td ty tv D) rt bk ct).nx := by
  unfold gName
  rw [e]
  exact h _ k
theorem name_nx {F : L2.St → Hp → Prop} {σ : L2.St} {H : Hp} {rt : VK} {bk ct : L2.St → Hp → Prop} (h : F σ H) : (Ends.mk F rt bk ct).nx σ H := h
theorem cb_join {r : List V → Hp → VK → Prop} {te : TE} {rest : TA} {σ : L2.St} {H : Hp} {Q : VK} (R : V → Hp → Prop) (h : ∀ Q' : VK, (∀ v H', R v H' → Q' v H') → te σ H Q') (k : ∀ v H', R v H' → rest σ H' fun xs H2 => r (v :: xs) H2 Q) : tCB r (tCons te rest) σ H Q := h _ k
/-- what is asked of a walk: book, terms, day -/
structure AskW (Ts : List Addr) (H : Hp) (bk lim : Addr) (t1 t2 day lo : Int) (xs : List V) (ks : List NestedKey) : Prop where
  hbk : H bk = some (.tup xs)
  pg : PgsAt H xs ks
  lx : xs.length ≤ 100
  hl : H lim = some (.tup [.int t1, .int t2])
  t10 : 0 ≤ t1
  t11 : t1 ≤ 500
  t20 : 0 ≤ t2
  t21 : t2 ≤ 500
  tb : Tbs Ts H
  d0 : 0 ≤ day
  d1 : day < 19999
  npj : ∃ NM, Cap ks NM
  hlo : LoD (ks.filter fun k => decide (dayK k ≤ day)) day lo
/-- how all stands behind the day -/
def stW (t1 t2 : Int) (ks : List NestedKey) (day lo : Int) : WS := runS t1 t2 (ks.filter fun k => decide (dayK k ≤ day)) lo (day + 1 - lo).toNat
theorem AskW.gk {Ts : List Addr} {H H' : Hp} {bk lim : Addr} {t1 t2 day lo : Int} {xs : List V} {ks : List NestedKey} (a : AskW Ts H bk lim t1 t2 day lo xs ks) (g : Gk Ts H H') : AskW Ts H' bk lim t1 t2 day lo xs ks :=
  { a with hbk := g.tup a.hbk, pg := ⟨a.pg.1.at (.gk g), a.pg.2⟩, hl := g.tup a.hl, tb := g.2 }
def spMarks (T : Tx K mg w) : Sp := fun vs H Q _ => ∃ (bk lim : Addr) (t1 t2 day lo : Int) (xs : List V) (ks : List NestedKey), vs = [.ref bk, .ref lim, .int day] ∧ AskW (tbs T) H bk lim t1 t2 day lo xs ks ∧
  ∀ r ys H', Gk (tbs T) H H' → Frs H r → H' r = some (.lst ys) → NkAll H' ys (stW t1 t2 ks day lo).mks → ys.length ≤ 100 → Q (.ref r) H'
theorem ok_marks (T : Tx K mg w) (B : Tb T base) : FnOk P w K mg base CX0 8 T.f_marks T.d_marks ["book", "terms", "day"] (spMarks T) := by
  have G_walked : FnOk P w K mg base CX0 7 T.f_walked T.d_walked ["book", "terms", "day"] (spWalked T) := ok_walked T B
  refine T.F_marks.ok S_marks (fun vs H Q E h => ?_) (fun cdv A0 outer sx H vs Q E hr h => ?_)
  · obtain ⟨bk, lim, t1, t2, day, lo, xs, ks, rfl, _⟩ := h
    rfl
  · obtain ⟨bk, lim, t1, t2, day, lo, xs, ks, rfl, C, q⟩ := h
    refine ⟨_, (pss_one (ps_ret (pe_fld (pe_call G_walked hr (by rfl) T.g_walked T.F_walked.kp T.b_walked .nil pass0 (pa_cons (pv 0) (pa_cons (pv 1) (pa_cons (pv 2) pa_nil)))) rfl))), ?_⟩
    refine ⟨_, rfl, _, rfl, _, rfl, bk, lim, t1, t2, day, lo, xs, ks, rfl, C.hbk, C.pg, C.lx, C.hl, C.t10, C.t11, C.t20, C.t21, C.tb, C.d0, C.d1, C.npj, C.hlo, fun A H1 n W iv => ?_⟩
    change WkAt T t1 t2 H H1 A (stW t1 t2 ks day lo) n at W
    change FinW t1 t2 (stW t1 t2 ks day lo) at iv
    obtain ⟨us, u1, u2⟩ := W.mks
    have := iv.mks
    exact ⟨A.wa, _, _, _, _, rfl, W.ob, T.cl_Walk, T.na_Walk_marks, rfl, q A.mks us _ W.gk W.fm u1 u2 (by rw [u2.length]; omega)⟩
end
end L20

set_option Elab.async false
set_option linter.all false
set_option maxRecDepth 100000
set_option maxHeartbeats 4000000
namespace L20
open PySem PySem.Spec PyProof.Rows L2 My
section
variable {P : Program} {w : World} {K : PySem.W.Frag} {mg : Str → Option Value} {base : Heap}
def triK (u : Due) : NestedKey := .tup [.text u.ow, .text u.od, u.pg]
def placeT : NestedKey → NestedKey
  | .tup [_, _, p] => place p
  | _ => .none
def IsTri (k : NestedKey) : Prop := ∃ u, k = triK u ∧ PgK u.pg
theorem ok_triple_place (T : Tx K mg w) : FnOk P w K mg base CX0 3 T.f_triple_place T.d_triple_place ["triple"] (spKey placeT IsTri) := by
  have G_page_place : FnOk P w K mg base CX0 2 T.f_page_place T.d_page_place ["page"] (spKey place PgK) := ok_place T
  refine T.F_triple_place.ok S_triple_place (fun vs H Q E h => ?_) (fun cdv A outer s H vs Q E hr h => ?_)
  · obtain ⟨x, k, rfl, _⟩ := h
    rfl
  · obtain ⟨x, k, rfl, hx, ⟨u, rfl, pk⟩, q⟩ := h
    refine ⟨_, (pss_one (ps_ret (pe_call G_page_place hr (by rfl) T.g_page_place T.F_page_place.kp T.b_page_place .nil pass0 (pa_cons (pe_ix ix_tup (pv 0) pe_int (fun _ _ => rfl)) pa_nil)))), ?_⟩
    cases hx with
    | @tup b xs _ hb hk =>
      cases hk with
      | cons n1 hk =>
        cases n1
        cases hk with
        | cons n2 hk =>
          cases n2
          cases hk with
          | @cons pv _ _ _ n3 hk =>
            cases hk
            exact ⟨_, rfl, b, _, 2, pv, rfl, rfl, .inl (.inl hb), rfl, pv, u.pg, rfl, n3, pk, fun v H1 s1 n1 => q _ _ s1 n1⟩
def leT (u v : Due) : Bool := leF placeT (.non, triK u) (.non, triK v)
def sortT (ds : List Due) : List Due := ds.mergeSort leT
theorem sort_tri (xs : List V) (ds : List Due) (l : xs.length = ds.length) : ((xs.zip (ds.map triK)).mergeSort (leF placeT)).map Prod.snd = (sortT ds).map triK := by
  rw [List.map_mergeSort (r := leF placeT) (f := Prod.snd) (l := xs.zip (ds.map triK)) (s := fun a b => leF placeT (.non, a) (.non, b)) (fun a _ b _ => rfl)]
  rw [show (xs.zip (ds.map triK)).map Prod.snd = ds.map triK from List.map_snd_zip (by rw [List.length_map, l]; exact Nat.le_refl _)]
  exact (List.map_mergeSort (r := leT) (f := triK) (l := ds) (s := fun a b => leF placeT (.non, a) (.non, b)) (fun a _ b _ => rfl)).symm
/-- what a going answered, as it is told -/
def ansK (p : NestedKey × List Due) : NestedKey := .tup [p.1, .tup ((sortT p.2).map triK)]
def spAnswered (T : Tx K mg w) : Sp := fun vs H Q _ => ∃ (bk lim : Addr) (t1 t2 day lo : Int) (xs : List V) (ks : List NestedKey), vs = [.ref bk, .ref lim, .int day] ∧ AskW (tbs T) H bk lim t1 t2 day lo xs ks ∧
  ∀ r ys H', Gk (tbs T) H H' → Frs H r → H' r = some (.lst ys) → NkAll H' ys ((stW t1 t2 ks day lo).an.map ansK) → ys.length ≤ 100 → Q (.ref r) H'
theorem ok_answered (T : Tx K mg w) (B : Tb T base) : FnOk P w K mg base CX0 8 T.f_answered T.d_answered ["book", "terms", "day"] (spAnswered T) := by
  have G_walked : FnOk P w K mg base CX0 7 T.f_walked T.d_walked ["book", "terms", "day"] (spWalked T) := ok_walked T B
  have K_triple_place : FnOk P w K mg base CX0 3 T.f_triple_place T.d_triple_place ["triple"] (spKey placeT IsTri) := ok_triple_place T
  refine T.F_answered.ok S_answered (fun vs H Q E h => ?_) (fun cdv A0 outer sx H vs Q E hr h => ?_)
  · obtain ⟨bk, lim, t1, t2, day, lo, xs, ks, rfl, _⟩ := h
    rfl
  · obtain ⟨bk, lim, t1, t2, day, lo, xs, ks, rfl, C, q⟩ := h
    refine ⟨_, (pss_cons (ps_set (i := 3) S_answered.nd rfl (.inl rfl) (pe_lst pa_nil))
      (pss_cons (ps_for PassesOwn.never rfl (pi_list (pe_fld (pe_call G_walked hr (by rfl) T.g_walked T.F_walked.kp T.b_walked .nil pass0 (pa_cons (pv 0) (pa_cons (pv 1) (pa_cons (pv 2) pa_nil)))) rfl)) (pg_tup rfl (pgs_cons (pg_name (i := 4) S_answered.nd rfl (.inl rfl)) (pgs_cons (pg_name (i := 5) S_answered.nd rfl (.inl rfl)) pgs_nil)))
      (pss_cons (ps_setLc (i := 6) (own := [("ower", 7), ("owed", 8), ("sort", 9), ("made", 10), ("falls", 11)]) (g := gTup K 5 (gCons (gName 7) (gCons (gName 8) (gCons (gName 9) (gCons (gName 10) (gCons (gName 11) gNil)))))) (tt := tYes) (by rfl) S_answered.nd rfl rfl (sw_true rfl rfl rfl (by decide +kernel)) (pi_list (pv 5)) (blkOk_by (own := [("ower", 7), ("owed", 8), ("sort", 9), ("made", 10), ("falls", 11)]) (N := N_answered) (sc := defScope s_answered) (by decide +kernel)) (fun _ _ _ _ _ => (pg_tup rfl (pgs_cons (pg_name (i := 7) S_answered.nd rfl (.inl rfl)) (pgs_cons (pg_name (i := 8) S_answered.nd rfl (.inl rfl)) (pgs_cons (pg_name (i := 9) S_answered.nd rfl (.inl rfl)) (pgs_cons (pg_name (i := 10) S_answered.nd rfl (.inl rfl)) (pgs_cons (pg_name (i := 11) S_answered.nd rfl (.inl rfl)) pgs_nil))))))) (fun _ _ _ _ _ => pts_nil) (fun _ _ _ _ _ => (pe_tup (pa_cons (pv 7) (pa_cons (pv 8) (pa_cons (pv 10) pa_nil))))))
      (pss_one (ps_expr (pe_bm PySem.F.plainAttrs_list PySem.F.slot_list_append PySem.F.type_list_append mt_append (pv 3) (pa_cons (pe_tup (pa_cons (pv 4) (pa_cons (pe_callTy call_tuple_of (by rfl) T.m_tuple (by decide +kernel) (pa_cons (pe_callBK (cr_sortKL K_triple_place (hr.mono (by decide)) T.b_triple_place) (by rfl) T.m_sorted (by decide +kernel) (pa_cons (pv 6) pa_nil) (pk_cons (pe_glob (v := .ref T.f_triple_place) (by rfl) T.g_triple_place rfl) pk_nil)) pa_nil)) pa_nil))) pa_nil))))))
      (pss_one (ps_ret (pv 3))))), ?_⟩
    refine ⟨sz (by show 0 ≤ 1000; decide), fun D nD => ?_⟩
    have sD := same_upd (o := .lst []) nD
    have hD := upd_same (H := H) (a := D) (o := .lst [])
    have gD : Gk (tbs T) H (upd H D (.lst [])) := .of_same sD C.tb
    generalize upd H D (.lst []) = H1 at sD hD gD ⊢
    have C1 := C.gk gD
    have fD : Frs H D := .of nD
    refine name_as (σ' := [some (.ref bk), some (.ref lim), some (.int day), some (.ref D), none, none, none, none, none, none, none, none]) rfl ?_
    refine ⟨_, rfl, _, rfl, _, rfl, bk, lim, t1, t2, day, lo, xs, ks, rfl, C1.hbk, C1.pg, C1.lx, C1.hl, C1.t10, C1.t11, C1.t20, C1.t21, C1.tb, C1.d0, C1.d1, C1.npj, C1.hlo, fun A H2 n W iv => ?_⟩
    change WkAt T t1 t2 H1 H2 A (stW t1 t2 ks day lo) n at W
    change FinW t1 t2 (stW t1 t2 ks day lo) at iv
    generalize stW t1 t2 ks day lo = s at W iv q
    obtain ⟨zs, a1, a2⟩ := W.an
    have lz : zs.length = s.an.length := a2.length
    have hD2 := W.gk.1 _ _ hD (fun ps z => by cases z)
    have anD : A.an ≠ D := fun z => by
      obtain ⟨ps, e⟩ := W.fa _ (z ▸ hD)
      cases e
    have a3 : AnsAll H2 { A with kn := D } zs s.an := by
      have gen : ∀ {xs : List V} {ps : List (NestedKey × List Due)}, (∀ p ∈ ps, p.2 ≠ []) → AnsAll H2 A xs ps → AnsAll H2 { A with kn := D } xs ps := fun {xs ps} hne h => by
        induction h with
        | nil => exact .nil
        | @cons x p xs ps a h ih =>
          refine .cons ?_ (ih fun p hp => hne p (.tail _ hp))
          obtain ⟨r, l, v, ys, e, h1, h2, h3, h4, n1, n2, n3, n4⟩ := a
          refine ⟨r, l, v, ys, e, h1, h2, h3, h4, fun z => ?_, n2, n3, n4⟩
          have z : l = D := z
          rw [z, hD2] at h3
          cases h3
          have : p.2.map dueK = [] := by
            have := h4.length
            exact List.length_eq_zero_iff.mp this.symm
          exact hne p (.head _) (List.map_eq_nil_iff.mp this)
      exact gen (fun p hp => (iv.ap p hp).2.1) a2
    have lan := iv.an
    refine ⟨A.wa, _, _, _, _, rfl, W.ob, T.cl_Walk, T.na_Walk_answers, rfl, A.an, rfl, ⟨_, .inl (.inl a1)⟩, ?_⟩
    refine for_list (xs := zs) (fun i σ Hx => (∃ y4 y5 y6 y7 y8 y9 y10 y11, σ = [some (.ref bk), some (.ref lim), some (.int day), some (.ref D), y4, y5, y6, y7, y8, y9, y10, y11]) ∧ Gk (tbs T) H Hx ∧ Hx A.an = some (.lst zs) ∧ AnsAll Hx { A with kn := D } zs s.an ∧ ∃ acc, Hx D = some (.lst acc) ∧ NkAll Hx acc ((s.an.take i).map ansK) ∧ acc.length ≤ i) ⟨⟨_, _, _, _, _, _, _, _, rfl⟩, gD.trans W.gk, a1, a3, [], hD2, .nil, Nat.le_refl _⟩ (fun i σ Hx _ h => .inl (.inl h.2.2.1)) ?_ ?_
    · rintro i x σ Hx hi ⟨⟨y4, y5, y6, y7, y8, y9, y10, y11, rfl⟩, gx, hax, hall, acc, hDx, nka, la⟩
      obtain ⟨p, hp, r, l, v, ys, rfl, hr1, nv, hl, nys, n1, n2, n3, n4⟩ := hall.get hi
      have n1 : l ≠ D := n1
      have pm : p ∈ s.an := List.mem_of_getElem? hp
      obtain ⟨p1, p2, p3, p4⟩ := iv.ap p pm
      have lys : ys.length = p.2.length := by rw [nys.length, List.length_map]
      have li : i < zs.length := (List.getElem?_eq_some_iff.mp hi).1
      refine ⟨r, _, rfl, .inl (.inl hr1), rfl, _, _, rfl, _, _, rfl, rfl, ?_⟩
      have stp : ((([some (V.ref bk), some (.ref lim), some (.int day), some (.ref D), y4, y5, y6, y7, y8, y9, y10, y11].set 4 (some v)).set 5 (some (.ref l))) : L2.St) = [some (V.ref bk), some (.ref lim), some (.int day), some (.ref D), some v, some (.ref l), y6, y7, y8, y9, y10, y11] := rfl
      rw [stp]
      refine ⟨_, rfl, l, rfl, ⟨_, .inl (.inl hl)⟩, fun D2 nD2 => ?_⟩
      refine lc_list (xs := ys) (fun j Hy => ∃ acc2, Same Hx Hy ∧ Hy D2 = some (.lst acc2) ∧ NkAll Hy acc2 ((p.2.take j).map triK) ∧ acc2.length ≤ j) ⟨[], same_upd nD2, upd_same, .nil, Nat.le_refl _⟩ (fun j Hy _ ⟨_, m, _⟩ => .inl (.inl (m _ _ hl))) ?_ ?_
      · rintro j x Hy hj ⟨acc2, m, hD2', nk2, la2⟩
        obtain ⟨kk, hk, nx⟩ := nys.get hj
        rw [List.getElem?_map] at hk
        obtain ⟨u, hu, rfl⟩ := Option.map_eq_some_iff.mp hk
        have nx := nx.at (.same m)
        obtain ⟨b', c, pv, rfl, hb', np', hc⟩ := due_at nx
        have lt : j < ys.length := (List.getElem?_eq_some_iff.mp hj).1
        refine ⟨b', _, rfl, .inl (.inl hb'), rfl, _, _, rfl, _, _, rfl, _, _, rfl, _, _, rfl, _, _, rfl, rfl, rfl, tYesT ?_⟩
        refine ⟨_, rfl, _, rfl, _, rfl, sz (by show 3 ≤ 1000; decide), fun t nt => ?_⟩
        have st := same_upd (o := .tup [.str u.ow, .str u.od, pv]) nt
        have ht := upd_same (H := Hy) (a := t) (o := .tup [.str u.ow, .str u.od, pv])
        generalize upd Hy t (.tup [.str u.ow, .str u.od, pv]) = H5 at st ht ⊢
        have tp : Tups H5 (upd H5 D2 (.lst (acc2 ++ [V.ref t]))) := fun c xs e => by rw [upd_ne (fun z => by rw [z, st _ _ hD2'] at e; cases e)]; exact e
        refine ⟨acc2, st _ _ hD2', smallL (by omega), _, same_fresh nD2 (m.trans st), upd_same, ?_, by rw [List.length_append]; exact Nat.succ_le_succ la2⟩
        rw [List.take_add_one, hu, List.map_append]
        refine (nk2.at ((Tups.same st).trans tp)).app (.cons (.tup (tp _ _ ht) (.cons (.str _) (.cons (.str _) (.cons (np'.at ((Tups.same st).trans tp)) .nil)))) .nil)
      rintro Hy ⟨acc2, m, hD2', nk2, la2⟩
      rw [List.take_of_length_le (by rw [lys]; exact Nat.le_refl _)] at nk2
      have lac : acc2.length = p.2.length := by rw [nk2.length, List.length_map]
      refine name_as (σ' := [some (.ref bk), some (.ref lim), some (.int day), some (.ref D), some v, some (.ref l), some (.ref D2), y7, y8, y9, y10, y11]) rfl ?_
      have isd : ∀ k ∈ p.2.map triK, IsTri k := fun k hk => by
        obtain ⟨u, hu, rfl⟩ := List.mem_map.mp hk
        exact ⟨u, rfl, p4 u hu⟩
      refine ⟨_, rfl, .inl ⟨rfl, _, .inl (.inl (m _ _ hDx))⟩, _, rfl, _, rfl, D2, acc2, p.2.map triK, rfl, rfl, .inl (.inl hD2'), nk2, isd, ?_, ?_, ?_, by omega, fun H3 p3 sm np3 np3' => ?_⟩
      · intro k hk
        obtain ⟨u, rfl, z, d, r, e, _⟩ := isd k hk
        show ∃ i r, place u.pg = _
        rw [e, place_eq]
        exact ⟨_, _, rfl⟩
      · intro k hk k' hk'
        obtain ⟨u, rfl, p1⟩ := isd k hk
        obtain ⟨u', rfl, p2⟩ := isd k' hk'
        exact place_lt p1 p2
      · intro k hk
        obtain ⟨u, rfl, p1⟩ := isd k hk
        exact (place_depth p1).1
      have nks : NkAll H3 (((acc2.zip (p.2.map triK)).mergeSort (leF placeT)).map Prod.fst) ((sortT p.2).map triK) := by
        rw [← sort_tri acc2 _ lac]
        refine nk_pairs fun b hb => ?_
        have hb := (List.mergeSort_perm _ _).mem_iff.mp hb
        exact (nk_zip (nk2.at (.same sm)) b hb)
      have lso : (((acc2.zip (p.2.map triK)).mergeSort (leF placeT)).map Prod.fst).length ≤ 1000 := by rw [List.length_map, List.length_mergeSort, List.length_zip]; omega
      generalize ((acc2.zip (p.2.map triK)).mergeSort (leF placeT)).map Prod.fst = us at nks lso ⊢
      refine ⟨p3, us, rfl, .inl ⟨.inl (.inl upd_same), fun tt ntt => ?_⟩⟩
      have s4 := (same_upd (o := .lst us) np3).trans (same_upd (o := .tup us) ntt)
      have htt := upd_same (H := upd H3 p3 (.lst us)) (a := tt) (o := .tup us)
      generalize upd (upd H3 p3 (.lst us)) tt (.tup us) = H4 at s4 htt ⊢
      refine ⟨sz (by show 2 ≤ 1000; decide), fun pr npr => ?_⟩
      have s5 := same_upd (o := .tup [v, .ref tt]) npr
      have hpr := upd_same (H := H4) (a := pr) (o := .tup [v, .ref tt])
      generalize upd H4 pr (.tup [v, .ref tt]) = H5 at s5 hpr ⊢
      have sA := m.trans (sm.trans (s4.trans s5))
      have hD5 := sA _ _ hDx
      have g5 := gx.trans (.of_same sA gx.2)
      have tpD : Tups H5 (upd H5 D (.lst (acc ++ [V.ref pr]))) := fun c xs e => by rw [upd_ne (fun z => by rw [z, hD5] at e; cases e)]; exact e
      refine ⟨D, acc, .ref pr, rfl, rfl, hD5, smallL (by omega), ⟨_, _, _, _, _, _, _, _, rfl⟩, gk_upd g5 fD hD5 (fun ps z => by cases z), by rw [upd_ne anD]; exact sA _ _ hax, ?_, _, upd_same, ?_, by rw [List.length_append]; exact Nat.succ_le_succ la⟩
      · exact hall.keep ((Tups.same sA).trans tpD) fun l' ys' n1' _ _ _ e => by rw [upd_ne n1']; exact sA _ _ e
      · rw [List.take_add_one, hp, List.map_append]
        refine (nka.at ((Tups.same sA).trans tpD)).app (.cons (.tup (tpD _ _ hpr) (.cons (nv.at ((Tups.same sA).trans tpD)) (.cons (.tup (tpD _ _ (s5 _ _ htt)) (nks.at (((Tups.same s4).trans (.same s5)).trans tpD))) .nil))) .nil)
    · rintro σ Hx ⟨⟨y4, y5, y6, y7, y8, y9, y10, y11, rfl⟩, gx, hax, hall, acc, hDx, nka, la⟩
      rw [List.take_of_length_le (by rw [lz]; exact Nat.le_refl _)] at nka
      exact ⟨_, rfl, q D acc _ gx fD hDx nka (by omega)⟩
end
end L20

set_option Elab.async false
set_option linter.all false
set_option maxRecDepth 100000
set_option maxHeartbeats 2000000
/-! the law's own rank of a page: day, kind, the rest; it orders as the place does -/
namespace My
open PySem PySem.Spec PyProof.Rows L2
def rank : NestedKey → NestedKey
  | .tup (.text z :: .num d :: r) => .tup [.num d, .num (ixK z), .tup r]
  | k => k
theorem rank_eq (z : Str) (d : Int) (r : List NestedKey) : rank (.tup (.text z :: .num d :: r)) = .tup [.num d, .num (ixK z), .tup r] := rfl
theorem lt_like {x y : NestedKey} {xs ys xs' ys' : List NestedKey} (h : x = y → ltAll xs ys = ltAll xs' ys') : ltAll (x :: xs) (y :: ys) = ltAll (x :: xs') (y :: ys') := by
  rw [ltAll, ltAll.eq_4 x xs']
  by_cases e : x = y
  · rw [if_pos e, if_pos e, h e]
  · rw [if_neg e, if_neg e]
theorem lt_one (x y : NestedKey) : ltAll [x] [y] = if x = y then some false else ltK x y := by
  rw [ltAll]
  rfl
theorem rank_place {k k' : NestedKey} (h : PgK k) (h' : PgK k') : ltK (rank k) (rank k') = ltK (place k) (place k') := by
  obtain ⟨z, d, r, rfl, hr, _⟩ := h
  obtain ⟨z', d', r', rfl, hr', _⟩ := h'
  rw [place_eq, place_eq, rank_eq, rank_eq, ltK, ltK]
  refine lt_like fun ed => lt_like fun ei => ?_
  injection ed with ed
  subst ed
  injection ei with ei
  have ez := ixK_inj hr hr' (Int.ofNat.inj ei)
  subst ez
  rw [lt_one, lt_one]
  by_cases er : r = r'
  · subst er
    rw [if_pos rfl, if_pos rfl]
  · rw [if_neg (fun q => er (by injection q)), if_neg (fun q => er (by simpa using q)), ltK, ltK, ltAll, if_pos rfl, ltAll, if_pos rfl]
theorem rank_head {k : NestedKey} (h : PgK k) : ∃ i r, rank k = .tup (.num i :: r) := by
  obtain ⟨z, d, r, rfl, _⟩ := h
  exact ⟨_, _, rfl⟩
theorem rank_lt {k k' : NestedKey} (h : PgK k) (h' : PgK k') : ∃ c, ltK (rank k) (rank k') = some c := by
  rw [rank_place h h']
  exact place_lt h h'
theorem rank_ahead {k k' : NestedKey} (h : PgK k) (h' : PgK k') : lexT (toks (rank k)) (toks (rank k')) = ahead k k' := by
  have e := (rank_place h h').trans (ahead_lt h h')
  obtain ⟨i, r, e1⟩ := rank_head h
  obtain ⟨i', r', e2⟩ := rank_head h'
  rw [e1, e2, ltK] at e
  have := lex_tup e
  rw [← e1, ← e2] at this
  exact this
theorem rank_depth {k : NestedKey} (h : PgK k) : (rank k).depth ≤ 50 := by
  have := (place_depth h).1
  obtain ⟨z, d, r, rfl, _⟩ := h
  rw [place_eq] at this
  rw [rank_eq]
  simp only [NestedKey.depthAll, NestedKey.depth] at this ⊢
  omega
end My

set_option Elab.async false
set_option linter.all false
set_option maxRecDepth 100000
set_option maxHeartbeats 4000000
namespace L20
open PySem PySem.Spec PyProof.Rows L2 My
section
variable {P : Program} {w : World} {K : PySem.W.Frag} {mg : Str → Option Value} {base : Heap}
theorem run_flt {t1 t2 lo day : Int} {ks : List NestedKey} : ∀ n : Nat, lo + (n : Int) ≤ day + 1 → runS t1 t2 (ks.filter fun k => decide (dayK k ≤ day)) lo n = runS t1 t2 ks lo n
  | 0, _ => rfl
  | n + 1, h => by
    unfold runS
    rw [run_flt n (by omega)]
    congr 2
    unfold onDay
    rw [List.filter_filter]
    refine List.filter_congr fun k _ => ?_
    rw [Bool.eq_iff_iff]
    simp only [Bool.and_eq_true, decide_eq_true_eq]
    omega
theorem on_split {ks : List NestedKey} (od : ks.Pairwise fun x y => dayK x ≤ dayK y) (e : Int) : ks.filter (fun k => decide (dayK k < e + 1)) = ks.filter (fun k => decide (dayK k < e)) ++ onDay ks e := by
  induction ks with
  | nil => rfl
  | cons k ks ih =>
    obtain ⟨o1, o2⟩ := List.pairwise_cons.mp od
    unfold onDay at ih ⊢
    rw [List.filter_cons, List.filter_cons, List.filter_cons, ih o2]
    by_cases c : dayK k < e
    · rw [if_pos (decide_eq_true (show dayK k < e + 1 by omega)), if_pos (decide_eq_true c), if_neg (by rw [decide_eq_true_eq]; omega)]
      rfl
    · rw [if_neg (show ¬ decide (dayK k < e) = true by rw [decide_eq_true_eq]; exact c)]
      have e0 : ks.filter (fun k => decide (dayK k < e)) = [] := List.filter_eq_nil_iff.mpr fun x hx => by
        rw [decide_eq_true_eq]; have := o1 x hx; omega
      rw [e0, List.nil_append, List.nil_append]
      by_cases c2 : dayK k = e
      · rw [if_pos (decide_eq_true (show dayK k < e + 1 by omega)), if_pos (decide_eq_true c2)]
      · rw [if_neg (by rw [decide_eq_true_eq]; omega), if_neg (by rw [decide_eq_true_eq]; exact c2)]
theorem low_split {ks : List NestedKey} (od : ks.Pairwise fun x y => dayK x ≤ dayK y) (e : Int) : ks = ks.filter (fun k => decide (dayK k < e)) ++ ks.filter (fun k => !decide (dayK k < e)) := by
  induction ks with
  | nil => rfl
  | cons k ks ih =>
    obtain ⟨o1, o2⟩ := List.pairwise_cons.mp od
    by_cases c : dayK k < e
    · rw [List.filter_cons, if_pos (decide_eq_true c), List.filter_cons, if_neg (by rw [decide_eq_true c]; decide), List.cons_append, ← ih o2]
    · have e0 : ks.filter (fun k => decide (dayK k < e)) = [] := List.filter_eq_nil_iff.mpr fun x hx => by
        rw [decide_eq_true_eq]; have := o1 x hx; omega
      have e1 := ih o2
      rw [e0, List.nil_append] at e1
      rw [List.filter_cons, if_neg (by rw [decide_eq_true_eq]; exact c), e0, List.nil_append, List.filter_cons, if_pos (by rw [decide_eq_false c]; rfl), ← e1]
/-- what holds ahead of all, stays by each page done and by each day's end, holds behind the days -/
theorem run_ind {t1 t2 lo : Int} {ks : List NestedKey} (R : List NestedKey → WS → Prop) (od : ks.Pairwise fun x y => dayK x ≤ dayK y) (hlo : ∀ k ∈ ks, lo ≤ dayK k) (h0 : R [] ws0)
    (hd : ∀ p k r s, ks = p ++ k :: r → R p s → R (p ++ [k]) (doS s k))
    (he : ∀ p r s d, ks = p ++ r → lo ≤ d → (∀ k ∈ p, dayK k ≤ d) → (∀ k ∈ r, d < dayK k) → R p s → R p (endS t1 t2 s d)) : ∀ n : Nat, R (ks.filter fun k => decide (dayK k < lo + (n : Int))) (runS t1 t2 ks lo n)
  | 0 => by
    rw [show ks.filter (fun k => decide (dayK k < lo + ((0 : Nat) : Int))) = [] from List.filter_eq_nil_iff.mpr fun x hx => by
      rw [decide_eq_true_eq]; have := hlo x hx; omega]
    exact h0
  | n + 1 => by
    have ih := run_ind R od hlo h0 hd he n
    have sp := on_split od (lo + n)
    have lw := low_split od (lo + n + 1)
    rw [show lo + ((n + 1 : Nat) : Int) = lo + n + 1 by omega]
    unfold runS
    have all : ∀ (q : List NestedKey) (p r : List NestedKey) (s : WS), ks = p ++ (q ++ r) → R p s → R (p ++ q) (q.foldl doS s) := fun q => by
      induction q with
      | nil => intro p r s _ h; rw [List.append_nil]; exact h
      | cons k q ih2 =>
        intro p r s e h
        have := ih2 (p ++ [k]) r (doS s k) (by rw [e]; simp) (hd p k (q ++ r) s (by rw [e]; rfl) h)
        rw [List.append_assoc] at this
        exact this
    have st := all (onDay ks (lo + n)) _ (ks.filter (fun k => !decide (dayK k < lo + n + 1))) _ (by rw [← List.append_assoc, ← sp]; exact lw) ih
    rw [← sp] at st
    refine he _ _ _ _ lw (by omega) (fun k hk => ?_) (fun k hk => ?_) st
    · have := of_decide_eq_true (List.mem_filter.mp hk).2
      omega
    · have := (List.mem_filter.mp hk).2
      simp only [Bool.not_eq_true', decide_eq_false_iff_not] at this
      omega
/-- all of it, behind the day -/
theorem st_ind {t1 t2 lo day : Int} {ks : List NestedKey} (R : List NestedKey → WS → Prop) (od : ks.Pairwise fun x y => dayK x ≤ dayK y) (l0 : lo ≤ day + 1) (hlo : ∀ k ∈ ks, lo ≤ dayK k) (h0 : R [] ws0)
    (hd : ∀ p k r s, ks = p ++ k :: r → R p s → R (p ++ [k]) (doS s k))
    (he : ∀ p r s d, ks = p ++ r → lo ≤ d → (∀ k ∈ p, dayK k ≤ d) → (∀ k ∈ r, d < dayK k) → R p s → R p (endS t1 t2 s d)) : R (ks.filter fun k => decide (dayK k ≤ day)) (stW t1 t2 ks day lo) := by
  unfold stW
  rw [run_flt _ (by omega)]
  have := run_ind (t1 := t1) (t2 := t2) R od hlo h0 hd he (day + 1 - lo).toNat
  rw [show lo + (((day + 1 - lo).toNat : Nat) : Int) = day + 1 by omega] at this
  rw [show (fun k => decide (dayK k ≤ day)) = fun k => decide (dayK k < day + 1) by funext k; rw [Bool.eq_iff_iff, decide_eq_true_eq, decide_eq_true_eq]; omega]
  exact this
def houseK (d : Int) (a : Str) (ws : List Int) : NestedKey := .tup [.text "house", .num d, .text a, .tup (ws.map .num)]
def homeK (d : Int) (a : Str) (ws : List Int) : NestedKey := .tup [.text "home", .num d, .text a, .tup (ws.map .num)]
def mournK (d : Int) (a : Str) (m : Int) : NestedKey := .tup [.text "mourn", .num d, .text a, .num m]
def goK (z : Str) (d : Int) (b a : Str) : NestedKey := .tup [.text z, .num d, .text b, .text a]
theorem pg_house (d : Int) (a : Str) (ws : List Int) : pgK (houseK d a ws) = ⟨"house", d, a, none, ws, 0⟩ := by
  show (⟨"house", d, a, none, numsK (ws.map .num), 0⟩ : Pg) = _
  rw [nums_map]
theorem pg_home (d : Int) (a : Str) (ws : List Int) : pgK (homeK d a ws) = ⟨"home", d, a, none, ws, 0⟩ := by
  show (⟨"home", d, a, none, numsK (ws.map .num), 0⟩ : Pg) = _
  rw [nums_map]
theorem pg_mourn (d : Int) (a : Str) (m : Int) : pgK (mournK d a m) = ⟨"mourn", d, a, none, [], m⟩ := rfl
theorem pg_go (z : Str) (d : Int) (b a : Str) : pgK (goK z d b a) = ⟨z, d, b, some a, [], 0⟩ := rfl
theorem num_inj : ∀ {x y : List Int}, x.map NestedKey.num = y.map NestedKey.num → x = y := fun {x y} h => by
  have := congrArg numsK h
  rwa [nums_map, nums_map] at this
theorem dayB_one (L : List (Str × Int × Int)) (x : Str) (s m : Int) (nm : Str) (d : Int) : dayB (L ++ [(x, s, m)]) nm d = true ↔ dayB L nm d = true ∨ (x = nm ∧ s ≤ d ∧ d < s + m) := by
  rw [dayB_snoc, Bool.or_eq_true, Bool.and_eq_true, Bool.and_eq_true, decide_eq_true_eq, decide_eq_true_eq, decide_eq_true_eq, and_assoc]
theorem ne_z {k k' : NestedKey} (h : (pgK k).z ≠ (pgK k').z) : k ≠ k' := fun e => h (by rw [e])
theorem house_a {d : Int} {a b : Str} {v ws : List Int} (h : houseK d a v = houseK d b ws) : a = b := by
  have := congrArg (fun k => (pgK k).a) h
  rwa [pg_house, pg_house] at this
theorem filt_all {α : Type} {f : α → Bool} {l : List α} (h : ∀ x ∈ l, f x = true) : l.filter f = l := List.filter_eq_self.mpr h
theorem filt_no {α : Type} {f : α → Bool} {l : List α} (h : ∀ x ∈ l, f x = false) : l.filter f = [] := List.filter_eq_nil_iff.mpr fun x hx => by rw [h x hx]; decide
def partK (d : Int) (a b : Str) (ws : List Int) : NestedKey := .tup [.text "part", .num d, .text a, .text b, .tup (ws.map .num)]
theorem pg_part (d : Int) (a b : Str) (ws : List Int) : pgK (partK d a b ws) = ⟨"part", d, a, some b, ws, 0⟩ := by
  show (⟨"part", d, a, some b, numsK (ws.map .num), 0⟩ : Pg) = _
  rw [nums_map]
theorem do_house {s : WS} {d : Int} {a : Str} {ws : List Int} (h : a ∉ s.kn) : doS s (houseK d a ws) = { s with hs := setH s.hs a (some ws), kn := s.kn ++ [a], mks := s.mks ++ [markS (houseK d a ws) (.tup [.text "done"])] } := by
  have hg : goodS s ⟨"house", d, a, none, ws, 0⟩ = true := by unfold goodS; rw [if_pos rfl, decide_eq_false h]; rfl
  unfold doS bodyS
  rw [pg_house, if_neg (by rw [hg]; decide), if_neg (by show ¬ (("house" : Str) = "card" ∨ ("house" : Str) = "visit"); decide +kernel), if_neg (by show ¬ (("house" : Str) = "part"); decide +kernel), if_neg (by show ¬ (("house" : Str) = "join"); decide +kernel), if_neg (by show ¬ (("house" : Str) = "mourn"); decide +kernel)]
  unfold turnS
  rw [if_pos rfl]
theorem do_mourn {s : WS} {d m : Int} {a : Str} (h : (s.hs a).isSome = true) : doS s (mournK d a m) = { s with L := s.L ++ [(a, d, m)], mks := s.mks ++ [markS (mournK d a m) (.tup [.text "done"])] } := by
  have hg : goodS s ⟨"mourn", d, a, none, [], m⟩ = true := by
    unfold goodS
    rw [if_neg (by show ¬ (("mourn" : Str) = "house"); decide +kernel), if_neg (by show ¬ (("mourn" : Str) = "part"); decide +kernel), h]
    rfl
  unfold doS bodyS
  rw [pg_mourn, if_neg (by rw [hg]; decide), if_neg (by show ¬ (("mourn" : Str) = "card" ∨ ("mourn" : Str) = "visit"); decide +kernel), if_neg (by show ¬ (("mourn" : Str) = "part"); decide +kernel), if_neg (by show ¬ (("mourn" : Str) = "join"); decide +kernel), if_pos rfl]
  unfold turnS
  rw [if_neg (by show ¬ (("mourn" : Str) = "house"); decide +kernel), if_neg (by show ¬ (("mourn" : Str) = "part"); decide +kernel), if_neg (by show ¬ (("mourn" : Str) = "join"); decide +kernel), if_neg (by show ¬ (("mourn" : Str) = "home"); decide +kernel)]
/-- a house parts from another one -/
theorem do_part {s : WS} {d : Int} {a b : Str} {ws : List Int} (h : b ∉ s.kn) (ha : (s.hs a).isSome = true) :
    doS s (partK d a b ws) = { s with hs := setH s.hs b (some ws), kn := s.kn ++ [b], ds := s.ds ++ copyD a b s.ds, cp := s.cp + ((copyD a b s.ds).length : Int), mks := s.mks ++ [markS (partK d a b ws) (.tup [.text "done"])] } := by
  have hg : goodS s ⟨"part", d, a, some b, ws, 0⟩ = true := by
    unfold goodS
    rw [if_neg (by show ¬ (("part" : Str) = "house"); decide +kernel), if_pos rfl]
    show (!decide (b ∈ s.kn) && (s.hs a).isSome) = true
    rw [decide_eq_false h, ha]
    rfl
  unfold doS bodyS
  rw [pg_part, if_neg (by rw [hg]; decide), if_neg (by show ¬ (("part" : Str) = "card" ∨ ("part" : Str) = "visit"); decide +kernel), if_pos rfl]
  unfold turnS partS
  rw [if_neg (by show ¬ (("part" : Str) = "house"); decide +kernel), if_pos rfl]
  rfl
/-- a house joins another one -/
theorem do_join {s : WS} {d : Int} {a b : Str} (ha : (s.hs a).isSome = true) (hb : (s.hs b).isSome = true) :
    doS s (goK "join" d a b) = { joinS { s with hs := setH s.hs b none } a b with mks := s.mks ++ [markS (goK "join" d a b) (.tup [.text "done"])] } := by
  have hg : goodS s ⟨"join", d, a, some b, [], 0⟩ = true := by
    unfold goodS
    rw [if_neg (by show ¬ (("join" : Str) = "house"); decide +kernel), if_neg (by show ¬ (("join" : Str) = "part"); decide +kernel)]
    show ((s.hs a).isSome && (s.hs b).isSome) = true
    rw [ha, hb]
    rfl
  unfold doS bodyS
  rw [pg_go, if_neg (by rw [hg]; decide), if_neg (by show ¬ (("join" : Str) = "card" ∨ ("join" : Str) = "visit"); decide +kernel), if_neg (by show ¬ (("join" : Str) = "part"); decide +kernel), if_pos rfl]
  unfold turnS
  rw [if_neg (by show ¬ (("join" : Str) = "house"); decide +kernel), if_neg (by show ¬ (("join" : Str) = "part"); decide +kernel), if_pos rfl]
  rfl
/-- a going where both stand -/
theorem do_going {s : WS} {z : Str} {d : Int} {a b : Str} (hz : z = "card" ∨ z = "visit") (ha : (s.hs a).isSome = true) (hb : (s.hs b).isSome = true) :
    doS s (goK z d a b) = { (goS s (goK z d a b)).1 with mks := s.mks ++ [markS (goK z d a b) (goS s (goK z d a b)).2] } := by
  have hg : goodS s ⟨z, d, a, some b, [], 0⟩ = true := by
    unfold goodS
    rw [if_neg (by show ¬ z = "house"; rcases hz with h | h <;> (rw [h]; decide +kernel)), if_neg (by show ¬ z = "part"; rcases hz with h | h <;> (rw [h]; decide +kernel))]
    show ((s.hs a).isSome && (s.hs b).isSome) = true
    rw [ha, hb]
    rfl
  unfold doS
  rw [pg_go, if_neg (by rw [hg]; decide), if_pos hz, ← pg_go, turn_going hz]
theorem end_nil {t1 t2 d : Int} {s : WS} (h : s.ds = []) : endS t1 t2 s d = s := by
  obtain ⟨hs, kn, L, ds, mks, an, cp, sk, sp⟩ := s
  dsimp only at h
  subst h
  rfl
/-- what is known of a thing that is shown -/
structure Ok3 (d : PyData) (c e : Nat) : Prop where
  sh : GU.Sh d
  cost : GU.cost d ≤ c
  deep : d.depth ≤ e
theorem Ok3.mono {d : PyData} {c e c' e' : Nat} (h : Ok3 d c e) (l : c ≤ c') (l2 : e ≤ e') : Ok3 d c' e' := ⟨h.sh, Nat.le_trans h.cost l, Nat.le_trans h.deep l2⟩
theorem ok3_page {k : NestedKey} (h : PgK k) : Ok3 k.data 20000 2 := ⟨(fine_page h).1.sh, (fine_page h).1.cost, (fine_page h).2⟩
theorem ok3_text {z : Str} (h : Plain z) : Ok3 (NestedKey.text z).data 1004 0 := by
  rw [NestedKey.data]
  exact ⟨(fine_text h).sh, (fine_text h).cost, by rw [PyData.depth]; exact Nat.le_refl _⟩
theorem ok3_num {i : Int} (h0 : -1000000 < i) (h1 : i < 1000000) : Ok3 (NestedKey.num i).data 1921 0 := by
  rw [NestedKey.data]
  exact ⟨(fine_int h0 h1).sh, (fine_int h0 h1).cost, by rw [PyData.depth]; exact Nat.le_refl _⟩
theorem ok3_all {ks : List NestedKey} {c e : Nat} (h : ∀ k ∈ ks, Ok3 k.data c e) : GU.ShAll (NestedKey.datas ks) ∧ GU.costAll (NestedKey.datas ks) ≤ (c + 2) * ks.length ∧ PyData.depthAll (NestedKey.datas ks) ≤ e := by
  induction ks with
  | nil => rw [NestedKey.datas]; exact ⟨trivial, Nat.zero_le _, by rw [PyData.depthAll]; exact Nat.zero_le _⟩
  | cons k ks ih =>
    obtain ⟨a, b, d⟩ := ih fun x hx => h x (.tail _ hx)
    have k1 := h k (.head _)
    rw [NestedKey.datas]
    refine ⟨⟨k1.sh, a⟩, ?_, by rw [PyData.depthAll]; exact Nat.max_le.mpr ⟨k1.deep, d⟩⟩
    rw [GU.costAll, List.length_cons, Nat.mul_add, Nat.mul_one]
    have := k1.cost
    omega
theorem ok3_list {ks : List NestedKey} {c e : Nat} (h : ∀ k ∈ ks, Ok3 k.data c e) : Ok3 (.list (NestedKey.datas ks)) ((c + 2) * ks.length + 3) (e + 1) := by
  obtain ⟨a, b, d⟩ := ok3_all h
  exact ⟨a, by rw [GU.cost]; omega, by rw [PyData.depth]; omega⟩
theorem ok3_tup {ks : List NestedKey} {c e : Nat} (h : ∀ k ∈ ks, Ok3 k.data c e) : Ok3 (NestedKey.tup ks).data ((c + 2) * ks.length + 3) (e + 1) := by
  obtain ⟨a, b, d⟩ := ok3_all h
  rw [NestedKey.data]
  exact ⟨a, by rw [GU.cost]; omega, by rw [PyData.depth]; omega⟩
def kdK (k : NestedKey) : Nat := ixK (pgK k).z
abbrev Od (ks : List NestedKey) : Prop := ks.Pairwise fun x y => dayK x = dayK y → kdK x ≤ kdK y
open PySem.SeqAt PySem.W in
/-- a list of unlike pages, sorted by ranks -/
theorem sortL_ok {H : Hp} {xs : List V} {ks : List NestedKey} (nk : NkAll H xs ks) (hp : ∀ k ∈ ks, PgK k) (nd : ks.Nodup) : ∃ ks', NkAll H (((xs.zip ks).mergeSort (leF rank)).map Prod.fst) ks' ∧ Ord ks' ∧ ∀ k, k ∈ ks' ↔ k ∈ ks := by
  have pm := List.mergeSort_perm (xs.zip ks) (leF rank)
  have pw := sort_pairwise (sortLe_total (listOrd itemOrd) false fun b : V × NestedKey => toks (rank b.2)) (xs.zip ks)
  change List.Pairwise (fun a b => leF rank a b = true) ((xs.zip ks).mergeSort (leF rank)) at pw
  generalize (xs.zip ks).mergeSort (leF rank) = l at pm pw ⊢
  have pk : (l.map Prod.snd).Perm ks := by
    have := pm.map Prod.snd
    rwa [List.map_snd_zip (by rw [nk.length]; exact Nat.le_refl _)] at this
  have mem : ∀ b ∈ l, Nk H b.1 b.2 ∧ b.2 ∈ ks := fun b hb => ⟨nk_zip nk b (pm.mem_iff.mp hb), pk.mem_iff.mp (List.mem_map.mpr ⟨b, hb, rfl⟩)⟩
  refine ⟨l.map Prod.snd, nk_pairs fun b hb => (mem b hb).1, ?_, fun k => pk.mem_iff⟩
  have nl : (l.map Prod.snd).Nodup := pk.nodup_iff.mpr nd
  have nl2 : l.Pairwise fun a b => a.2 ≠ b.2 := List.pairwise_map.mp nl
  refine List.pairwise_map.mpr ((pw.and nl2).imp_of_mem fun {a b} ha hb h => ?_)
  have h1 : (!lexT (toks (rank b.2)) (toks (rank a.2))) = true := h.1
  rw [rank_ahead (hp _ (mem b hb).2) (hp _ (mem a ha).2)] at h1
  have := ahead_flip (hp _ (mem a ha).2) (hp _ (mem b hb).2) h.2
  rw [this] at h1
  simpa using h1
theorem rest_z {z : Str} {d : Int} {r : List NestedKey} (h : Rest z r) : (pgK (.tup (.text z :: .num d :: r))).z = z := by cases h <;> rfl
theorem ord_nd {l : List NestedKey} (o : Ord l) : l.Nodup := o.imp fun {a b} h e => by
  rw [e, ahead_self] at h
  cases h
theorem ord_od {l : List NestedKey} (o : Ord l) (hp : ∀ k ∈ l, PgK k) : Od l := o.imp_of_mem fun {a b} ha hb h e => by
  have h2 := ahead_lt (hp a ha) (hp b hb)
  rw [h] at h2
  obtain ⟨z, d, r, rfl, hr, _⟩ := hp a ha
  obtain ⟨z', d', r', rfl, hr', _⟩ := hp b hb
  have e : d = d' := e
  subst e
  unfold kdK
  rw [rest_z hr, rest_z hr']
  refine Nat.le_of_not_lt fun lt => ?_
  rw [place_eq, place_eq, ltK, ltAll, if_pos rfl, ltAll, if_neg (fun z => by injection z with z; omega), ltK, decide_eq_false (by omega)] at h2
  cases h2
theorem ixl_at {z : Str} {r : List NestedKey} (h : Rest z r) : (kinds.map V.str)[ixK z]? = some (.str z) ∧ eqV (.str z) (.str z) = true ∧ ∀ (m : Nat) (z' : V), m < ixK z → (kinds.map V.str)[m]? = some z' → eqV z' (.str z) = false := by
  obtain ⟨a, b⟩ := ixK_at h
  refine ⟨by rw [List.getElem?_map, a]; rfl, by simp [eqV], fun m z' lt e => ?_⟩
  rw [List.getElem?_map] at e
  cases q : kinds[m]? with
  | none => rw [q] at e; cases e
  | some y =>
    rw [q] at e
    cases e
    have := b m lt
    rw [q] at this
    have ne : y ≠ z := fun w => this (by rw [w])
    simp [eqV, ne]
theorem ok_wrank (T : Tx K mg w) : FnOk P w K mg base CX0 1 T.f_w_rank T.d_w_rank ["_law_page"] (spKey rank PgK) := by
  refine T.F_w_rank.ok S_w_rank (fun vs H Q E h => ?_) (fun cdv A outer s H vs Q E hr h => ?_)
  · obtain ⟨x, k, rfl, _⟩ := h
    rfl
  · obtain ⟨x, k, rfl, hx, ⟨z, d, r, rfl, hr2, d0, d1⟩, q⟩ := h
    cases hx with
    | @tup a xs _ ha hk =>
      cases hk with
      | @cons v1 _ xs1 _ n1 hk =>
        cases n1
        cases hk with
        | @cons v2 _ xs2 _ n2 hk =>
          cases n2
          refine ⟨_, (pss_cons (ps_set (i := 1) S_w_rank.nd rfl (.inl rfl) (pe_lst (pa_cons pe_str (pa_cons pe_str (pa_cons pe_str (pa_cons pe_str (pa_cons pe_str (pa_cons pe_str (pa_cons pe_str (pa_cons pe_str pa_nil))))))))))
      (pss_one (ps_ret (pe_tup (pa_cons (pe_ix ix_tup (pv 0) pe_int (fun _ _ => rfl)) (pa_cons (pe_bm PySem.F.plainAttrs_list PySem.F.slot_list_index PySem.F.type_list_index mt_index (pv 1) (pa_cons (pe_ix ix_tup (pv 0) pe_int (fun _ _ => rfl)) pa_nil)) (pa_cons (pe_slice sl_tupA (pv 0) (po_some pe_int) po_none) pa_nil))))))), ?_⟩
          refine ⟨sz (by show 8 ≤ 1000; decide), fun p1 n1 => ?_⟩
          have sm1 := same_upd (o := .lst (kinds.map V.str)) n1
          have ha1 := sm1 _ _ ha
          have hl : upd H p1 (.lst (kinds.map V.str)) p1 = some (.lst (kinds.map V.str)) := upd_same
          obtain ⟨i1, i2, i3⟩ := ixl_at hr2
          have fl : (kinds.map V.str).all flatV = true := rfl
          refine ⟨_, rfl, a, _, _, .int d, rfl, rfl, .inl (.inl ha1), at_of (j := 1) rfl rfl, ?_⟩
          refine ⟨_, rfl, .inl ⟨rfl, _, .inl (.inl hl)⟩, _, rfl, a, _, _, .str z, rfl, rfl, .inl (.inl ha1), at_of (j := 0) rfl rfl, p1, _, .str z, ixK z, _, rfl, rfl, .inl (.inl hl), rfl, fl, i1, i2, i3, ?_⟩
          refine ⟨_, rfl, _, rfl, np_in (sl_in ha1 fun r1 H2 s2 e4 => ?_)⟩
          rw [cut2] at e4
          refine ⟨sz (by show 3 ≤ 1000; decide), fun p3 n3 => ?_⟩
          have sm3 := same_upd (o := .tup [.int d, .int (ixK z), .ref r1]) n3
          have sA := sm1.trans (s2.trans sm3)
          exact q _ _ sA (.tup upd_same (.cons (.int d) (.cons (.int _) (.cons (.tup (sm3 _ _ e4) (hk.at (.same sA))) .nil))))
theorem place_kind {k : NestedKey} (h : PgK k) : ∃ r, place k = .tup (.num (dayK k) :: .num (ixK (pgK k).z) :: r) := by
  obtain ⟨z, d, r, rfl, hr, _⟩ := h
  refine ⟨[.tup (.text z :: .num d :: r)], ?_⟩
  rw [place_eq, rest_z hr]
  rfl
theorem ahead_day {x k : NestedKey} (h : PgK x) (h' : PgK k) (lt : dayK x < dayK k) : ahead x k = true := by
  have e := ahead_lt h h'
  obtain ⟨r, e1⟩ := place_kind h
  obtain ⟨r', e2⟩ := place_kind h'
  rw [e1, e2, ltK, ltAll, if_neg (fun z => by injection z with z; omega), ltK, decide_eq_true lt] at e
  exact (Option.some.inj e).symm
theorem ahead_kind {x k : NestedKey} (h : PgK x) (h' : PgK k) (eq : dayK x = dayK k) (lt : ixK (pgK x).z < ixK (pgK k).z) : ahead x k = true := by
  have e := ahead_lt h h'
  obtain ⟨r, e1⟩ := place_kind h
  obtain ⟨r', e2⟩ := place_kind h'
  rw [e1, e2, eq, ltK, ltAll, if_pos rfl, ltAll, if_neg (fun z => by injection z with z; omega), ltK, decide_eq_true (by omega)] at e
  exact (Option.some.inj e).symm
theorem ord_day {ks : List NestedKey} (o : Ord ks) (hp : ∀ k ∈ ks, PgK k) : ks.Pairwise fun x y => dayK x ≤ dayK y := o.imp_of_mem fun {a b} ha hb h => by
  refine Int.not_lt.mp fun lt => ?_
  have := ahead_trans h (ahead_day (hp b hb) (hp a ha) lt)
  rw [ahead_self] at this
  cases this
/-- what stands ahead of a page is done ahead of it -/
theorem ord_in {ks p r : List NestedKey} {k x : NestedKey} (o : Ord ks) (e : ks = p ++ k :: r) (hx : x ∈ ks) (a : ahead x k = true) : x ∈ p := by
  rw [e] at hx o
  rcases List.mem_append.mp hx with h | h
  · exact h
  rcases List.mem_cons.mp h with rfl | h
  · rw [ahead_self] at a; cases a
  · have := ahead_trans a ((List.pairwise_cons.mp (List.pairwise_append.mp o).2.1).1 x h)
    rw [ahead_self] at this
    cases this
theorem ord_not {ks p r : List NestedKey} {k : NestedKey} (o : Ord ks) (e : ks = p ++ k :: r) : k ∉ p := fun h => by
  rw [e] at o
  have := (List.pairwise_append.mp o).2.2 k h k (.head _)
  rw [ahead_self] at this
  cases this
end
end L20

set_option Elab.async false
set_option linter.all false
set_option maxRecDepth 100000
set_option maxHeartbeats 4000000
namespace L20
open PySem PySem.Spec PyProof.Rows L2 My
section
variable {P : Program} {w : World} {K : PySem.W.Frag} {mg : Str → Option Value} {base : Heap}
def weekL : List Int := [0, 1, 2, 3, 4, 5, 6]
abbrev Sg := Str × Str × Bool × NestedKey
def sigU (u : Due) : Sg := (u.ow, u.od, u.vis, u.pg)
structure B20 where
  a : Str
  b : Str
  c : Str
  bg : Int
  home : List Int
  z : Str
  day : Int
  met : Bool
  mo : Option (Int × Str × Int)
  gs : List NestedKey
abbrev B20.back (B : B20) : NestedKey := goK B.z B.day B.a B.b
def B20.hm (B : B20) (n : Str) : List Int := if n = B.b then B.home else weekL
inductive B20.Pag (B : B20) : NestedKey → Prop
  | ho {n : Str} : n ∈ [B.a, B.b, B.c] → B20.Pag B (houseK B.bg n (B.hm n))
  | go {k : NestedKey} : k ∈ B.gs → B20.Pag B k
  | mo {t : Int × Str × Int} : B.mo = some t → B20.Pag B (mournK t.1 t.2.1 t.2.2)
  | back : B20.Pag B B.back
/-- a going ahead of the way back -/
def B20.Gg (B : B20) (k : NestedKey) : Prop := ∃ z d x y, k = goK z d x y ∧ B.bg ≤ d ∧ d < B.day ∧ (∀ t, B.mo = some t → d < t.1) ∧ ((x = B.b ∧ y = B.a ∧ (z = "visit" ∨ z = "card")) ∨ (x = B.c ∧ y = B.a ∧ z = "visit") ∨ (x = B.b ∧ y = B.c ∧ z = "card"))
structure B20.Ok (B : B20) : Prop where
  ab : B.a ≠ B.b
  ac : B.a ≠ B.c
  bc : B.b ≠ B.c
  z : B.z = "visit" ∨ B.z = "card"
  lt : B.bg < B.day
  gs : ∀ k ∈ B.gs, B.Gg k
  mo : ∀ t, B.mo = some t → B.bg ≤ t.1 ∧ t.1 ≤ B.day ∧ B.day < t.1 + t.2.2 ∧ (t.2.1 = B.a ∨ t.2.1 = B.b)
  me : B.met = (decide (B.z = "visit") && (decide (B.day % 7 ∈ B.home) && B.mo.isNone))
def isG (k : NestedKey) : Bool := decide ((pgK k).z = "visit" ∨ (pgK k).z = "card")
def dueS (k : NestedKey) : Sg := ((pgK k).b.getD "", (pgK k).a, decide ((pgK k).z = "visit"), k)
structure B20.Row (B : B20) (p : List NestedKey) (s : WS) : Prop where
  hs : ∀ n ∈ [B.a, B.b, B.c], houseK B.bg n (B.hm n) ∈ p → s.hs n = some (B.hm n)
  kn : ∀ x ∈ s.kn, x ∈ [B.a, B.b, B.c] ∧ houseK B.bg x (B.hm x) ∈ p
  L : ∀ nm x, dayB s.L nm x = true ↔ ∃ t, B.mo = some t ∧ mournK t.1 t.2.1 t.2.2 ∈ p ∧ t.2.1 = nm ∧ t.1 ≤ x ∧ x < t.1 + t.2.2
  ds : s.ds.map sigU = (p.filter isG).map dueS
  an : s.an = []
def B20.anB (B : B20) (q : Sg) : Bool := decide ((q.1, q.2.1) = (B.a, B.b)) && (B.met || !q.2.2.1)
structure B20.Fin (B : B20) (D : List Sg) (s : WS) : Prop where
  ds : s.ds.map sigU = if D.filter B.anB = [] then D ++ [(B.b, B.a, B.met, B.back)] else D.filter fun q => !B.anB q
  an : s.an.map (fun p => (p.1, p.2.map sigU)) = if D.filter B.anB = [] then [] else [(B.back, D.filter B.anB)]
  mkl : ∃ M, s.mks = M ++ [markS B.back (if D.filter B.anB = [] then .tup [.text "due"] else .tup [.text "answer", .num ((D.filter B.anB).length : Int)])]
theorem sig_filter (f : Sg → Bool) : ∀ ds : List Due, (ds.filter fun u => f (sigU u)).map sigU = (ds.map sigU).filter f
  | [] => rfl
  | u :: ds => by
    rw [List.filter_cons, List.map_cons, List.filter_cons]
    split
    · rw [List.map_cons, sig_filter f ds]
    · exact sig_filter f ds
theorem mem_ne {p : List NestedKey} {k x : NestedKey} (n : x ≠ k) : x ∈ p ++ [k] ↔ x ∈ p := by
  rw [List.mem_append, List.mem_singleton]
  exact ⟨fun h => h.resolve_right n, .inl⟩
theorem kind_ne {k k' : NestedKey} {z z' : Str} (h : (pgK k).z = z) (h' : (pgK k').z = z') (n : z ≠ z') : k ≠ k' := fun e => n (by rw [← h, ← h', e])
theorem z_house (d : Int) (n : Str) (ws : List Int) : (pgK (houseK d n ws)).z = "house" := by rw [pg_house]
theorem z_mourn (d : Int) (n : Str) (m : Int) : (pgK (mournK d n m)).z = "mourn" := rfl
theorem isG_iff {k : NestedKey} : isG k = true ↔ (pgK k).z = "visit" ∨ (pgK k).z = "card" := decide_eq_true_iff
theorem isG_not {k : NestedKey} {z : Str} (h : (pgK k).z = z) (n1 : z ≠ "visit") (n2 : z ≠ "card") : isG k = false := by
  unfold isG
  rw [h, decide_eq_false]
  exact fun e => e.elim n1 n2
structure B20.Pos (B : B20) (p : List NestedKey) (k : NestedKey) : Prop where
  nk : k ∉ p
  dy : ∀ x ∈ p, dayK x ≤ dayK k
  bf : ∀ x, B.Pag x → ahead x k = true → x ∈ p
  pk : ∀ x, B.Pag x → PgK x
  pg : ∀ x ∈ p, B.Pag x
section
variable {B : B20} {t1 t2 : Int} {p : List NestedKey} {k : NestedKey} {s : WS}
theorem filt_snoc_no (h : isG k = false) : (p ++ [k]).filter isG = p.filter isG := by
  rw [List.filter_append, List.filter_cons, if_neg (by rw [h]; decide), List.filter_nil, List.append_nil]
theorem filt_snoc_yes (h : isG k = true) : (p ++ [k]).filter isG = p.filter isG ++ [k] := by
  rw [List.filter_append, List.filter_cons, if_pos h, List.filter_nil]
theorem B20.Row.house (r : B.Row p s) {n : Str} (hn : n ∈ [B.a, B.b, B.c]) (ps : B.Pos p (houseK B.bg n (B.hm n))) : B.Row (p ++ [houseK B.bg n (B.hm n)]) (doS s (houseK B.bg n (B.hm n))) := by
  have nkn : n ∉ s.kn := fun z => ps.nk (r.kn n z).2
  have zk := z_house B.bg n (B.hm n)
  rw [do_house nkn]
  refine ⟨fun m hm hp => ?_, fun x hx => ?_, fun nm x => ?_, ?_, r.an⟩
  · show setH s.hs n (some (B.hm n)) m = _
    unfold setH
    split
    · rename_i c; rw [c]
    · rename_i c
      exact r.hs m hm ((mem_ne fun z => c (house_a z)).mp hp)
  · rcases List.mem_append.mp (show x ∈ s.kn ++ [n] from hx) with h | h
    · exact ⟨(r.kn x h).1, List.mem_append_left _ (r.kn x h).2⟩
    · rw [List.mem_singleton.mp h]
      exact ⟨hn, List.mem_append_right _ (.head _)⟩
  · refine (r.L nm x).trans (exists_congr fun t => and_congr_right fun _ => and_congr_left fun _ => ?_)
    exact (mem_ne (kind_ne (z_mourn _ _ _) zk (by decide +kernel))).symm
  · show s.ds.map sigU = _
    rw [r.ds, filt_snoc_no (isG_not zk (by decide +kernel) (by decide +kernel))]
theorem B20.Pos.three (ps : B.Pos p k) (ok : B.Ok) (pk : B.Pag k) (h : (pgK k).z ≠ "house") : ∀ n ∈ [B.a, B.b, B.c], houseK B.bg n (B.hm n) ∈ p := fun n hn => by
  refine ps.bf _ (.ho hn) ?_
  have ph := ps.pk _ (.ho hn)
  have pkk := ps.pk _ pk
  have lt : B.bg ≤ dayK k := by
    cases pk with
    | ho _ => exact Int.le_refl _
    | go hk =>
      obtain ⟨z, d, x, y, rfl, h1, _⟩ := ok.gs _ hk
      exact h1
    | mo e => exact (ok.mo _ e).1
    | back => exact Int.le_of_lt ok.lt
  by_cases c : B.bg = dayK k
  · refine ahead_kind ph pkk c ?_
    rw [z_house]
    have h0 : ixK ("house" : Str) = 0 := by decide +kernel
    rw [h0]
    cases pk with
    | ho _ => exact absurd (z_house _ _ _) h
    | go hk =>
      obtain ⟨z, d, x, y, rfl, _, _, _, hz⟩ := ok.gs _ hk
      show 0 < ixK z
      rcases hz with ⟨_, _, e | e⟩ | ⟨_, _, e⟩ | ⟨_, _, e⟩ <;> (rw [e]; decide +kernel)
    | mo e => rw [z_mourn]; decide +kernel
    | back =>
      show 0 < ixK B.z
      rcases ok.z with e | e <;> (rw [e]; decide +kernel)
  · exact ahead_day ph pkk (by show B.bg < dayK k; omega)
theorem ds_ow (ok : B.Ok) (r : B.Row p s) (pg : ∀ x ∈ p, B.Pag x) (nb : B.back ∉ p) : ∀ u ∈ s.ds, (u.ow = B.a ∧ u.od = B.b) ∨ (u.ow = B.a ∧ u.od = B.c) ∨ (u.ow = B.c ∧ u.od = B.b) := fun u hu => by
  have : sigU u ∈ (p.filter isG).map dueS := by rw [← r.ds]; exact List.mem_map.mpr ⟨u, hu, rfl⟩
  obtain ⟨k, hk, e⟩ := List.mem_map.mp this
  obtain ⟨h1, h2⟩ := List.mem_filter.mp hk
  have h2 := isG_iff.mp h2
  have e1 : u.ow = (pgK k).b.getD "" := (congrArg (fun q : Sg => q.1) e).symm
  have e2 : u.od = (pgK k).a := (congrArg (fun q : Sg => q.2.1) e).symm
  cases pg k h1 with
  | ho _ => rw [z_house] at h2; exact absurd h2 (by decide +kernel)
  | mo _ => rw [z_mourn] at h2; exact absurd h2 (by decide +kernel)
  | back => exact absurd h1 nb
  | go hk =>
    obtain ⟨z, d, x, y, rfl, _, _, _, hz⟩ := ok.gs _ hk
    rw [e1, e2, pg_go]
    rcases hz with ⟨rfl, rfl, _⟩ | ⟨rfl, rfl, _⟩ | ⟨rfl, rfl, _⟩
    · exact .inl ⟨rfl, rfl⟩
    · exact .inr (.inl ⟨rfl, rfl⟩)
    · exact .inr (.inr ⟨rfl, rfl⟩)
theorem week_in (d : Int) : decide (d % 7 ∈ weekL) = true := by
  refine decide_eq_true ?_
  have h1 := Int.emod_nonneg d (show (7 : Int) ≠ 0 by decide)
  have h2 := Int.emod_lt_of_pos d (show (0 : Int) < 7 by decide)
  generalize d % 7 = m at h1 h2 ⊢
  unfold weekL
  simp only [List.mem_cons, List.not_mem_nil, or_false]
  omega
theorem B20.Row.go (r : B.Row p s) (ok : B.Ok) (hk : k ∈ B.gs) (ps : B.Pos p k) : B.Row (p ++ [k]) (doS s k) := by
  obtain ⟨z, d, x, y, rfl, g1, g2, g3, hz⟩ := ok.gs k hk
  have hz2 : z = "card" ∨ z = "visit" := by rcases hz with ⟨_, _, e | e⟩ | ⟨_, _, e⟩ | ⟨_, _, e⟩; exact .inr e; exact .inl e; exact .inr e; exact .inl e
  have nb : B.back ∉ p := fun h => by have := ps.dy _ h; have : B.day ≤ d := this; omega
  have three := ps.three ok (.go hk) (by show z ≠ "house"; rcases hz2 with e | e <;> (rw [e]; decide +kernel))
  have hxy : x ∈ [B.a, B.b, B.c] ∧ y ∈ [B.a, B.b, B.c] ∧ (z = "visit" → y = B.a) := by
    rcases hz with ⟨rfl, rfl, _⟩ | ⟨rfl, rfl, _⟩ | ⟨rfl, rfl, e⟩
    · exact ⟨.tail _ (.head _), .head _, fun _ => rfl⟩
    · exact ⟨.tail _ (.tail _ (.head _)), .head _, fun _ => rfl⟩
    · exact ⟨.tail _ (.head _), .tail _ (.tail _ (.head _)), fun h => by rw [e] at h; exact absurd h (by decide +kernel)⟩
  have hX := r.hs x hxy.1 (three x hxy.1)
  have hY := r.hs y hxy.2.1 (three y hxy.2.1)
  have no : ∀ n, dayB s.L n d = false := fun n => by
    cases c : dayB s.L n d with
    | false => rfl
    | true =>
      obtain ⟨t, ht, _, _, h, _⟩ := (r.L n d).mp c
      have := g3 t ht
      omega
  have met : metB s (pgK (goK z d x y)) = decide (z = "visit") := by
    rw [pg_go]
    unfold metB homeB
    dsimp only [Option.getD_some]
    rw [hY, no, no]
    by_cases c : z = "visit"
    · have : B.hm y = weekL := by unfold B20.hm; rw [hxy.2.2 c, if_neg ok.ab]
      rw [this]
      show (decide (z = "visit") && (decide (d % 7 ∈ weekL) && true && true)) = _
      rw [week_in, c]
      rfl
    · rw [decide_eq_false c]
      rfl
  have non : s.ds.filter (ansB (metB s (pgK (goK z d x y))) (pgK (goK z d x y))) = [] := List.filter_eq_nil_iff.mpr fun u hu => by
    rw [pg_go]
    unfold ansB
    dsimp only [Option.getD_some]
    have : ¬ ((u.ow, u.od) = (x, y)) := fun e => by
      have e1 : u.ow = x := congrArg Prod.fst e
      have e2 : u.od = y := congrArg Prod.snd e
      rcases ds_ow ok r ps.pg nb u hu with ⟨h1, h2⟩ | ⟨h1, h2⟩ | ⟨h1, h2⟩ <;> rcases hz with ⟨h3, h4, _⟩ | ⟨h3, h4, _⟩ | ⟨h3, h4, _⟩
      · exact ok.ab (h1.symm.trans (e1.trans h3))
      · exact ok.ac (h1.symm.trans (e1.trans h3))
      · exact ok.ab (h1.symm.trans (e1.trans h3))
      · exact ok.ab (h1.symm.trans (e1.trans h3))
      · exact ok.ac (h1.symm.trans (e1.trans h3))
      · exact ok.ab (h1.symm.trans (e1.trans h3))
      · exact ok.bc (h3.symm.trans (e1.symm.trans h1))
      · exact ok.ab (h4.symm.trans (e2.symm.trans h2))
      · exact ok.bc (h3.symm.trans (e1.symm.trans h1))
    rw [decide_eq_false this, Bool.false_and]
    exact Bool.false_ne_true
  rw [do_going hz2 (by rw [hX]; rfl) (by rw [hY]; rfl)]
  have eg : (goS s (goK z d x y)).1 = { s with ds := s.ds ++ [⟨y, x, decide (z = "visit"), goK z d x y, []⟩] } := by
    unfold goS
    rw [if_pos non, met]
    rfl
  have zg : isG (goK z d x y) = true := isG_iff.mpr (by rcases hz2 with e | e; exact .inr e; exact .inl e)
  rw [eg]
  have nh : ∀ n w, houseK B.bg n w ≠ goK z d x y := fun n w e => by
    have e := congrArg (fun k => (pgK k).z) e
    rw [z_house] at e
    have e : ("house" : Str) = z := e
    rcases hz2 with h | h <;> (rw [h] at e; exact absurd e (by decide +kernel))
  have nm : ∀ t : Int × Str × Int, mournK t.1 t.2.1 t.2.2 ≠ goK z d x y := fun t e => by
    have e : ("mourn" : Str) = z := congrArg (fun k => (pgK k).z) e
    rcases hz2 with h | h <;> (rw [h] at e; exact absurd e (by decide +kernel))
  refine ⟨fun n hn hp => r.hs n hn ((mem_ne (nh n _)).mp hp), fun n hn => ⟨(r.kn n hn).1, List.mem_append_left _ (r.kn n hn).2⟩, fun nm' x' => ?_, ?_, r.an⟩
  · refine (r.L nm' x').trans (exists_congr fun t => and_congr_right fun _ => and_congr_left fun _ => ?_)
    exact (mem_ne (nm t)).symm
  · show (s.ds ++ [_]).map sigU = _
    rw [List.map_append, r.ds, filt_snoc_yes zg, List.map_append]
    rfl
theorem B20.Row.mo (r : B.Row p s) (ok : B.Ok) {t : Int × Str × Int} (ht : B.mo = some t) (ps : B.Pos p (mournK t.1 t.2.1 t.2.2)) : B.Row (p ++ [mournK t.1 t.2.1 t.2.2]) (doS s (mournK t.1 t.2.1 t.2.2)) := by
  have three := ps.three ok (.mo ht) (by rw [z_mourn]; decide +kernel)
  have tn : t.2.1 ∈ [B.a, B.b, B.c] := by
    rcases (ok.mo t ht).2.2.2 with e | e
    · rw [e]; exact .head _
    · rw [e]; exact .tail _ (.head _)
  have hs := r.hs _ tn (three _ tn)
  rw [do_mourn (by rw [hs]; rfl)]
  have zk := z_mourn t.1 t.2.1 t.2.2
  refine ⟨fun n hn hp => r.hs n hn ((mem_ne (kind_ne (z_house _ _ _) zk (by decide +kernel))).mp hp), fun n hn => ⟨(r.kn n hn).1, List.mem_append_left _ (r.kn n hn).2⟩, fun nm x => ?_, ?_, r.an⟩
  · show dayB (s.L ++ [(t.2.1, t.1, t.2.2)]) nm x = true ↔ _
    rw [dayB_one, r.L]
    constructor
    · rintro (⟨t', h1, h2, h3⟩ | h)
      · exact ⟨t', h1, List.mem_append_left _ h2, h3⟩
      · exact ⟨t, ht, List.mem_append_right _ (.head _), h⟩
    · rintro ⟨t', h1, h2, h3⟩
      rw [ht] at h1
      cases h1
      exact .inr h3
  · show s.ds.map sigU = _
    rw [r.ds, filt_snoc_no (isG_not zk (by decide +kernel) (by decide +kernel))]
theorem B20.Row.back (r : B.Row p s) (ok : B.Ok) (ps : B.Pos p B.back) : B.Fin ((p.filter isG).map dueS) (doS s B.back) := by
  have hz2 : B.z = "card" ∨ B.z = "visit" := ok.z.symm
  have three := ps.three ok .back (by show B.z ≠ "house"; rcases hz2 with e | e <;> (rw [e]; decide +kernel))
  have hA := r.hs B.a (.head _) (three _ (.head _))
  have hB := r.hs B.b (.tail _ (.head _)) (three _ (.tail _ (.head _)))
  have ehm : B.hm B.b = B.home := by unfold B20.hm; rw [if_pos rfl]
  have met : metB s (pgK B.back) = B.met := by
    rw [pg_go, ok.me]
    unfold metB homeB
    dsimp only [Option.getD_some]
    rw [hB, ehm]
    show (decide (B.z = "visit") && (decide (B.day % 7 ∈ B.home) && !dayB s.L B.b B.day && !dayB s.L B.a B.day)) = _
    congr 1
    rw [Bool.and_assoc]
    congr 1
    cases e : B.mo with
    | none =>
      have no : ∀ n, dayB s.L n B.day = false := fun n => by
        cases c : dayB s.L n B.day with
        | false => rfl
        | true =>
          obtain ⟨t, ht, _⟩ := (r.L n B.day).mp c
          rw [e] at ht
          cases ht
      rw [no, no]
      rfl
    | some t =>
      obtain ⟨m1, m2, m3, m4⟩ := ok.mo t e
      have inn : mournK t.1 t.2.1 t.2.2 ∈ p := by
        refine ps.bf _ (.mo e) ?_
        have h1 := ps.pk _ (.mo e)
        have h2 := ps.pk _ .back
        by_cases c : t.1 = B.day
        · refine ahead_kind h1 h2 c ?_
          rw [z_mourn]
          show ixK "mourn" < ixK B.z
          rcases ok.z with e | e <;> (rw [e]; decide +kernel)
        · exact ahead_day h1 h2 (by show t.1 < B.day; omega)
      have yes : dayB s.L t.2.1 B.day = true := (r.L _ _).mpr ⟨t, e, inn, rfl, m2, m3⟩
      rcases m4 with h | h
      · rw [← h, yes]; simp
      · rw [← h, yes]; simp
  have an : ∀ u, ansB (metB s (pgK B.back)) (pgK B.back) u = B.anB (sigU u) := fun u => by
    rw [met, pg_go]
    rfl
  have f1 : (s.ds.filter (ansB (metB s (pgK B.back)) (pgK B.back))).map sigU = ((p.filter isG).map dueS).filter B.anB := by
    rw [show s.ds.filter (ansB (metB s (pgK B.back)) (pgK B.back)) = s.ds.filter fun u => B.anB (sigU u) from List.filter_congr fun u _ => an u, sig_filter, r.ds]
  have f2 : (s.ds.filter fun u => !ansB (metB s (pgK B.back)) (pgK B.back) u).map sigU = ((p.filter isG).map dueS).filter fun q => !B.anB q := by
    rw [show (s.ds.filter fun u => !ansB (metB s (pgK B.back)) (pgK B.back) u) = s.ds.filter fun u => (fun q => !B.anB q) (sigU u) from List.filter_congr fun u _ => by rw [an u], sig_filter (fun q => !B.anB q), r.ds]
  rw [do_going hz2 (by rw [hA]; rfl) (by rw [hB]; rfl)]
  by_cases c : s.ds.filter (ansB (metB s (pgK B.back)) (pgK B.back)) = []
  · have e0 : ((p.filter isG).map dueS).filter B.anB = [] := by rw [← f1, c]; rfl
    have eg : goS s B.back = ({ s with ds := s.ds ++ [⟨B.b, B.a, B.met, B.back, []⟩] }, .tup [.text "due"]) := by
      unfold goS
      rw [if_pos c, met]
      rfl
    rw [eg]
    refine ⟨?_, ?_, s.mks, ?_⟩
    · rw [if_pos e0]
      show (s.ds ++ [_]).map sigU = _
      rw [List.map_append, r.ds]
      rfl
    · rw [if_pos e0]
      show s.an.map _ = []
      rw [r.an]
      rfl
    · rw [if_pos e0]
  · have e0 : ¬ ((p.filter isG).map dueS).filter B.anB = [] := fun z => c (List.map_eq_nil_iff.mp (f1.trans z))
    have eg : goS s B.back = ({ s with ds := s.ds.filter fun u => !ansB (metB s (pgK B.back)) (pgK B.back) u, an := s.an ++ [(B.back, s.ds.filter (ansB (metB s (pgK B.back)) (pgK B.back)))] }, .tup [.text "answer", .num ((s.ds.filter (ansB (metB s (pgK B.back)) (pgK B.back))).length : Int)]) := by
      unfold goS
      rw [if_neg c]
    rw [eg]
    have fl := congrArg List.length f1
    rw [List.length_map] at fl
    refine ⟨?_, ?_, s.mks, ?_⟩
    · rw [if_neg e0]
      exact f2
    · rw [if_neg e0]
      show (s.an ++ [_]).map _ = _
      rw [r.an, List.nil_append, List.map_cons, List.map_nil]
      show [(B.back, (s.ds.filter _).map sigU)] = _
      rw [f1]
    · rw [if_neg e0, fl]
theorem B20.Row.end {e : Int} (r : B.Row p s) : B.Row p (endS t1 t2 s e) := by
  refine { hs := r.hs, kn := r.kn, L := r.L, ds := ?_, an := r.an }
  rw [← r.ds]
  show (s.ds.map _).map sigU = _
  rw [List.map_map]
  refine List.map_congr_left fun u _ => ?_
  show sigU (if _ then _ else _) = _
  split <;> rfl
theorem B20.Fin.end {e : Int} {D : List Sg} (r : B.Fin D s) : B.Fin D (endS t1 t2 s e) := by
  refine { ds := ?_, an := r.an, mkl := r.mkl }
  rw [← r.ds]
  show (s.ds.map _).map sigU = _
  rw [List.map_map]
  refine List.map_congr_left fun u _ => ?_
  show sigU (if _ then _ else _) = _
  split <;> rfl
end
/-- behind the day of the way back -/
theorem st20 {B : B20} (ok : B.Ok) {ks : List NestedKey} {t1 t2 : Int} (o : Ord ks) (pg : ∀ k, k ∈ ks ↔ B.Pag k) (pk : ∀ k ∈ ks, PgK k) : B.Fin (((ks.filter isG).filter fun k => decide (k ≠ B.back)).map dueS) (stW t1 t2 ks B.day B.bg) := by
  have od := ord_day o pk
  have lo : ∀ k ∈ ks, B.bg ≤ dayK k ∧ dayK k ≤ B.day := fun k hk => by
    have := ok.lt
    cases (pg k).mp hk with
    | ho _ => exact ⟨Int.le_refl _, Int.le_of_lt ok.lt⟩
    | go h =>
      obtain ⟨z, d, x, y, rfl, h1, h2, _⟩ := ok.gs _ h
      exact ⟨h1, by show d ≤ B.day; omega⟩
    | mo e => exact ⟨(ok.mo _ e).1, (ok.mo _ e).2.1⟩
    | back => exact ⟨Int.le_of_lt ok.lt, Int.le_refl _⟩
  have last : ∀ x ∈ ks, x ≠ B.back → ahead x B.back = true := fun x hx n => by
    have px := pk x hx
    have pb := pk _ ((pg _).mpr .back)
    have l := (lo x hx).2
    by_cases c : dayK x = B.day
    · refine ahead_kind px pb c ?_
      have hb : 5 < ixK (pgK B.back).z := by
        show 5 < ixK B.z
        rcases ok.z with e | e <;> (rw [e]; decide +kernel)
      refine Nat.lt_of_le_of_lt ?_ hb
      cases (pg x).mp hx with
      | ho _ => rw [z_house]; decide +kernel
      | go h =>
        obtain ⟨z, d, x, y, rfl, h1, h2, _⟩ := ok.gs _ h
        have c : d = B.day := c
        omega
      | mo e => rw [z_mourn]; decide +kernel
      | back => exact absurd rfl n
    · exact ahead_day px pb (by show dayK x < B.day; omega)
  have main := st_ind (t1 := t1) (t2 := t2) (lo := B.bg) (day := B.day) (ks := ks) (fun p s => (B.back ∉ p → B.Row p s) ∧ (B.back ∈ p → B.Fin (((ks.filter isG).filter fun k => decide (k ≠ B.back)).map dueS) s)) od (by have := ok.lt; omega) (fun k hk => (lo k hk).1) ?_ ?_ ?_
  · exact main.2 (List.mem_filter.mpr ⟨(pg _).mpr .back, decide_eq_true (Int.le_refl _)⟩)
  · refine ⟨fun _ => ⟨(fun n _ h => by cases h), (fun x hx => by cases hx), (fun nm x => ⟨(fun h => by cases h), (fun ⟨t, _, h, _⟩ => by cases h)⟩), rfl, rfl⟩, fun h => by cases h⟩
  · rintro p k r s e ⟨h1, h2⟩
    have hk : k ∈ ks := by rw [e]; exact List.mem_append_right _ (.head _)
    have ps : B.Pos p k := ⟨ord_not o e, fun x hx => by
      rw [e] at od
      exact (List.pairwise_append.mp od).2.2 x hx k (.head _), fun x hx a => ord_in o e ((pg x).mpr hx) a, fun x hx => pk x ((pg x).mpr hx), fun x hx => (pg x).mp (by rw [e]; exact List.mem_append_left _ hx)⟩
    have nbp : k ≠ B.back → B.back ∉ p := fun n h => by
      have a1 := last k hk n
      have : ahead B.back k = true := by
        rw [e] at o
        exact (List.pairwise_append.mp o).2.2 _ h k (.head _)
      have := ahead_trans a1 this
      rw [ahead_self] at this
      cases this
    by_cases c : k = B.back
    · subst c
      have R := h1 ps.nk
      have F := R.back ok ps
      have en : p = ks.filter fun k => decide (k ≠ B.back) := by
        have rn : r = [] := by
          cases hr : r with
          | nil => rfl
          | cons y r' =>
            have hy : y ∈ ks := by rw [e, hr]; exact List.mem_append_right _ (.tail _ (.head _))
            have ne : y ≠ B.back := fun z => by
              have := ord_nd o
              rw [e, hr, z] at this
              exact (List.nodup_cons.mp (List.nodup_append.mp this).2.1).1 (.head _)
            have a1 := last y hy ne
            have a2 : ahead B.back y = true := by
              rw [e, hr] at o
              exact (List.pairwise_cons.mp (List.pairwise_append.mp o).2.1).1 y (.head _)
            have := ahead_trans a1 a2
            rw [ahead_self] at this
            cases this
        rw [e, rn, List.filter_append, List.filter_cons, if_neg (by simp), List.filter_nil, List.append_nil]
        exact (filt_all (fun x hx => by rw [decide_eq_true_eq]; intro z; exact ps.nk (by rw [← z]; exact hx))).symm
      refine ⟨fun h => absurd (List.mem_append_right _ (.head _)) h, fun _ => ?_⟩
      rw [List.filter_filter, show (fun a => decide (a ≠ B.back) && isG a) = fun a => isG a && decide (a ≠ B.back) from funext fun a => Bool.and_comm _ _, ← List.filter_filter, ← en]
      exact F
    · have nb := nbp c
      have R := h1 nb
      refine ⟨fun _ => ?_, fun h => absurd ((mem_ne (fun z => c z.symm)).mp h) nb⟩
      cases (pg k).mp hk with
      | ho hn => exact R.house hn ps
      | go h => exact R.go ok h ps
      | mo h => exact R.mo ok h ps
      | back => exact absurd rfl c
  · rintro p r s d e _ _ _ ⟨h1, h2⟩
    exact ⟨fun h => (h1 h).end, fun h => (h2 h).end⟩
end
end L20

set_option Elab.async false
set_option linter.all false
set_option maxRecDepth 100000
set_option maxHeartbeats 4000000
namespace L20
open PySem PySem.Spec PyProof.Rows L2 My
section
variable {P : Program} {w : World} {K : PySem.W.Frag} {mg : Str → Option Value} {base : Heap}
/-- rows' order -/
def bS (p q : Sg) : Bool := if p.1 = q.1 then (if p.2.1 = q.2.1 then ahead p.2.2.2 q.2.2.2 else decide (p.2.1.cps.toList < q.2.1.cps.toList)) else decide (p.1.cps.toList < q.1.cps.toList)
def rk (q : Sg) : NestedKey := .tup [.text q.1, .text q.2.1, rank q.2.2.2, .text (sortS q.2.2.1), q.2.2.2]
def qK (q : Sg) : NestedKey := .tup [.text q.1, .text q.2.1, .text (sortS q.2.2.1), q.2.2.2]
theorem rank_inj {k k' : NestedKey} (h : PgK k) (h' : PgK k') (e : rank k = rank k') : k = k' := by
  refine Decidable.byContradiction fun ne => ?_
  have e1 := rank_ahead h h'
  have e2 := rank_ahead h' h
  rw [e] at e1 e2
  have f := ahead_flip h h' ne
  rw [← e1, ← e2] at f
  generalize lexT (toks (rank k')) (toks (rank k')) = b at f
  cases b <;> cases f
theorem rk_lt {p q : Sg} (hp : PgK p.2.2.2) (hq : PgK q.2.2.2) (hv : p.2.2.2 = q.2.2.2 → p.2.2.1 = q.2.2.1) : ltAll [.text p.1, .text p.2.1, rank p.2.2.2, .text (sortS p.2.2.1), p.2.2.2] [.text q.1, .text q.2.1, rank q.2.2.2, .text (sortS q.2.2.1), q.2.2.2] = some (bS p q) := by
  unfold bS
  rw [ltAll]
  by_cases c1 : p.1 = q.1
  · rw [if_pos (by rw [c1]), if_pos c1, ltAll]
    by_cases c2 : p.2.1 = q.2.1
    · rw [if_pos (by rw [c2]), if_pos c2, ltAll]
      by_cases c3 : p.2.2.2 = q.2.2.2
      · rw [if_pos (by rw [c3]), hv c3, c3, ltAll_self, ahead_self]
      · rw [if_neg (fun z => c3 (rank_inj hp hq z)), rank_place hp hq, ahead_lt hp hq]
    · rw [if_neg (fun z => c2 (by injection z)), if_neg c2, ltK]
  · rw [if_neg (fun z => c1 (by injection z)), if_neg c1, ltK]
theorem rk_lex {p q : Sg} (hp : PgK p.2.2.2) (hq : PgK q.2.2.2) (hv : p.2.2.2 = q.2.2.2 → p.2.2.1 = q.2.2.1) : lexT (toks (rk p)) (toks (rk q)) = bS p q := lex_tup (rk_lt hp hq hv)
theorem place_inj {k k' : NestedKey} (h : PgK k) (h' : PgK k') (e : place k = place k') : k = k' := by
  obtain ⟨z1, d1, r1, rfl, _⟩ := h
  obtain ⟨z2, d2, r2, rfl, _⟩ := h'
  rw [place_eq, place_eq] at e
  injection e with e
  injection e with _ e
  injection e with _ e
  injection e with e _
theorem leD_bS {u v : Due} (hu : PgK u.pg) (hv : PgK v.pg) : leD u v = !bS (sigU v) (sigU u) := by
  have e : ltAll [.text v.ow, .text v.od, place v.pg] [.text u.ow, .text u.od, place u.pg] = some (bS (sigU v) (sigU u)) := by
    show _ = some (if v.ow = u.ow then (if v.od = u.od then ahead v.pg u.pg else decide (v.od.cps.toList < u.od.cps.toList)) else decide (v.ow.cps.toList < u.ow.cps.toList))
    rw [ltAll]
    by_cases c1 : v.ow = u.ow
    · rw [if_pos (by rw [c1]), if_pos c1, ltAll]
      by_cases c2 : v.od = u.od
      · rw [if_pos (by rw [c2]), if_pos c2, ltAll]
        by_cases c3 : v.pg = u.pg
        · rw [if_pos (by rw [c3]), c3, ahead_self]; rfl
        · rw [if_neg (fun z => c3 (place_inj hv hu z)), ahead_lt hv hu]
      · rw [if_neg (fun z => c2 (by injection z)), if_neg c2, ltK]
    · rw [if_neg (fun z => c1 (by injection z)), if_neg c1, ltK]
  show (!lexT (toks (.tup [.text v.ow, .text v.od, place v.pg])) (toks (.tup [.text u.ow, .text u.od, place u.pg]))) = _
  rw [lex_tup e]
theorem bS_anti {p q : Sg} (hp : PgK p.2.2.2) (hq : PgK q.2.2.2) (hv : p.2.2.2 = q.2.2.2 → p = q) (h1 : bS p q = false) (h2 : bS q p = false) : p = q := by
  have tx : ∀ {x y : Str}, decide (x.cps.toList < y.cps.toList) = false → decide (y.cps.toList < x.cps.toList) = false → x = y := fun h1 h2 => text_total (of_decide_eq_false h1) (of_decide_eq_false h2)
  unfold bS at h1 h2
  by_cases c1 : p.1 = q.1
  · rw [if_pos c1] at h1
    rw [if_pos c1.symm] at h2
    by_cases c2 : p.2.1 = q.2.1
    · rw [if_pos c2] at h1
      rw [if_pos c2.symm] at h2
      by_cases c3 : p.2.2.2 = q.2.2.2
      · exact hv c3
      · rw [ahead_flip hp hq c3, h1] at h2
        cases h2
    · rw [if_neg c2] at h1
      rw [if_neg (fun z => c2 z.symm)] at h2
      exact absurd (tx h1 h2) c2
  · rw [if_neg c1] at h1
    rw [if_neg (fun z => c1 z.symm)] at h2
    exact absurd (tx h1 h2) c1
def leS (p q : Sg) : Bool := !bS q p
def leK (a b : NestedKey) : Bool := !lexT (toks b) (toks a)
theorem rk_sort {rs : List Sg} (hp : ∀ q ∈ rs, PgK q.2.2.2) (hv : ∀ p ∈ rs, ∀ q ∈ rs, p.2.2.2 = q.2.2.2 → p = q) : (rs.mergeSort leS).map rk = (rs.map rk).mergeSort leK := by
  refine List.map_mergeSort (r := leS) (f := rk) (l := rs) (s := leK) fun a ha b hb => ?_
  show _ = !lexT (toks (rk b)) (toks (rk a))
  rw [rk_lex (hp b hb) (hp a ha) (fun z => by rw [hv b hb a ha z])]
  rfl
open PySem.SeqAt PySem.W in
theorem sortU_pw (ds : List Due) : (sortU ds).Pairwise fun u v => leD u v = true := by
  unfold sortU
  exact sort_pairwise (sortLe_total (listOrd itemOrd) false fun b : Due => toks (placeD (dueK b))) ds
open PySem.SeqAt PySem.W in
/-- the dues as told, the rows sorted: of one order -/
theorem told_rows {ds : List Due} {rs : List Sg} (pm : (ds.map sigU).Perm rs) (hp : ∀ q ∈ rs, PgK q.2.2.2) (hv : ∀ p ∈ rs, ∀ q ∈ rs, p.2.2.2 = q.2.2.2 → p = q) : (sortU ds).map sigU = rs.mergeSort leS := by
  have pd : ∀ u ∈ ds, PgK u.pg := fun u hu => hp _ (pm.mem_iff.mp (List.mem_map.mpr ⟨u, hu, rfl⟩))
  have p1 : (sortU ds).Perm ds := List.mergeSort_perm _ _
  have p2 : (rs.mergeSort leS).Perm rs := List.mergeSort_perm _ _
  have e2 := rk_sort hp hv
  have w2 : (rs.mergeSort leS).Pairwise fun p q => bS q p = false := by
    have pw := sort_pairwise (sortLe_total (listOrd itemOrd) false fun b : NestedKey => toks b) (rs.map rk)
    change List.Pairwise (fun a b => (!lexT (toks b) (toks a)) = true) ((rs.map rk).mergeSort leK) at pw
    rw [← e2, List.pairwise_map] at pw
    refine pw.imp_of_mem fun {a b} ha hb h => ?_
    have ha := p2.mem_iff.mp ha
    have hb := p2.mem_iff.mp hb
    rw [rk_lex (hp b hb) (hp a ha) (fun z => by rw [hv b hb a ha z])] at h
    simpa using h
  refine List.Perm.eq_of_pairwise (le := fun p q => bS q p = false) (fun p q h1 h2 l1 l2 => ?_) ?_ w2 (((p1.map sigU).trans pm).trans p2.symm)
  · have h1 := ((p1.map sigU).trans pm).mem_iff.mp h1
    have h2 := p2.mem_iff.mp h2
    exact bS_anti (hp p h1) (hp q h2) (hv p h1 q h2) l2 l1
  · rw [List.pairwise_map]
    refine (sortU_pw ds).imp_of_mem fun {u v} hu hv2 h => ?_
    rw [leD_bS (pd u (p1.mem_iff.mp hu)) (pd v (p1.mem_iff.mp hv2))] at h
    simpa using h
theorem srt_snd {xs : List V} {ks : List NestedKey} (l : xs.length = ks.length) : (srt xs ks).map Prod.snd = ks.mergeSort leK := by
  unfold srt
  rw [List.map_mergeSort (r := leF id) (f := Prod.snd) (l := xs.zip ks) (s := leK) (fun a _ b _ => rfl)]
  rw [List.map_snd_zip (by rw [l]; exact Nat.le_refl _)]
/-- what the law has written: visits and cards of the one, goings with the third -/
structure B20.Ls (B : B20) (vs cs os : List NestedKey) : Prop where
  gs : B.gs = vs ++ cs ++ os
  vk : ∀ k ∈ vs, ∃ d, k = goK "visit" d B.b B.a
  ck : ∀ k ∈ cs, ∃ d, k = goK "card" d B.b B.a
  ok : ∀ k ∈ os, (∃ d, k = goK "visit" d B.c B.a) ∨ ∃ d, k = goK "card" d B.b B.c
  nd : B.gs.Nodup
def B20.some (B : B20) (vs cs : List NestedKey) : List NestedKey := cs ++ (if B.met then vs else [])
def B20.rws (B : B20) (vs cs os : List NestedKey) : List Sg := (if B.met then [] else vs.map dueS) ++ os.map dueS ++ (if B.some vs cs = [] then [(B.b, B.a, B.met, B.back)] else [])
theorem due_vs (z : Str) (d : Int) (x y : Str) : dueS (goK z d x y) = (y, x, decide (z = "visit"), goK z d x y) := rfl
theorem an_vs {B : B20} {k : NestedKey} {d : Int} (e : k = goK "visit" d B.b B.a) : B.anB (dueS k) = B.met := by
  rw [e, due_vs]
  unfold B20.anB
  rw [decide_eq_true rfl]
  show (true && (B.met || !decide (("visit" : Str) = "visit"))) = _
  rw [decide_eq_true rfl]
  simp
theorem an_cs {B : B20} {k : NestedKey} {d : Int} (e : k = goK "card" d B.b B.a) : B.anB (dueS k) = true := by
  rw [e, due_vs]
  unfold B20.anB
  rw [decide_eq_true rfl]
  show (true && (B.met || !decide (("card" : Str) = "visit"))) = _
  rw [decide_eq_false (by decide +kernel)]
  simp
theorem an_os {B : B20} (ok : B.Ok) {k : NestedKey} (e : (∃ d, k = goK "visit" d B.c B.a) ∨ ∃ d, k = goK "card" d B.b B.c) : B.anB (dueS k) = false := by
  rcases e with ⟨d, rfl⟩ | ⟨d, rfl⟩
  · rw [due_vs]
    unfold B20.anB
    rw [decide_eq_false (fun z => ok.bc (congrArg Prod.snd z).symm)]
    rfl
  · rw [due_vs]
    unfold B20.anB
    rw [decide_eq_false (fun z => ok.ac (congrArg Prod.fst z).symm)]
    rfl
theorem gl_perm {B : B20} (ok : B.Ok) {ks vs cs os : List NestedKey} (l : B.Ls vs cs os) (o : Ord ks) (pg : ∀ k, k ∈ ks ↔ B.Pag k) : ((ks.filter isG).filter fun k => decide (k ≠ B.back)).Perm B.gs := by
  refine (List.perm_ext_iff_of_nodup (((ord_nd o).filter _).filter _) l.nd).mpr fun k => ?_
  rw [List.mem_filter, List.mem_filter, pg, isG_iff, decide_eq_true_eq]
  constructor
  · rintro ⟨⟨h, h2⟩, h3⟩
    cases h with
    | ho _ => rw [z_house] at h2; exact absurd h2 (by decide +kernel)
    | mo _ => rw [z_mourn] at h2; exact absurd h2 (by decide +kernel)
    | back => exact absurd rfl h3
    | go h => exact h
  · intro h
    obtain ⟨z, d, x, y, rfl, _, h2, _, hz⟩ := ok.gs k h
    refine ⟨⟨.go h, ?_⟩, fun e => ?_⟩
    · show z = _ ∨ z = _
      rcases hz with ⟨_, _, e | e⟩ | ⟨_, _, e⟩ | ⟨_, _, e⟩
      · exact .inl e
      · exact .inr e
      · exact .inl e
      · exact .inr e
    · have : d = B.day := congrArg dayK e
      omega
section
variable {B : B20} {ks vs cs os : List NestedKey}
theorem an_perm (ok : B.Ok) (l : B.Ls vs cs os) (o : Ord ks) (pg : ∀ k, k ∈ ks ↔ B.Pag k) : ((((ks.filter isG).filter fun k => decide (k ≠ B.back)).map dueS).filter B.anB).Perm ((B.some vs cs).map dueS) := by
  refine (((gl_perm ok l o pg).map dueS).filter B.anB).trans ?_
  rw [l.gs, List.map_append, List.map_append, List.filter_append, List.filter_append]
  rw [filt_all (l := cs.map dueS) (fun q hq => by obtain ⟨k, hk, rfl⟩ := List.mem_map.mp hq; obtain ⟨d, e⟩ := l.ck k hk; exact an_cs e)]
  rw [filt_no (l := os.map dueS) (fun q hq => by obtain ⟨k, hk, rfl⟩ := List.mem_map.mp hq; exact an_os ok (l.ok k hk)), List.append_nil]
  unfold B20.some
  rw [List.map_append]
  cases hm : B.met with
  | true =>
    rw [filt_all (l := vs.map dueS) (fun q hq => by obtain ⟨k, hk, rfl⟩ := List.mem_map.mp hq; obtain ⟨d, e⟩ := l.vk k hk; rw [an_vs e, hm])]
    exact List.perm_append_comm
  | false =>
    rw [filt_no (l := vs.map dueS) (fun q hq => by obtain ⟨k, hk, rfl⟩ := List.mem_map.mp hq; obtain ⟨d, e⟩ := l.vk k hk; rw [an_vs e, hm])]
    rw [List.nil_append]
    show (cs.map dueS).Perm (cs.map dueS ++ [])
    rw [List.append_nil]
theorem no_perm (ok : B.Ok) (l : B.Ls vs cs os) (o : Ord ks) (pg : ∀ k, k ∈ ks ↔ B.Pag k) : ((((ks.filter isG).filter fun k => decide (k ≠ B.back)).map dueS).filter fun q => !B.anB q).Perm ((if B.met then [] else vs.map dueS) ++ os.map dueS) := by
  refine (((gl_perm ok l o pg).map dueS).filter fun q => !B.anB q).trans ?_
  rw [l.gs, List.map_append, List.map_append, List.filter_append, List.filter_append]
  rw [filt_no (l := cs.map dueS) (fun q hq => by obtain ⟨k, hk, rfl⟩ := List.mem_map.mp hq; obtain ⟨d, e⟩ := l.ck k hk; rw [an_cs e]; rfl)]
  rw [filt_all (l := os.map dueS) (fun q hq => by obtain ⟨k, hk, rfl⟩ := List.mem_map.mp hq; rw [an_os ok (l.ok k hk)]; rfl), List.append_nil]
  cases hm : B.met with
  | true =>
    rw [filt_no (l := vs.map dueS) (fun q hq => by obtain ⟨k, hk, rfl⟩ := List.mem_map.mp hq; obtain ⟨d, e⟩ := l.vk k hk; rw [an_vs e, hm]; rfl)]
    exact List.Perm.refl _
  | false =>
    rw [filt_all (l := vs.map dueS) (fun q hq => by obtain ⟨k, hk, rfl⟩ := List.mem_map.mp hq; obtain ⟨d, e⟩ := l.vk k hk; rw [an_vs e, hm]; rfl)]
    exact List.Perm.refl _
theorem some_nil (ok : B.Ok) (l : B.Ls vs cs os) (o : Ord ks) (pg : ∀ k, k ∈ ks ↔ B.Pag k) : (((ks.filter isG).filter fun k => decide (k ≠ B.back)).map dueS).filter B.anB = [] ↔ B.some vs cs = [] := by
  have pm := an_perm ok l o pg
  constructor
  · intro h
    rw [h] at pm
    exact List.map_eq_nil_iff.mp (List.nil_perm.mp pm)
  · intro h
    rw [h] at pm
    exact List.perm_nil.mp pm
theorem ds_perm (ok : B.Ok) (l : B.Ls vs cs os) (o : Ord ks) (pg : ∀ k, k ∈ ks ↔ B.Pag k) {s : WS} (F : B.Fin (((ks.filter isG).filter fun k => decide (k ≠ B.back)).map dueS) s) : (s.ds.map sigU).Perm (B.rws vs cs os) := by
  have sn := some_nil ok l o pg
  rw [F.ds]
  unfold B20.rws
  by_cases c : B.some vs cs = []
  · have c2 := sn.mpr c
    rw [if_pos c, if_pos c2]
    refine List.Perm.append ?_ (List.Perm.refl _)
    have := no_perm ok l o pg
    rwa [filt_all (fun q hq => by
      have := List.filter_eq_nil_iff.mp c2 q hq
      cases h : B.anB q with
      | true => exact absurd h this
      | false => rfl)] at this
  · rw [if_neg c, if_neg (fun z => c (sn.mp z)), List.append_nil]
    exact no_perm ok l o pg
/-- the answered pages, in their order -/
def B20.sa (B : B20) (ks : List NestedKey) : List NestedKey := ((ks.filter isG).filter fun k => decide (k ≠ B.back)).filter fun k => B.anB (dueS k)
theorem sa_map : (((ks.filter isG).filter fun k => decide (k ≠ B.back)).map dueS).filter B.anB = (B.sa ks).map dueS := by
  unfold B20.sa
  rw [List.filter_map]
  rfl
theorem sa_ord (o : Ord ks) : Ord (B.sa ks) := ((List.Pairwise.filter _ o).filter _).filter _
theorem sa_mem (ok : B.Ok) (l : B.Ls vs cs os) (o : Ord ks) (pg : ∀ k, k ∈ ks ↔ B.Pag k) (k : NestedKey) : k ∈ B.sa ks ↔ k ∈ B.some vs cs := by
  have pm := an_perm ok l o pg
  rw [sa_map] at pm
  have inj : ∀ {x y : NestedKey}, dueS x = dueS y → x = y := fun e => congrArg (fun q : Sg => q.2.2.2) e
  constructor
  · intro h
    obtain ⟨x, hx, e⟩ := List.mem_map.mp (pm.mem_iff.mp (List.mem_map.mpr ⟨k, h, rfl⟩))
    rw [← inj e]; exact hx
  · intro h
    obtain ⟨x, hx, e⟩ := List.mem_map.mp (pm.mem_iff.mpr (List.mem_map.mpr ⟨k, h, rfl⟩))
    rw [← inj e]; exact hx
/-- dues whose pages stand in order are told so -/
theorem sortT_ord {us : List Due} (o : Ord (us.map (·.pg))) (pk : ∀ u ∈ us, PgK u.pg) : sortT us = us := by
  unfold sortT
  refine List.mergeSort_of_pairwise ?_
  have o := List.pairwise_map.mp o
  refine o.imp_of_mem fun {u v} hu hv h => ?_
  have pu := pk u hu
  have pv := pk v hv
  show (!lexT (toks (place v.pg)) (toks (place u.pg))) = true
  have e : lexT (toks (place v.pg)) (toks (place u.pg)) = false := by
    have e1 := ahead_lt pv pu
    have f : ahead v.pg u.pg = false := by
      cases c : ahead v.pg u.pg with
      | false => rfl
      | true =>
        have := ahead_trans h c
        rw [ahead_self] at this
        cases this
    rw [f] at e1
    obtain ⟨z1, d1, r1, ev, _⟩ := pv
    obtain ⟨z2, d2, r2, eu, _⟩ := pu
    rw [ev, eu, place_eq, place_eq] at e1 ⊢
    rw [ltK] at e1
    exact lex_tup e1
  rw [e]
  rfl
theorem an_told (ok : B.Ok) (l : B.Ls vs cs os) (o : Ord ks) (pg : ∀ k, k ∈ ks ↔ B.Pag k) (pk : ∀ k ∈ ks, PgK k) {s : WS} (F : B.Fin (((ks.filter isG).filter fun k => decide (k ≠ B.back)).map dueS) s) : s.an.map ansK = if B.some vs cs = [] then [] else [.tup [B.back, .tup ((B.sa ks).map fun k => .tup [.text B.a, .text B.b, k])]] := by
  have sn := some_nil ok l o pg
  have fa := F.an
  by_cases c : B.some vs cs = []
  · rw [if_pos (sn.mpr c)] at fa
    rw [if_pos c, List.map_eq_nil_iff.mp fa]
    rfl
  · rw [if_neg (fun z => c (sn.mp z)), sa_map] at fa
    rw [if_neg c]
    match e : s.an, fa with
    | [], fa => cases fa
    | _ :: _ :: _, fa => simp at fa
    | [(k, us)], fa =>
      rw [List.map_cons, List.map_nil] at fa
      injection fa with fa _
      have e1 : k = B.back := congrArg Prod.fst fa
      have e2 : us.map sigU = (B.sa ks).map dueS := congrArg Prod.snd fa
      have e3 : us.map (·.pg) = B.sa ks := by
        have := congrArg (List.map fun q : Sg => q.2.2.2) e2
        rw [List.map_map, List.map_map] at this
        rw [show (List.map ((fun q : Sg => q.2.2.2) ∘ dueS) (B.sa ks)) = B.sa ks from List.map_id' _] at this
        exact this
      have pu : ∀ u ∈ us, PgK u.pg := fun u hu => by
        have : u.pg ∈ B.sa ks := by rw [← e3]; exact List.mem_map.mpr ⟨u, hu, rfl⟩
        exact pk _ (List.mem_filter.mp (List.mem_filter.mp (List.mem_filter.mp this).1).1).1
      rw [List.map_cons, List.map_nil, e1]
      unfold ansK
      rw [sortT_ord (by rw [e3]; exact sa_ord o) pu]
      have : ∀ u ∈ us, triK u = .tup [.text B.a, .text B.b, u.pg] := fun u hu => by
        have h : sigU u ∈ (B.sa ks).map dueS := by rw [← e2]; exact List.mem_map.mpr ⟨u, hu, rfl⟩
        obtain ⟨k, hk, e⟩ := List.mem_map.mp h
        have an := (List.mem_filter.mp hk).2
        rw [e] at an
        unfold B20.anB at an
        rw [Bool.and_eq_true, decide_eq_true_eq] at an
        have a1 : u.ow = B.a := congrArg Prod.fst an.1
        have a2 : u.od = B.b := congrArg Prod.snd an.1
        unfold triK
        rw [a1, a2]
      have e9 : us.map triK = (B.sa ks).map fun k => .tup [.text B.a, .text B.b, k] := by
        rw [← e3, List.map_map]
        exact List.map_congr_left this
      rw [e9]
end
end
end L20

set_option Elab.async false
set_option linter.all false
set_option maxRecDepth 100000
set_option maxHeartbeats 4000000
namespace L20
open PySem PySem.Spec PyProof.Rows L2 My
section
variable {P : Program} {w : World} {K : PySem.W.Frag} {mg : Str → Option Value} {base : Heap}
theorem at2i {x y v : Int} (h0 : 0 ≤ v) (h1 : v < 2) : atI [V.int x, V.int y] v = some (.int (if v = 0 then x else y)) := by
  obtain rfl | rfl : v = 0 ∨ v = 1 := by omega
  · rfl
  · rfl
theorem at2s {x y : Str} {v : Int} (h0 : 0 ≤ v) (h1 : v < 2) : atI [V.str x, V.str y] v = some (.str (if v = 0 then x else y)) := by
  obtain rfl | rfl : v = 0 ∨ v = 1 := by omega
  · rfl
  · rfl
theorem goK_at {H : Hp} {pa : Addr} {z a b : Str} {d : Int} (h : Nk H (.ref pa) (goK z d a b)) : H pa = some (.tup [.str z, .int d, .str a, .str b]) := by
  unfold goK at h
  cases h with
  | tup ha hk =>
    cases hk with
    | cons n1 hk =>
      cases n1
      cases hk with
      | cons n2 hk =>
        cases n2
        cases hk with
        | cons n3 hk =>
          cases n3
          cases hk with
          | cons n4 hk =>
            cases n4
            cases hk
            exact ha
theorem nk_ref {H : Hp} {x : V} {ks : List NestedKey} (h : Nk H x (.tup ks)) : ∃ q, x = .ref q := by cases h; exact ⟨_, rfl⟩
theorem and_t {t u : TT} {σ : L2.St} {H : Hp} {Q : Bool → Hp → Prop} {c m : Bool} (ha : ∀ Q' : Bool → Hp → Prop, Q' c H → t σ H Q') (hb : ∀ Q' : Bool → Hp → Prop, Q' m H → u σ H Q') (q : Q (c && m) H) : tAnd t u σ H Q := by
  refine ha _ ?_
  cases c with
  | true => rw [if_pos rfl]; exact hb _ q
  | false => rw [if_neg (by decide)]; exact q
theorem or_t {t u : TT} {σ : L2.St} {H : Hp} {Q : Bool → Hp → Prop} {c m : Bool} (ha : ∀ Q' : Bool → Hp → Prop, Q' c H → t σ H Q') (hb : ∀ Q' : Bool → Hp → Prop, Q' m H → u σ H Q') (q : Q (c || m) H) : tOr t u σ H Q := by
  refine ha _ ?_
  cases c with
  | true => rw [if_pos rfl]; exact q
  | false => rw [if_neg (by decide)]; exact hb _ q
theorem ifs_t {t : TT} {a b : TS} {D : Ends} {σ : L2.St} {H : Hp} (c : Bool) (h : ∀ Q' : Bool → Hp → Prop, Q' c H → t σ H Q') (y : c = true → a D σ H) (n : c = false → b D σ H) : tIfS t a b D σ H := by
  refine h _ ?_
  cases c with
  | true => rw [if_pos rfl]; exact y rfl
  | false => rw [if_neg (by decide)]; exact n rfl
def kd (lv lc : Addr) : List (Key × V) := [(.inr "visit", .ref lv), (.inr "card", .ref lc)]
/-- what the law has of goings, amid its loop -/
structure Gn (a b c : Str) (H : Hp) (t c0 md lv lc po : Addr) (d0 ev ec e1 e2 : Int) (vs cs os : List NestedKey) : Prop where
  hmd : H md = some (.dK (kd lv lc))
  hv : ∃ xs, H lv = some (.lst xs) ∧ NkAll H xs vs
  hc : ∃ xs, H lc = some (.lst xs) ∧ NkAll H xs cs
  ho : ∃ xs, H po = some (.lst xs) ∧ NkAll H xs os
  mt : md ≠ t
  n1 : lv ≠ lc
  n2 : lv ≠ po
  n3 : lc ≠ po
  v0 : lv ≠ c0
  l0 : lc ≠ c0
  p0 : po ≠ c0
  fv : ∀ k ∈ vs, ∃ x, k = goK "visit" x b a ∧ d0 ≤ x ∧ x < ev
  fc : ∀ k ∈ cs, ∃ x, k = goK "card" x b a ∧ d0 ≤ x ∧ x < ec
  fo : ∀ k ∈ os, (∃ x, k = goK "visit" x c a ∧ d0 ≤ x ∧ x < e1) ∨ ∃ x, k = goK "card" x b c ∧ d0 ≤ x ∧ x < e2
  dv : vs.Nodup
  dc : cs.Nodup
  dO : os.Nodup
theorem go_day {z z' a b a' b' : Str} {x y : Int} (e : goK z x a b = goK z' y a' b') : x = y ∧ z = z' := ⟨congrArg dayK e, congrArg (fun k => (pgK k).z) e⟩
section
variable {a b c : Str} {H H' : Hp} {t c0 md lv lc po : Addr} {d0 ev ec e1 e2 : Int} {vs cs os : List NestedKey}
theorem Gn.mono {ev' ec' e1' e2' : Int} (g : Gn a b c H t c0 md lv lc po d0 ev ec e1 e2 vs cs os) (h1 : ev ≤ ev') (h2 : ec ≤ ec') (h3 : e1 ≤ e1') (h4 : e2 ≤ e2') : Gn a b c H t c0 md lv lc po d0 ev' ec' e1' e2' vs cs os :=
  { g with fv := fun k hk => let ⟨x, e, l, m⟩ := g.fv k hk; ⟨x, e, l, by omega⟩, fc := fun k hk => let ⟨x, e, l, m⟩ := g.fc k hk; ⟨x, e, l, by omega⟩, fo := fun k hk => (g.fo k hk).imp (fun ⟨x, e, l, m⟩ => ⟨x, e, l, by omega⟩) fun ⟨x, e, l, m⟩ => ⟨x, e, l, by omega⟩ }
theorem Gn.same (g : Gn a b c H t c0 md lv lc po d0 ev ec e1 e2 vs cs os) (s : Same H H') : Gn a b c H' t c0 md lv lc po d0 ev ec e1 e2 vs cs os :=
  { g with hmd := s _ _ g.hmd, hv := let ⟨xs, h, n⟩ := g.hv; ⟨xs, s _ _ h, n.at (.same s)⟩, hc := let ⟨xs, h, n⟩ := g.hc; ⟨xs, s _ _ h, n.at (.same s)⟩, ho := let ⟨xs, h, n⟩ := g.ho; ⟨xs, s _ _ h, n.at (.same s)⟩ }
theorem Gn.draw {n : Nat} (g : Gn a b c H t c0 md lv lc po d0 ev ec e1 e2 vs cs os) (f : FeedC H t c0 n) (k : Kp t H H') : Gn a b c H' t c0 md lv lc po d0 ev ec e1 e2 vs cs os :=
  { g with hmd := k _ _ g.mt g.hmd, hv := let ⟨xs, h, n⟩ := g.hv; ⟨xs, k _ _ (f.ne' h) h, n.at (f.tups k)⟩, hc := let ⟨xs, h, n⟩ := g.hc; ⟨xs, k _ _ (f.ne' h) h, n.at (f.tups k)⟩, ho := let ⟨xs, h, n⟩ := g.ho; ⟨xs, k _ _ (f.ne' h) h, n.at (f.tups k)⟩ }
theorem tups_lst {l : Addr} {xs ys : List V} (h : H l = some (.lst xs)) : Tups H (upd H l (.lst ys)) := fun b us e => by rw [upd_ne (fun z => by rw [z, h] at e; cases e)]; exact e
theorem Gn.addv {v : V} {xs : List V} {d : Int} (g : Gn a b c H t c0 md lv lc po d0 d ec e1 e2 vs cs os) (h : H lv = some (.lst xs)) (nx : NkAll H xs vs) (n : Nk H v (goK "visit" d b a)) (l : d0 ≤ d) : Gn a b c (upd H lv (.lst (xs ++ [v]))) t c0 md lv lc po d0 (d + 1) ec e1 e2 (vs ++ [goK "visit" d b a]) cs os := by
  have tp := tups_lst (ys := xs ++ [v]) h
  have nin : goK "visit" d b a ∉ vs := fun hk => by
    obtain ⟨x, e, _, m⟩ := g.fv _ hk
    have := (go_day e).1
    omega
  obtain ⟨ys, h2, m2⟩ := g.hc
  obtain ⟨zs, h3, m3⟩ := g.ho
  exact { g with
    hmd := by rw [upd_ne (fun z => by rw [← z, g.hmd] at h; cases h)]; exact g.hmd
    hv := ⟨_, upd_same, (nx.at tp).app (.cons (n.at tp) .nil)⟩
    hc := ⟨ys, by rw [upd_ne g.n1.symm]; exact h2, m2.at tp⟩
    ho := ⟨zs, by rw [upd_ne g.n2.symm]; exact h3, m3.at tp⟩
    fv := fun k hk => by
      rcases List.mem_append.mp hk with hk | hk
      · obtain ⟨x, e, l, m⟩ := g.fv k hk
        exact ⟨x, e, l, by omega⟩
      · exact ⟨d, List.mem_singleton.mp hk, l, by omega⟩
    dv := List.nodup_append.mpr ⟨g.dv, by simp, fun x hx y hy e => nin (by rw [← List.mem_singleton.mp hy, ← e]; exact hx)⟩ }
theorem Gn.addc {v : V} {xs : List V} {d : Int} (g : Gn a b c H t c0 md lv lc po d0 ev d e1 e2 vs cs os) (h : H lc = some (.lst xs)) (nx : NkAll H xs cs) (n : Nk H v (goK "card" d b a)) (l : d0 ≤ d) : Gn a b c (upd H lc (.lst (xs ++ [v]))) t c0 md lv lc po d0 ev (d + 1) e1 e2 vs (cs ++ [goK "card" d b a]) os := by
  have tp := tups_lst (ys := xs ++ [v]) h
  have nin : goK "card" d b a ∉ cs := fun hk => by
    obtain ⟨x, e, _, m⟩ := g.fc _ hk
    have := (go_day e).1
    omega
  obtain ⟨ys, h2, m2⟩ := g.hv
  obtain ⟨zs, h3, m3⟩ := g.ho
  exact { g with
    hmd := by rw [upd_ne (fun z => by rw [← z, g.hmd] at h; cases h)]; exact g.hmd
    hc := ⟨_, upd_same, (nx.at tp).app (.cons (n.at tp) .nil)⟩
    hv := ⟨ys, by rw [upd_ne g.n1]; exact h2, m2.at tp⟩
    ho := ⟨zs, by rw [upd_ne g.n3.symm]; exact h3, m3.at tp⟩
    fc := fun k hk => by
      rcases List.mem_append.mp hk with hk | hk
      · obtain ⟨x, e, l, m⟩ := g.fc k hk
        exact ⟨x, e, l, by omega⟩
      · exact ⟨d, List.mem_singleton.mp hk, l, by omega⟩
    dc := List.nodup_append.mpr ⟨g.dc, by simp, fun x hx y hy e => nin (by rw [← List.mem_singleton.mp hy, ← e]; exact hx)⟩ }
theorem Gn.addo {v : V} {xs : List V} {k : NestedKey} {e1' e2' : Int} (g : Gn a b c H t c0 md lv lc po d0 ev ec e1 e2 vs cs os) (h : H po = some (.lst xs)) (nx : NkAll H xs os) (n : Nk H v k) (nin : k ∉ os) (l1 : e1 ≤ e1') (l2 : e2 ≤ e2') (hk : (∃ x, k = goK "visit" x c a ∧ d0 ≤ x ∧ x < e1') ∨ ∃ x, k = goK "card" x b c ∧ d0 ≤ x ∧ x < e2') : Gn a b c (upd H po (.lst (xs ++ [v]))) t c0 md lv lc po d0 ev ec e1' e2' vs cs (os ++ [k]) := by
  have tp := tups_lst (ys := xs ++ [v]) h
  obtain ⟨ys, h2, m2⟩ := g.hv
  obtain ⟨zs, h3, m3⟩ := g.hc
  exact { g with
    hmd := by rw [upd_ne (fun z => by rw [← z, g.hmd] at h; cases h)]; exact g.hmd
    ho := ⟨_, upd_same, (nx.at tp).app (.cons (n.at tp) .nil)⟩
    hv := ⟨ys, by rw [upd_ne g.n2]; exact h2, m2.at tp⟩
    hc := ⟨zs, by rw [upd_ne g.n3]; exact h3, m3.at tp⟩
    fo := fun q hq => by
      rcases List.mem_append.mp hq with hq | hq
      · exact (g.fo q hq).imp (fun ⟨x, e, l, m⟩ => ⟨x, e, l, by omega⟩) fun ⟨x, e, l, m⟩ => ⟨x, e, l, by omega⟩
      · rw [List.mem_singleton.mp hq]; exact hk
    dO := List.nodup_append.mpr ⟨g.dO, by simp, fun x hx y hy e => nin (by rw [← List.mem_singleton.mp hy, ← e]; exact hx)⟩ }
theorem Gn.oth {p : Addr} {xs ys : List V} (g : Gn a b c H t c0 md lv lc po d0 ev ec e1 e2 vs cs os) (h : H p = some (.lst xs)) (n1 : lv ≠ p) (n2 : lc ≠ p) (n3 : po ≠ p) : Gn a b c (upd H p (.lst ys)) t c0 md lv lc po d0 ev ec e1 e2 vs cs os :=
  { g with
    hmd := by rw [upd_ne (fun z => by rw [← z, g.hmd] at h; cases h)]; exact g.hmd
    hv := let ⟨us, h1, n⟩ := g.hv; ⟨us, by rw [upd_ne n1]; exact h1, n.at (tups_lst h)⟩
    hc := let ⟨us, h1, n⟩ := g.hc; ⟨us, by rw [upd_ne n2]; exact h1, n.at (tups_lst h)⟩
    ho := let ⟨us, h1, n⟩ := g.ho; ⟨us, by rw [upd_ne n3]; exact h1, n.at (tups_lst h)⟩ }
end
def spGone : Sp := fun vs H Q _ => ∃ (t c0 : Addr) (n : Nat) (d0 : Int) (a b c : Str), vs = [.ref t, .int d0, .str b, .str a, .str c] ∧ FeedC H t c0 n ∧ n < 800000 ∧ 0 ≤ d0 ∧ d0 < 12000 ∧ a ≠ b ∧ a ≠ c ∧ b ≠ c ∧
  ∀ r H' md lv lc po dE vs' cs os, H' r = some (.tup [.ref md, .ref po, .int dE]) → Gn a b c H' t c0 md lv lc po d0 dE dE dE dE vs' cs os → vs'.length + cs.length ≤ 8 → os.length ≤ 16 → d0 ≤ dE → dE ≤ d0 + 24 → FeedC H' t c0 (n + 60) → Kp t H H' → H lv = none → H lc = none → H po = none → Q (.ref r) H'
theorem ok_gone (T : Tx K mg w) : FnOk P w K mg base CX0 2 T.f_w_gone T.d_w_gone ["_law_feed_here", "_law_day", "_law_b", "_law_a", "_law_c"] (spGone) := by
  have G_w_draw : FnOk P w K mg base CX0 1 T.f_w_draw T.d_w_draw ["_law_feed_here", "_law_many"] (spDraw) := ok_draw T
  refine T.F_w_gone.ok S_w_gone (fun vs H Q E h => ?_) (fun cdv A outer s H vs Q E hr h => ?_)
  · obtain ⟨t, c0, n, d0, a, b, c, rfl, _⟩ := h
    rfl
  · obtain ⟨t, c0, n, d0, a, b, c, rfl, hT, ln, d00, d01, nab, nac, nbc, q⟩ := h
    refine ⟨_, (pss_cons (ps_set (i := 5) S_w_gone.nd rfl (.inl rfl) (pe_disp (pps_cons pe_str (pe_lst pa_nil) (pps_cons pe_str (pe_lst pa_nil) pps_nil)) (by rfl) (by rfl) (fun z => by cases z) (by decide)))
      (pss_cons (ps_set (i := 6) S_w_gone.nd rfl (.inl rfl) (pe_lst pa_nil))
      (pss_cons (ps_for PassesOwn.never rfl (pi_range1 (by rfl) T.m_range (pa_cons (pe_call G_w_draw hr (by rfl) T.g_w_draw T.F_w_draw.kp T.b_w_draw .nil pass0 (pa_cons (pv 0) (pa_cons pe_int pa_nil))) pa_nil)) (pg_name (i := 7) S_w_gone.nd rfl (.inl rfl))
      (pss_cons (ps_set (i := 8) S_w_gone.nd rfl (.inl rfl) (pe_ix ix_list (pe_lst (pa_cons pe_str (pa_cons pe_str pa_nil))) (pe_call G_w_draw hr (by rfl) T.g_w_draw T.F_w_draw.kp T.b_w_draw .nil pass0 (pa_cons (pv 0) (pa_cons pe_int pa_nil))) (fun _ _ => rfl)))
      (pss_cons (ps_expr (pe_bm PySem.F.plainAttrs_list PySem.F.slot_list_append PySem.F.type_list_append mt_append (pe_dget (hu_of hr) (pv 5) (pv 8) (fun _ _ => rfl)) (pa_cons (pe_tup (pa_cons (pv 8) (pa_cons (pv 1) (pa_cons (pv 2) (pa_cons (pv 3) pa_nil))))) pa_nil)))
      (pss_cons (ps_if (pt_cmpR op_eq (pe_call G_w_draw hr (by rfl) T.g_w_draw T.F_w_draw.kp T.b_w_draw .nil pass0 (pa_cons (pv 0) (pa_cons pe_int pa_nil))) pe_int (nomark _)) (pss_one (ps_expr (pe_bm PySem.F.plainAttrs_list PySem.F.slot_list_append PySem.F.type_list_append mt_append (pv 6) (pa_cons (pe_tup (pa_cons pe_str (pa_cons (pv 1) (pa_cons (pv 4) (pa_cons (pv 3) pa_nil))))) pa_nil)))) pss_nil)
      (pss_cons (ps_if (pt_cmpR op_eq (pe_call G_w_draw hr (by rfl) T.g_w_draw T.F_w_draw.kp T.b_w_draw .nil pass0 (pa_cons (pv 0) (pa_cons pe_int pa_nil))) pe_int (nomark _)) (pss_one (ps_expr (pe_bm PySem.F.plainAttrs_list PySem.F.slot_list_append PySem.F.type_list_append mt_append (pv 6) (pa_cons (pe_tup (pa_cons pe_str (pa_cons (pv 1) (pa_cons (pv 2) (pa_cons (pv 4) pa_nil))))) pa_nil)))) pss_nil)
      (pss_one (ps_set (i := 1) S_w_gone.nd rfl (.inl rfl) (pe_op op_add (pe_op op_add (pv 1) pe_int) (pe_call G_w_draw hr (by rfl) T.g_w_draw T.F_w_draw.kp T.b_w_draw .nil pass0 (pa_cons (pv 0) (pa_cons pe_int pa_nil)))))))))))
      (pss_one (ps_ret (pe_tup (pa_cons (pv 5) (pa_cons (pv 6) (pa_cons (pv 1) pa_nil))))))))), ?_⟩
    intro md nmd
    refine ⟨sz (by show 0 ≤ 1000; decide), fun lv nlv => ⟨sz (by show 0 ≤ 1000; decide), fun lc nlc => ?_⟩⟩
    have vm : lv ≠ md := fun z => by rw [z, upd_same] at nlv; cases nlv
    have nlv' : H lv = none := by rw [upd_ne vm] at nlv; exact nlv
    have cv : lc ≠ lv := fun z => by rw [z, upd_same] at nlc; cases nlc
    have nlc1 : upd H md (.dK []) lc = none := by rw [upd_ne cv] at nlc; exact nlc
    have cm : lc ≠ md := fun z => by rw [z, upd_same] at nlc1; cases nlc1
    have nlc' : H lc = none := by rw [upd_ne cm] at nlc1; exact nlc1
    refine ⟨by rw [upd_ne cm.symm, upd_ne vm.symm, upd_same], kd lv lc, rfl, by show 2 ≤ 15; decide, ?_⟩
    rw [show mergeK ([] : List (Key × V)) (kd lv lc) = kd lv lc from rfl]
    have s1 : Same H (upd (upd (upd (upd H md (.dK [])) lv (.lst [])) lc (.lst [])) md (.dK (kd lv lc))) := fun x o e => by
      rw [upd_ne (ne_of_none e nmd), upd_ne (ne_of_none e nlc'), upd_ne (ne_of_none e nlv'), upd_ne (ne_of_none e nmd)]
      exact e
    have hm1 := upd_same (H := upd (upd (upd H md (.dK [])) lv (.lst [])) lc (.lst [])) (a := md) (o := .dK (kd lv lc))
    have hv1 : upd (upd (upd (upd H md (.dK [])) lv (.lst [])) lc (.lst [])) md (.dK (kd lv lc)) lv = some (.lst []) := by rw [upd_ne vm, upd_ne cv.symm, upd_same]
    have hc1 : upd (upd (upd (upd H md (.dK [])) lv (.lst [])) lc (.lst [])) md (.dK (kd lv lc)) lc = some (.lst []) := by rw [upd_ne cm, upd_same]
    generalize upd (upd (upd (upd H md (.dK [])) lv (.lst [])) lc (.lst [])) md (.dK (kd lv lc)) = H1 at s1 hm1 hv1 hc1 ⊢
    refine name_as (σ' := [some (.ref t), some (.int d0), some (.str b), some (.str a), some (.str c), some (.ref md), none, none, none]) rfl ?_
    refine ⟨sz (by show 0 ≤ 1000; decide), fun po npo => ?_⟩
    have s2 := same_upd (o := .lst []) npo
    have hp2 := upd_same (H := H1) (a := po) (o := .lst [])
    have hT1 := hT.same s1
    obtain ⟨pt, pc⟩ := hT1.ne npo
    have G2 : Gn a b c (upd H1 po (.lst [])) t c0 md lv lc po d0 d0 d0 d0 d0 [] [] [] :=
      { hmd := s2 _ _ hm1, hv := ⟨[], s2 _ _ hv1, .nil⟩, hc := ⟨[], s2 _ _ hc1, .nil⟩, ho := ⟨[], hp2, .nil⟩, mt := (hT.ne nmd).1, n1 := cv.symm, n2 := ne_of_none hv1 npo, n3 := ne_of_none hc1 npo, v0 := (hT.ne nlv').2, l0 := (hT.ne nlc').2, p0 := pc
        fv := fun k h => by cases h
        fc := fun k h => by cases h
        fo := fun k h => by cases h
        dv := .nil, dc := .nil, dO := .nil }
    have hT2 := hT1.new (o := .lst []) npo
    have K2 : Kp t H (upd H1 po (.lst [])) := fun x o _ e => s2 _ _ (s1 _ _ e)
    have mH : H md = none := nmd
    have pH : H po = none := by
      cases e : H po with
      | none => rfl
      | some o => rw [s1 _ _ e] at npo; cases npo
    change gName 6 _ _ (upd H1 po (.lst [])) _
    generalize upd H1 po (.lst []) = H2 at G2 hT2 K2 ⊢
    refine name_as (σ' := [some (.ref t), some (.int d0), some (.str b), some (.str a), some (.str c), some (.ref md), some (.ref po), none, none]) rfl ?_
    clear s1 s2 hm1 hv1 hc1 hp2 npo nlv nlc nlc1 hT1
    refine ⟨_, rfl, t, 9, n, c0, rfl, by decide, by decide, hT2, by omega, fun many H3 w0 w1 hT3 hK3 => ⟨many, rfl, by omega, by omega, ?_⟩⟩
    have G3 := G2.draw hT2 hK3
    have K3 := K2.trans hK3
    refine for_range (lo := 0) (n := many.toNat) (fun i σ Hx => ∃ (y7 y8 : Option V) (d : Int) (vs' cs os : List NestedKey), σ = [some (.ref t), some (.int d), some (.str b), some (.str a), some (.str c), some (.ref md), some (.ref po), y7, y8] ∧ Gn a b c Hx t c0 md lv lc po d0 d d d d vs' cs os ∧ vs'.length + cs.length = i ∧ os.length ≤ 2 * i ∧ d0 ≤ d ∧ d ≤ d0 + 3 * i ∧ FeedC Hx t c0 (n + 1 + 5 * i) ∧ Kp t H Hx) ⟨none, none, d0, [], [], [], rfl, G3, rfl, Nat.le_refl _, Int.le_refl _, by omega, hT3.mono (by omega), K3⟩ ?_ ?_
    · rintro i σ Hx hi ⟨y7, y8, d, vs', cs, os, rfl, G, lvc, lo, dl, du, hT, KK⟩
      refine name_as (σ' := [some (.ref t), some (.int d), some (.str b), some (.str a), some (.str c), some (.ref md), some (.ref po), some (.int (0 + (i : Int))), y8]) rfl ?_
      refine ⟨sz (by show 2 ≤ 1000; decide), fun q1 nq1 => ?_⟩
      have s4 := same_upd (o := .lst [.str "visit", .str "card"]) nq1
      have G4 := G.same s4
      have hq1 := upd_same (H := Hx) (a := q1) (o := .lst [.str "visit", .str "card"])
      have hT4 := hT.same s4
      have K4 : Kp t H (upd Hx q1 (.lst [.str "visit", .str "card"])) := KK.trans fun x o _ e => s4 _ _ e
      generalize upd Hx q1 (.lst [.str "visit", .str "card"]) = H4 at G4 hq1 hT4 K4 ⊢
      refine ⟨_, rfl, t, 2, n + 1 + 5 * i, c0, rfl, by decide, by decide, hT4, by omega, fun v1 H5 u0 u1 hT5 hK5 => ?_⟩
      have G5 := G4.draw hT4 hK5
      have K5 := K4.trans hK5
      obtain ⟨z, ez⟩ : ∃ z : Str, z = if v1 = 0 then ("visit" : Str) else ("card" : Str) := ⟨_, rfl⟩
      have hz : z = "visit" ∨ z = "card" := by rw [ez]; split; exact .inl rfl; exact .inr rfl
      refine ⟨q1, _, v1, .str z, rfl, rfl, .inl (.inl (hK5 _ _ (hT4.ne' hq1) hq1)), by rw [ez]; exact at2s u0 u1, ?_⟩
      refine name_as (σ' := [some (.ref t), some (.int d), some (.str b), some (.str a), some (.str c), some (.ref md), some (.ref po), some (.int (0 + (i : Int))), some (.str z)]) rfl ?_
      refine name_nx ?_
      refine seq_join (R := fun σ2 H6 => ∃ vs2 cs2, σ2 = [some (.ref t), some (.int d), some (.str b), some (.str a), some (.str c), some (.ref md), some (.ref po), some (.int (0 + (i : Int))), some (.str z)] ∧ Gn a b c H6 t c0 md lv lc po d0 (d + 1) (d + 1) d d vs2 cs2 os ∧ vs2.length + cs2.length = i + 1 ∧ FeedC H6 t c0 (n + 1 + 5 * i + 1) ∧ Kp t H H6) (fun D' kD => ?_) (fun σ2 H6 r => ?_)
      · obtain ⟨xv, hxv, nxv⟩ := G5.hv
        obtain ⟨xc, hxc, nxc⟩ := G5.hc
        have lxv : xv.length ≤ 8 := by rw [nxv.length]; omega
        have lxc : xc.length ≤ 8 := by rw [nxc.length]; omega
        have lvH : H lv = none := nlv'
        have lcH : H lc = none := nlc'
        rcases hz with rfl | rfl
        · refine ⟨_, rfl, _, rfl, md, .ref lv, rfl, .inl ⟨_, .inr "visit", .inl G5.hmd, rfl, rfl⟩, .inl ⟨rfl, _, .inl (.inl hxv)⟩, _, rfl, _, rfl, _, rfl, _, rfl, sz (by show 4 ≤ 1000; decide), fun q2 nq2 => ⟨lv, xv, .ref q2, rfl, rfl, by rw [upd_ne (ne_of_none hxv nq2)]; exact hxv, small1000 (by omega), ?_⟩⟩
          have s6 := same_upd (o := .tup [.str "visit", .int d, .str b, .str a]) nq2
          have G6 := (G5.same s6).addv (s6 _ _ hxv) (nxv.at (.same s6)) (v := .ref q2) (.tup upd_same (.cons (.str _) (.cons (.int _) (.cons (.str _) (.cons (.str _) .nil))))) dl
          refine kD _ _ ⟨_, _, rfl, G6.mono (Int.le_refl _) (by omega) (Int.le_refl _) (Int.le_refl _), by rw [List.length_append]; show vs'.length + 1 + cs.length = _; omega, (hT5.same s6).updO (hT5.ne' hxv) G5.v0, kp_fresh lvH (K5.trans fun x o _ e => s6 _ _ e)⟩
        · refine ⟨_, rfl, _, rfl, md, .ref lc, rfl, .inl ⟨_, .inr "card", .inl G5.hmd, rfl, rfl⟩, .inl ⟨rfl, _, .inl (.inl hxc)⟩, _, rfl, _, rfl, _, rfl, _, rfl, sz (by show 4 ≤ 1000; decide), fun q2 nq2 => ⟨lc, xc, .ref q2, rfl, rfl, by rw [upd_ne (ne_of_none hxc nq2)]; exact hxc, small1000 (by omega), ?_⟩⟩
          have s6 := same_upd (o := .tup [.str "card", .int d, .str b, .str a]) nq2
          have G6 := (G5.same s6).addc (s6 _ _ hxc) (nxc.at (.same s6)) (v := .ref q2) (.tup upd_same (.cons (.str _) (.cons (.int _) (.cons (.str _) (.cons (.str _) .nil))))) dl
          refine kD _ _ ⟨_, _, rfl, G6.mono (by omega) (Int.le_refl _) (Int.le_refl _) (Int.le_refl _), by rw [List.length_append]; show vs'.length + (cs.length + 1) = _; omega, (hT5.same s6).updO (hT5.ne' hxc) G5.l0, kp_fresh lcH (K5.trans fun x o _ e => s6 _ _ e)⟩
      obtain ⟨vs2, cs2, rfl, G6, lvc2, hT6, K6⟩ := r
      clear G5 hT5 K5 G4 hT4 K4 hq1 s4 G hT KK hK5
      refine seq_join (R := fun σ2 H7 => ∃ os2, σ2 = [some (.ref t), some (.int d), some (.str b), some (.str a), some (.str c), some (.ref md), some (.ref po), some (.int (0 + (i : Int))), some (.str z)] ∧ Gn a b c H7 t c0 md lv lc po d0 (d + 1) (d + 1) (d + 1) d vs2 cs2 os2 ∧ os2.length ≤ 2 * i + 1 ∧ FeedC H7 t c0 (n + 1 + 5 * i + 2) ∧ Kp t H H7) (fun D' kD => ?_) (fun σ2 H7 r => ?_)
      · refine ⟨_, rfl, t, 3, n + 1 + 5 * i + 1, c0, rfl, by decide, by decide, hT6, by omega, fun v2 H7 u2 u3 hT7 hK7 => ⟨rfl, _, rfl, ite2 (fun e => ?_) (fun e => ?_)⟩⟩
        · have G7 := G6.draw hT6 hK7
          have K7 := K6.trans hK7
          obtain ⟨xo, hxo, nxo⟩ := G7.ho
          have lxo : xo.length ≤ 16 := by rw [nxo.length]; omega
          refine ⟨_, rfl, .inl ⟨rfl, _, .inl (.inl hxo)⟩, _, rfl, _, rfl, _, rfl, sz (by show 4 ≤ 1000; decide), fun q2 nq2 => ⟨po, xo, .ref q2, rfl, rfl, by rw [upd_ne (ne_of_none hxo nq2)]; exact hxo, small1000 (by omega), ?_⟩⟩
          have s8 := same_upd (o := .tup [.str "visit", .int d, .str c, .str a]) nq2
          have nin : goK "visit" d c a ∉ os := fun hk => by
            rcases G7.fo _ hk with ⟨x, e, _, m⟩ | ⟨x, e, _, m⟩
            · have := (go_day e).1; omega
            · exact absurd (go_day e).2 (by decide +kernel)
          have G8 := (G7.same s8).addo (e1' := d + 1) (e2' := d) (s8 _ _ hxo) (nxo.at (.same s8)) (v := .ref q2) (k := goK "visit" d c a) (.tup upd_same (.cons (.str _) (.cons (.int _) (.cons (.str _) (.cons (.str _) .nil))))) nin (by omega) (Int.le_refl _) (.inl ⟨d, rfl, dl, by omega⟩)
          refine kD _ _ ⟨_, rfl, G8, by rw [List.length_append]; show os.length + 1 ≤ _; omega, (hT7.same s8).updO (hT7.ne' hxo) G7.p0, kp_fresh pH (K7.trans fun x o _ e => s8 _ _ e)⟩
        · exact kD _ _ ⟨os, rfl, (G6.draw hT6 hK7).mono (Int.le_refl _) (Int.le_refl _) (by omega) (Int.le_refl _), by omega, hT7, K6.trans hK7⟩
      obtain ⟨os2, rfl, G7, lo2, hT7, K7⟩ := r
      clear G6 hT6 K6
      refine seq_join (R := fun σ2 H8 => ∃ os3, σ2 = [some (.ref t), some (.int d), some (.str b), some (.str a), some (.str c), some (.ref md), some (.ref po), some (.int (0 + (i : Int))), some (.str z)] ∧ Gn a b c H8 t c0 md lv lc po d0 (d + 1) (d + 1) (d + 1) (d + 1) vs2 cs2 os3 ∧ os3.length ≤ 2 * i + 2 ∧ FeedC H8 t c0 (n + 1 + 5 * i + 3) ∧ Kp t H H8) (fun D' kD => ?_) (fun σ2 H8 r => ?_)
      · refine ⟨_, rfl, t, 4, n + 1 + 5 * i + 2, c0, rfl, by decide, by decide, hT7, by omega, fun v2 H8 u2 u3 hT8 hK8 => ⟨rfl, _, rfl, ite2 (fun e => ?_) (fun e => ?_)⟩⟩
        · have G8 := G7.draw hT7 hK8
          have K8 := K7.trans hK8
          obtain ⟨xo, hxo, nxo⟩ := G8.ho
          have lxo : xo.length ≤ 17 := by rw [nxo.length]; omega
          refine ⟨_, rfl, .inl ⟨rfl, _, .inl (.inl hxo)⟩, _, rfl, _, rfl, _, rfl, sz (by show 4 ≤ 1000; decide), fun q2 nq2 => ⟨po, xo, .ref q2, rfl, rfl, by rw [upd_ne (ne_of_none hxo nq2)]; exact hxo, small1000 (by omega), ?_⟩⟩
          have s9 := same_upd (o := .tup [.str "card", .int d, .str b, .str c]) nq2
          have nin : goK "card" d b c ∉ os2 := fun hk => by
            rcases G8.fo _ hk with ⟨x, e, _, m⟩ | ⟨x, e, _, m⟩
            · exact absurd (go_day e).2 (by decide +kernel)
            · have := (go_day e).1; omega
          have G9 := (G8.same s9).addo (e1' := d + 1) (e2' := d + 1) (s9 _ _ hxo) (nxo.at (.same s9)) (v := .ref q2) (k := goK "card" d b c) (.tup upd_same (.cons (.str _) (.cons (.int _) (.cons (.str _) (.cons (.str _) .nil))))) nin (Int.le_refl _) (by omega) (.inr ⟨d, rfl, dl, by omega⟩)
          refine kD _ _ ⟨_, rfl, G9, by rw [List.length_append]; show os2.length + 1 ≤ _; omega, (hT8.same s9).updO (hT8.ne' hxo) G8.p0, kp_fresh pH (K8.trans fun x o _ e => s9 _ _ e)⟩
        · exact kD _ _ ⟨os2, rfl, (G7.draw hT7 hK8).mono (Int.le_refl _) (Int.le_refl _) (Int.le_refl _) (by omega), by omega, hT8, K7.trans hK8⟩
      obtain ⟨os3, rfl, G8, lo3, hT8, K8⟩ := r
      clear G7 hT7 K7
      refine ⟨_, rfl, _, _, rfl, rfl, _, rfl, t, 3, n + 1 + 5 * i + 3, c0, rfl, by decide, by decide, hT8, by omega, fun v3 H9 u4 u5 hT9 hK9 => ⟨_, _, rfl, rfl, ?_⟩⟩
      exact ⟨_, _, d + 1 + v3, vs2, cs2, os3, rfl, (G8.draw hT8 hK9).mono (by omega) (by omega) (by omega) (by omega), lvc2, by omega, by omega, by push_cast; omega, hT9.mono (by omega), K8.trans hK9⟩
    rintro σ Hx ⟨y7, y8, d, vs', cs, os, rfl, G, lvc, lo, dl, du, hT, KK⟩
    refine ⟨_, rfl, _, rfl, _, rfl, sz (by show 3 ≤ 1000; decide), fun r nr => ?_⟩
    have sr := same_upd (o := .tup [.ref md, .ref po, .int d]) nr
    exact q r _ md lv lc po d vs' cs os upd_same (G.same sr) (by omega) (by omega) dl (by omega) ((hT.same sr).mono (by omega)) (KK.trans fun x o _ e => sr _ _ e) nlv' nlc' pH
end
end L20

set_option Elab.async false
set_option linter.all false
set_option maxRecDepth 100000
set_option maxHeartbeats 4000000
namespace L20
open PySem PySem.Spec PyProof.Rows L2 My
section
variable {P : Program} {w : World} {K : PySem.W.Frag} {mg : Str → Option Value} {base : Heap}
/-- three houses come, perhaps one mourns -/
def moL : Option (Int × Str × Int) → List NestedKey
  | Option.some t => [mournK t.1 t.2.1 t.2.2]
  | Option.none => []
def B20.hs (B : B20) : List NestedKey := [houseK B.bg B.a (B.hm B.a), houseK B.bg B.b (B.hm B.b), houseK B.bg B.c (B.hm B.c)] ++ moL B.mo
theorem pag_iff {B : B20} {k : NestedKey} {vs cs os : List NestedKey} (e : B.gs = vs ++ cs ++ os) : k ∈ B.hs ++ vs ++ cs ++ os ++ [B.back] ↔ B.Pag k := by
  constructor
  · intro h
    rcases List.mem_append.mp h with h | h
    · rw [List.append_assoc, List.append_assoc, ← List.append_assoc vs, ← e] at h
      rcases List.mem_append.mp h with h | h
      · unfold B20.hs at h
        rcases List.mem_append.mp h with h | h
        · simp only [List.mem_cons, List.not_mem_nil, or_false] at h
          rcases h with rfl | rfl | rfl
          · exact .ho (.head _)
          · exact .ho (.tail _ (.head _))
          · exact .ho (.tail _ (.tail _ (.head _)))
        · cases em : B.mo with
          | none => rw [em] at h; cases h
          | some t =>
            rw [em] at h
            rw [List.mem_singleton.mp h]
            exact .mo em
      · exact .go h
    · rw [List.mem_singleton.mp h]; exact .back
  · intro h
    cases h with
    | @ho n hn =>
      refine List.mem_append_left _ (List.mem_append_left _ (List.mem_append_left _ (List.mem_append_left _ (List.mem_append_left _ ?_))))
      simp only [List.mem_cons, List.not_mem_nil, or_false] at hn ⊢
      rcases hn with rfl | rfl | rfl
      · exact .inl rfl
      · exact .inr (.inl rfl)
      · exact .inr (.inr rfl)
    | go h =>
      refine List.mem_append_left _ ?_
      rw [List.append_assoc, List.append_assoc, ← List.append_assoc vs, ← e]
      exact List.mem_append_right _ h
    | @mo t h =>
      refine List.mem_append_left _ (List.mem_append_left _ (List.mem_append_left _ (List.mem_append_left _ (List.mem_append_right _ ?_))))
      rw [h]
      exact .head _
    | back => exact List.mem_append_right _ (.head _)
theorem flat_ints : ∀ ks : List Int, (ks.map V.int).all flatV = true
  | [] => rfl
  | k :: ks => by rw [List.map_cons, List.all_cons, flat_ints ks]; rfl
theorem all_nd {B : B20} (ok : B.Ok) {vs cs os : List NestedKey} (l : B.Ls vs cs os) : (B.hs ++ vs ++ cs ++ os ++ [B.back]).Nodup := by
  have zg : ∀ k ∈ B.gs, isG k = true ∧ k ≠ B.back := fun k hk => by
    obtain ⟨z, d, x, y, rfl, _, h2, _, hz⟩ := ok.gs k hk
    refine ⟨isG_iff.mpr ?_, fun e => ?_⟩
    · show z = _ ∨ z = _
      rcases hz with ⟨_, _, e | e⟩ | ⟨_, _, e⟩ | ⟨_, _, e⟩
      · exact .inl e
      · exact .inr e
      · exact .inl e
      · exact .inr e
    · have : d = B.day := congrArg dayK e
      omega
  have hh : ∀ k ∈ B.hs, isG k = false := fun k hk => by
    unfold B20.hs at hk
    rcases List.mem_append.mp hk with h | h
    · simp only [List.mem_cons, List.not_mem_nil, or_false] at h
      rcases h with rfl | rfl | rfl
      · exact isG_not (z_house _ _ _) (by decide +kernel) (by decide +kernel)
      · exact isG_not (z_house _ _ _) (by decide +kernel) (by decide +kernel)
      · exact isG_not (z_house _ _ _) (by decide +kernel) (by decide +kernel)
    · cases em : B.mo with
      | none => rw [em] at h; cases h
      | some t =>
        rw [em] at h
        rw [List.mem_singleton.mp h]
        exact isG_not (z_mourn _ _ _) (by decide +kernel) (by decide +kernel)
  have zb : isG B.back = true := isG_iff.mpr ok.z
  have nh : B.hs.Nodup := by
    unfold B20.hs
    have h1 : ∀ {x y : Str}, x ≠ y → houseK B.bg x (B.hm x) ≠ houseK B.bg y (B.hm y) := fun h e => h (house_a e)
    have h2 : ∀ (x : Str) (t : Int × Str × Int), houseK B.bg x (B.hm x) ≠ mournK t.1 t.2.1 t.2.2 := fun x t => kind_ne (z_house _ _ _) (z_mourn _ _ _) (by decide +kernel)
    cases B.mo with
    | none => simp [moL, h1 ok.ab, h1 ok.ac, h1 ok.bc]
    | some t => simp [moL, h1 ok.ab, h1 ok.ac, h1 ok.bc, h2]
  have e : B.hs ++ vs ++ cs ++ os ++ [B.back] = B.hs ++ (B.gs ++ [B.back]) := by rw [l.gs]; simp
  rw [e]
  refine List.nodup_append.mpr ⟨nh, List.nodup_append.mpr ⟨l.nd, by simp, fun x hx y hy e => (zg x hx).2 (by rw [e, List.mem_singleton.mp hy])⟩, fun x hx y hy e => ?_⟩
  have := hh x hx
  rw [e] at this
  rcases List.mem_append.mp hy with h | h
  · rw [(zg y h).1] at this; cases this
  · rw [List.mem_singleton.mp h, zb] at this; cases this
end
end L20

set_option Elab.async false
set_option linter.all false
set_option maxRecDepth 100000
set_option maxHeartbeats 4000000
namespace L20
open PySem PySem.Spec PyProof.Rows L2 My
section
variable {P : Program} {w : World} {K : PySem.W.Frag} {mg : Str → Option Value} {base : Heap}
section
variable {B : B20} {ks vs cs os : List NestedKey}
theorem rws_mem (l : B.Ls vs cs os) {q : Sg} (h : q ∈ B.rws vs cs os) : (∃ k ∈ B.gs, q = dueS k) ∨ q = (B.b, B.a, B.met, B.back) := by
  unfold B20.rws at h
  rcases List.mem_append.mp h with h | h
  · refine .inl ?_
    rcases List.mem_append.mp h with h | h
    · split at h
      · cases h
      · obtain ⟨k, hk, rfl⟩ := List.mem_map.mp h
        exact ⟨k, by rw [l.gs]; exact List.mem_append_left _ (List.mem_append_left _ hk), rfl⟩
    · obtain ⟨k, hk, rfl⟩ := List.mem_map.mp h
      exact ⟨k, by rw [l.gs]; exact List.mem_append_right _ hk, rfl⟩
  · split at h
    · exact .inr (List.mem_singleton.mp h)
    · cases h
theorem rws_pg (l : B.Ls vs cs os) (pg : ∀ k, B.Pag k → PgK k) : ∀ q ∈ B.rws vs cs os, PgK q.2.2.2 := fun q hq => by
  rcases rws_mem l hq with ⟨k, hk, rfl⟩ | rfl
  · exact pg _ (.go hk)
  · exact pg _ .back
theorem rws_eq (ok : B.Ok) (l : B.Ls vs cs os) : ∀ p ∈ B.rws vs cs os, ∀ q ∈ B.rws vs cs os, p.2.2.2 = q.2.2.2 → p = q := fun p hp q hq e => by
  have nb : ∀ k ∈ B.gs, k ≠ B.back := fun k hk e => by
    obtain ⟨z, d, x, y, rfl, _, h2, _⟩ := ok.gs k hk
    have : d = B.day := congrArg dayK e
    omega
  rcases rws_mem l hp with ⟨k, hk, rfl⟩ | rfl <;> rcases rws_mem l hq with ⟨k', hk', rfl⟩ | rfl
  · have e : k = k' := e
    rw [e]
  · exact absurd e (nb k hk)
  · exact absurd e.symm (nb k' hk')
  · rfl
theorem rws_pl (ok : B.Ok) (l : B.Ls vs cs os) (pa : Plain B.a) (pb : Plain B.b) (pc : Plain B.c) : ∀ q ∈ B.rws vs cs os, Plain q.1 ∧ Plain q.2.1 := fun q hq => by
  rcases rws_mem l hq with ⟨k, hk, rfl⟩ | rfl
  · obtain ⟨z, d, x, y, rfl, _, _, _, hz⟩ := ok.gs k hk
    show Plain y ∧ Plain x
    rcases hz with ⟨rfl, rfl, _⟩ | ⟨rfl, rfl, _⟩ | ⟨rfl, rfl, _⟩
    · exact ⟨pa, pb⟩
    · exact ⟨pa, pc⟩
    · exact ⟨pc, pb⟩
  · exact ⟨pb, pa⟩
theorem rws_len : (B.rws vs cs os).length ≤ vs.length + os.length + 1 := by
  unfold B20.rws
  rw [List.length_append, List.length_append, List.length_map]
  have h1 : (if B.met then [] else vs.map dueS).length ≤ vs.length := by split; exact Nat.zero_le _; rw [List.length_map]; exact Nat.le_refl _
  have h2 : (if B.some vs cs = [] then [((B.b, B.a, B.met, B.back) : Sg)] else []).length ≤ 1 := by split; exact Nat.le_refl _; exact Nat.zero_le _
  omega
end
theorem ok3_q {q : Sg} (h1 : PgK q.2.2.2) (h3 : Plain q.1) (h4 : Plain q.2.1) : Ok3 (qK q).data 100000 3 := by
  have ps : Plain (sortS q.2.2.1) := by
    cases q.2.2.1
    · exact ⟨by decide +kernel, by decide +kernel⟩
    · exact ⟨by decide +kernel, by decide +kernel⟩
  refine (ok3_tup (c := 20000) (e := 2) fun k hk => ?_).mono (by show (20000 + 2) * 4 + 3 ≤ 100000; decide) (Nat.le_refl _)
  rcases List.mem_cons.mp hk with rfl | hk
  · exact (ok3_text h3).mono (by decide) (by decide)
  rcases List.mem_cons.mp hk with rfl | hk
  · exact (ok3_text h4).mono (by decide) (by decide)
  rcases List.mem_cons.mp hk with rfl | hk
  · exact (ok3_text ps).mono (by decide) (by decide)
  · rw [List.mem_singleton.mp hk]
    exact ok3_page h1
theorem rk_at {H : Hp} {x : V} {q : Sg} (h : Nk H x (rk q)) : ∃ (b : Addr) (v pv : V), x = .ref b ∧ H b = some (.tup [.str q.1, .str q.2.1, v, .str (sortS q.2.2.1), pv]) ∧ Nk H pv q.2.2.2 := by
  unfold rk at h
  cases h with
  | tup ha hk =>
    cases hk with
    | cons n1 hk =>
      cases n1
      cases hk with
      | cons n2 hk =>
        cases n2
        cases hk with
        | cons n3 hk =>
          cases hk with
          | cons n4 hk =>
            cases n4
            cases hk with
            | cons n5 hk =>
              cases hk
              exact ⟨_, _, _, rfl, ha, n5⟩
theorem rows_sbl {rs : List Sg} (h : ∀ q ∈ rs, PgK q.2.2.2) (hv : ∀ p ∈ rs, ∀ q ∈ rs, p.2.2.2 = q.2.2.2 → p = q) : Sbl (rs.map rk) := by
  refine ⟨.inl fun k hk => ?_, fun k hk k' hk' => ?_, fun k hk => ?_⟩
  · obtain ⟨q, _, rfl⟩ := List.mem_map.mp hk
    exact ⟨_, _, rfl⟩
  · obtain ⟨q, hq, rfl⟩ := List.mem_map.mp hk
    obtain ⟨q', hq', rfl⟩ := List.mem_map.mp hk'
    exact ⟨_, rk_lt (h q hq) (h q' hq') (fun z => by rw [hv q hq q' hq' z])⟩
  · obtain ⟨q, hq, rfl⟩ := List.mem_map.mp hk
    have d1 := (place_depth (h q hq)).1
    have d2 := (place_depth (h q hq)).2
    obtain ⟨z, d, r, e, _⟩ := h q hq
    show (NestedKey.tup [.text q.1, .text q.2.1, rank q.2.2.2, .text (sortS q.2.2.1), q.2.2.2]).depth ≤ 50
    rw [e] at d1 d2 ⊢
    rw [place_eq] at d1
    rw [rank_eq]
    simp only [NestedKey.depthAll, NestedKey.depth] at d1 d2 ⊢
    omega
theorem some_nd {B : B20} {vs cs os : List NestedKey} (l : B.Ls vs cs os) : (B.some vs cs).Nodup := by
  have nd := l.nd
  rw [l.gs] at nd
  have n1 := (List.nodup_append.mp nd).1
  unfold B20.some
  split
  · exact (List.perm_append_comm).nodup_iff.mp n1
  · rw [List.append_nil]
    exact (List.nodup_append.mp n1).2.1
theorem some_pg {B : B20} {vs cs os : List NestedKey} (l : B.Ls vs cs os) : ∀ k ∈ B.some vs cs, B.Pag k := fun k hk => by
  refine .go ?_
  rw [l.gs]
  unfold B20.some at hk
  rcases List.mem_append.mp hk with h | h
  · exact List.mem_append_left _ (List.mem_append_right _ h)
  · split at h
    · exact List.mem_append_left _ (List.mem_append_left _ h)
    · cases h
/-- the mark of the way back -/
def B20.mkD (B : B20) (ks vs cs : List NestedKey) : NestedKey := if B.some vs cs = [] then .tup [.text "due"] else .tup [.text "answer", .num ((B.sa ks).length : Int)]
theorem mk_last {B : B20} (ok : B.Ok) {ks vs cs os : List NestedKey} (l : B.Ls vs cs os) (o : Ord ks) (pg : ∀ k, k ∈ ks ↔ B.Pag k) {s : WS} (F : B.Fin (((ks.filter isG).filter fun k => decide (k ≠ B.back)).map dueS) s) : ∃ M, s.mks = M ++ [markS B.back (B.mkD ks vs cs)] := by
  obtain ⟨M, e⟩ := F.mkl
  refine ⟨M, ?_⟩
  have sn := some_nil ok l o pg
  rw [e]
  unfold B20.mkD
  by_cases c : B.some vs cs = []
  · rw [if_pos c, if_pos (sn.mpr c)]
  · rw [if_neg c, if_neg (fun z => c (sn.mp z)), sa_map, List.length_map]
/-- what the way back answered -/
def B20.anK (B : B20) (ks vs cs : List NestedKey) : List NestedKey := if B.some vs cs = [] then [] else [.tup [B.back, .tup ((B.sa ks).map fun k => .tup [.text B.a, .text B.b, k])]]
theorem mk_ok3 {B : B20} {ks vs cs : List NestedKey} (h : (B.sa ks).length ≤ 100) (pb : PgK B.back) : Ok3 (NestedKey.tup [B.back, B.mkD ks vs cs]).data 50000 3 := by
  have m : Ok3 (B.mkD ks vs cs).data 20000 2 := by
    unfold B20.mkD
    have pl : Plain "due" := ⟨by decide +kernel, by decide +kernel⟩
    have pl2 : Plain "answer" := ⟨by decide +kernel, by decide +kernel⟩
    split
    · refine Ok3.mono (ok3_tup (ks := [.text "due"]) (c := 1921) (e := 0) fun k hk => ?_) (by show (1921 + 2) * 1 + 3 ≤ 20000; decide) (by decide)
      rw [List.mem_singleton.mp hk]
      exact (ok3_text pl).mono (by decide) (Nat.le_refl _)
    · refine Ok3.mono (ok3_tup (ks := [.text "answer", .num (((B.sa ks).length : Nat) : Int)]) (c := 1921) (e := 0) fun k hk => ?_) (by show (1921 + 2) * 2 + 3 ≤ 20000; decide) (by decide)
      rcases List.mem_cons.mp hk with rfl | hk
      · exact (ok3_text pl2).mono (by decide) (Nat.le_refl _)
      · rw [List.mem_singleton.mp hk]
        exact ok3_num (by omega) (by omega)
  refine (ok3_tup (c := 20000) (e := 2) fun k hk => ?_).mono (by show (20000 + 2) * 2 + 3 ≤ 50000; decide) (Nat.le_refl _)
  rcases List.mem_cons.mp hk with rfl | hk
  · exact ok3_page pb
  · rw [List.mem_singleton.mp hk]; exact m
theorem an_ok3 {B : B20} {ks vs cs : List NestedKey} (h : (B.sa ks).length ≤ 10) (pb : PgK B.back) (pa : Plain B.a) (pbb : Plain B.b) (pk : ∀ k ∈ B.sa ks, PgK k) : Ok3 (PyData.list (NestedKey.datas (B.anK ks vs cs))) 2000000 6 := by
  unfold B20.anK
  split
  · exact (ok3_list (ks := []) (c := 0) (e := 0) fun k hk => by cases hk).mono (by decide) (by decide)
  · have t1 : ∀ k ∈ B.sa ks, Ok3 (NestedKey.tup [.text B.a, .text B.b, k]).data 60009 3 := fun k hk => by
      refine (ok3_tup (c := 20000) (e := 2) fun x hx => ?_).mono (by show (20000 + 2) * 3 + 3 ≤ 60009; decide) (Nat.le_refl _)
      rcases List.mem_cons.mp hx with rfl | hx
      · exact (ok3_text pa).mono (by decide) (by decide)
      rcases List.mem_cons.mp hx with rfl | hx
      · exact (ok3_text pbb).mono (by decide) (by decide)
      · rw [List.mem_singleton.mp hx]
        exact ok3_page (pk k hk)
    have t2 : Ok3 (NestedKey.tup ((B.sa ks).map fun k => .tup [.text B.a, .text B.b, k])).data 600113 4 := by
      refine (ok3_tup (c := 60009) (e := 3) fun x hx => ?_).mono ?_ (Nat.le_refl _)
      · obtain ⟨k, hk, rfl⟩ := List.mem_map.mp hx
        exact t1 k hk
      · rw [List.length_map]
        omega
    have t3 : Ok3 (NestedKey.tup [B.back, .tup ((B.sa ks).map fun k => .tup [.text B.a, .text B.b, k])]).data 1200233 5 := by
      refine (ok3_tup (c := 600113) (e := 4) fun x hx => ?_).mono (by show (600113 + 2) * 2 + 3 ≤ 1200233; decide) (Nat.le_refl _)
      rcases List.mem_cons.mp hx with rfl | hx
      · exact (ok3_page pb).mono (by decide) (by decide)
      · rw [List.mem_singleton.mp hx]; exact t2
    refine (ok3_list (c := 1200233) (e := 5) fun x hx => ?_).mono (by show (1200233 + 2) * 1 + 3 ≤ 2000000; decide) (Nat.le_refl _)
    rw [List.mem_singleton.mp hx]
    exact t3
theorem mark_at {H : Hp} {x : V} {q m : NestedKey} (h : Nk H x (markS q m)) : ∃ (pp : Addr) (v1 v2 : V), x = .ref pp ∧ H pp = some (.tup [v1, v2]) ∧ Nk H v1 q ∧ Nk H v2 m := by
  unfold markS at h
  cases h with
  | tup ha hk =>
    cases hk with
    | cons n1 hk =>
      cases hk with
      | cons n2 hk =>
        cases hk
        exact ⟨_, _, _, rfl, ha, n1, n2⟩
theorem Gn.gk {Ts : List Addr} {a b c : Str} {H H' : Hp} {t c0 md lv lc po : Addr} {d0 ev ec e1 e2 : Int} {vs cs os : List NestedKey} (g : Gn a b c H t c0 md lv lc po d0 ev ec e1 e2 vs cs os) (s : Gk Ts H H') : Gn a b c H' t c0 md lv lc po d0 ev ec e1 e2 vs cs os :=
  { g with hmd := s.1 _ _ g.hmd (fun ps z => by cases z), hv := let ⟨xs, h, n⟩ := g.hv; ⟨xs, s.1 _ _ h (fun ps z => by cases z), n.at (.gk s)⟩, hc := let ⟨xs, h, n⟩ := g.hc; ⟨xs, s.1 _ _ h (fun ps z => by cases z), n.at (.gk s)⟩, ho := let ⟨xs, h, n⟩ := g.ho; ⟨xs, s.1 _ _ h (fun ps z => by cases z), n.at (.gk s)⟩ }
end
end L20

set_option Elab.async false
set_option linter.all false
set_option maxRecDepth 100000
set_option maxHeartbeats 4000000
namespace L20
open PySem PySem.Spec PyProof.Rows L2 My
section
variable {P : Program} {w : World} {K : PySem.W.Frag} {mg : Str → Option Value} {base : Heap}
theorem tb_upd {Ts : List Addr} {H : Hp} {b : Addr} {o o' : HO} (tb : Tbs Ts H) (e : H b = some o) (n : ∀ ps, o ≠ .tbl ps) : Tbs Ts (upd H b o') := fun c hc => by
  obtain ⟨ps, e1, q⟩ := tb c hc
  exact ⟨ps, by rw [upd_ne (fun z => by rw [z, e] at e1; exact n ps (by injection e1))]; exact e1, q⟩
def spLaw {w : World} {K : PySem.W.Frag} {mg : Str → Option Value} (T : Tx K mg w) : Sp := fun vs H Q _ => ∃ (a : Addr) (ns : List Int), vs = [.ref a] ∧ SqL K H a (ns.map V.int) ∧ ns.length ≤ 63 ∧ (∀ P ∈ tbs T, GxR.TabG H P) ∧ ∀ H', Q (.bl true) H'
theorem ok_law (T : Tx K mg w) (B0 : Tb T base) : GU.FnG P w K mg base CX0 9 T.f_law T.d_law ["_law_script"] (spLaw T) := by
  have G_w_feed : FnOk P w K mg base CX0 1 T.f_w_feed T.d_w_feed ["_law_script"] (spFeed K) := ok_feed T
  have G_w_draw : FnOk P w K mg base CX0 1 T.f_w_draw T.d_w_draw ["_law_feed_here", "_law_many"] (spDraw) := ok_draw T
  have G_w_names : FnOk P w K mg base CX0 2 T.f_w_names T.d_w_names ["_law_feed_here"] (spNine) := ok_nine T
  have K_w_rank : FnOk P w K mg base CX0 1 T.f_w_rank T.d_w_rank ["_law_page"] (spKey rank PgK) := ok_wrank T
  have G_w_rank : FnOk P w K mg base CX0 1 T.f_w_rank T.d_w_rank ["_law_page"] (spKey rank PgK) := ok_wrank T
  have G_w_gone : FnOk P w K mg base CX0 2 T.f_w_gone T.d_w_gone ["_law_feed_here", "_law_day", "_law_b", "_law_a", "_law_c"] (spGone) := ok_gone T
  have G_dues : FnOk P w K mg base CX0 8 T.f_dues T.d_dues ["book", "terms", "day"] (spDues T) := ok_dues T B0
  have G_marks : FnOk P w K mg base CX0 8 T.f_marks T.d_marks ["book", "terms", "day"] (spMarks T) := ok_marks T B0
  have G_answered : FnOk P w K mg base CX0 8 T.f_answered T.d_answered ["book", "terms", "day"] (spAnswered T) := ok_answered T B0
  refine GU.okG T.F_law S_law (fun vs H Q E h => ?_) (fun cdv A outer s H vs Q E gd hr h => ?_)
  · obtain ⟨a, ns, rfl, _⟩ := h
    rfl
  · obtain ⟨a, ns, rfl, hS, hlen, hB, q⟩ := h
    have hB : Tbs (tbs T) H := hB
    refine ⟨_, (pss_cons (ps_set (i := 1) S_law.nd rfl (.inl rfl) (pe_call G_w_feed (hr.mono (by decide)) (by rfl) T.g_w_feed T.F_w_feed.kp T.b_w_feed .nil pass0 (pa_cons (pv 0) pa_nil)))
      (pss_cons (ps_asg (pe_tup (pa_cons (pe_call G_w_draw (hr.mono (by decide)) (by rfl) T.g_w_draw T.F_w_draw.kp T.b_w_draw .nil pass0 (pa_cons (pv 1) (pa_cons pe_int pa_nil))) (pa_cons (pe_call G_w_draw (hr.mono (by decide)) (by rfl) T.g_w_draw T.F_w_draw.kp T.b_w_draw .nil pass0 (pa_cons (pv 1) (pa_cons pe_int pa_nil))) (pa_cons (pe_op op_add pe_int (pe_call G_w_draw (hr.mono (by decide)) (by rfl) T.g_w_draw T.F_w_draw.kp T.b_w_draw .nil pass0 (pa_cons (pv 1) (pa_cons pe_int pa_nil)))) pa_nil)))) (pg_tup rfl (pgs_cons (pg_name (i := 2) S_law.nd rfl (.inr rfl)) (pgs_cons (pg_name (i := 3) S_law.nd rfl (.inr rfl)) (pgs_cons (pg_name (i := 4) S_law.nd rfl (.inl rfl)) pgs_nil)))))
      (pss_cons (ps_asg (pe_slice sl_list (pe_call G_w_names (hr.mono (by decide)) (by rfl) T.g_w_names T.F_w_names.kp T.b_w_names .nil pass0 (pa_cons (pv 1) pa_nil)) po_none (po_some pe_int)) (pg_unl rfl (pgs_cons (pg_name (i := 5) S_law.nd rfl (.inr rfl)) (pgs_cons (pg_name (i := 6) S_law.nd rfl (.inr rfl)) (pgs_cons (pg_name (i := 7) S_law.nd rfl (.inl rfl)) pgs_nil)))))
      (pss_cons (ps_set (i := 8) S_law.nd rfl (.inl rfl) (pe_call G_w_draw (hr.mono (by decide)) (by rfl) T.g_w_draw T.F_w_draw.kp T.b_w_draw .nil pass0 (pa_cons (pv 1) (pa_cons pe_int pa_nil))))
      (pss_cons (ps_set (i := 9) S_law.nd rfl (.inl rfl) (pe_tup (pa_cons pe_int (pa_cons pe_int (pa_cons pe_int (pa_cons pe_int (pa_cons pe_int (pa_cons pe_int (pa_cons pe_int pa_nil)))))))))
      (pss_cons (ps_set (i := 10) S_law.nd rfl (.inr rfl) (pe_callTy call_tuple_of (by rfl) T.m_tuple (by decide +kernel) (pa_cons (pe_callB (r := rSortedI K) cr_sortedI (by rfl) T.m_sorted (by decide +kernel) (pa_cons (pe_lc (own := [("_law_k", 24)]) (g := gName 24) (tt := tYes) (by rfl) S_law.nd (pi_range1 (by rfl) T.m_range (pa_cons (pv 4) pa_nil)) (blkOk_by (own := [("_law_k", 24)]) (N := N_law) (sc := defScope s_law) (by decide +kernel)) (fun _ _ _ _ _ => (pg_name (i := 24) S_law.nd rfl (.inl rfl))) (fun _ _ _ _ _ => pts_nil) (fun _ _ _ _ _ => (pe_op op_mod (pe_op op_add (pv 3) (pv 24)) pe_int))) pa_nil)) pa_nil)))
      (pss_cons (ps_set (i := 11) S_law.nd rfl (.inl rfl) (pe_lst (pa_cons (pe_tup (pa_cons pe_str (pa_cons (pv 8) (pa_cons (pv 5) (pa_cons (pv 9) pa_nil))))) (pa_cons (pe_tup (pa_cons pe_str (pa_cons (pv 8) (pa_cons (pv 6) (pa_cons (pv 10) pa_nil))))) (pa_cons (pe_tup (pa_cons pe_str (pa_cons (pv 8) (pa_cons (pv 7) (pa_cons (pv 9) pa_nil))))) pa_nil)))))
      (pss_cons (ps_asg (pe_call G_w_gone (hr.mono (by decide)) (by rfl) T.g_w_gone T.F_w_gone.kp T.b_w_gone .nil pass0 (pa_cons (pv 1) (pa_cons (pe_op op_add (pv 8) (pe_call G_w_draw (hr.mono (by decide)) (by rfl) T.g_w_draw T.F_w_draw.kp T.b_w_draw .nil pass0 (pa_cons (pv 1) (pa_cons pe_int pa_nil)))) (pa_cons (pv 6) (pa_cons (pv 5) (pa_cons (pv 7) pa_nil)))))) (pg_tup rfl (pgs_cons (pg_name (i := 12) S_law.nd rfl (.inl rfl)) (pgs_cons (pg_name (i := 13) S_law.nd rfl (.inl rfl)) (pgs_cons (pg_name (i := 14) S_law.nd rfl (.inl rfl)) pgs_nil)))))
      (pss_cons (ps_set (i := 14) S_law.nd rfl (.inl rfl) (pe_op op_add (pe_op op_add (pv 14) pe_int) (pe_call G_w_draw (hr.mono (by decide)) (by rfl) T.g_w_draw T.F_w_draw.kp T.b_w_draw .nil pass0 (pa_cons (pv 1) (pa_cons pe_int pa_nil)))))
      (pss_cons (ps_set (i := 14) S_law.nd rfl (.inl rfl) (pe_ix ix_list (pe_lc (own := [("_law_one", 25)]) (g := gName 25) (by rfl) S_law.nd (pi_range2 (by rfl) T.m_range (pa_cons (pv 14) (pa_cons (pe_op op_add (pv 14) pe_int) pa_nil))) (blkOk_by (own := [("_law_one", 25)]) (N := N_law) (sc := defScope s_law) (by decide +kernel)) (fun _ _ _ _ _ => (pg_name (i := 25) S_law.nd rfl (.inl rfl))) (fun _ _ _ _ _ => (pts_one (pt_cmpR op_eq (pe_cmpR (r := rIn K false) op_in_seq (pe_op op_mod (pv 25) pe_int) (pv 10) (by rfl)) (pe_cmpR op_ne (pv 2) pe_int (nomark _)) (nomark _)))) (fun _ _ _ _ _ => (pv 25))) pe_int (fun _ _ => rfl)))
      (pss_cons (ps_set (i := 15) S_law.nd rfl (.inl rfl) (pe_tup (pa_cons (pe_ix ix_list (pe_lst (pa_cons pe_str (pa_cons pe_str pa_nil))) (pe_callTy call_int1 (by rfl) T.m_int (by decide +kernel) (pa_cons (pe_cmpR op_gt (pv 2) pe_int (nomark _)) pa_nil)) (fun _ _ => rfl)) (pa_cons (pv 14) (pa_cons (pv 5) (pa_cons (pv 6) pa_nil))))))
      (pss_cons (ps_if (pt_cmpR op_gt (pv 2) pe_int (nomark _)) (pss_one (ps_expr (pe_bm PySem.F.plainAttrs_list PySem.F.slot_list_append PySem.F.type_list_append mt_append (pv 11) (pa_cons (pe_tup (pa_cons pe_str (pa_cons (pe_op op_sub (pv 14) (pe_call G_w_draw (hr.mono (by decide)) (by rfl) T.g_w_draw T.F_w_draw.kp T.b_w_draw .nil pass0 (pa_cons (pv 1) (pa_cons pe_int pa_nil)))) (pa_cons (pe_ix ix_list (pe_lst (pa_cons (pv 6) (pa_cons (pv 5) pa_nil))) (pe_op op_sub (pv 2) pe_int) (fun _ _ => rfl)) (pa_cons (pe_op op_add pe_int (pe_call G_w_draw (hr.mono (by decide)) (by rfl) T.g_w_draw T.F_w_draw.kp T.b_w_draw .nil pass0 (pa_cons (pv 1) (pa_cons pe_int pa_nil)))) pa_nil))))) pa_nil)))) pss_nil)
      (pss_cons (ps_set (i := 16) S_law.nd rfl (.inl rfl) (pe_callTy call_tuple_of (by rfl) T.m_tuple (by decide +kernel) (pa_cons (pe_callBK (cr_sortKL K_w_rank (hr.mono (by decide)) T.b_w_rank) (by rfl) T.m_sorted (by decide +kernel) (pa_cons (pe_op op_cat (pe_op op_cat (pe_op op_cat (pe_op op_cat (pv 11) (pe_dget (hu_of hr) (pv 12) pe_str (fun _ _ => rfl))) (pe_dget (hu_of hr) (pv 12) pe_str (fun _ _ => rfl))) (pv 13)) (pe_lst (pa_cons (pv 15) pa_nil))) pa_nil) (pk_cons (pe_glob (v := .ref T.f_w_rank) (by rfl) T.g_w_rank rfl) pk_nil)) pa_nil)))
      (pss_cons (ps_set (i := 17) S_law.nd rfl (.inl rfl) (pe_tup (pa_cons (pe_op op_add pe_int (pe_call G_w_draw (hr.mono (by decide)) (by rfl) T.g_w_draw T.F_w_draw.kp T.b_w_draw .nil pass0 (pa_cons (pv 1) (pa_cons pe_int pa_nil)))) (pa_cons (pe_op op_add pe_int (pe_call G_w_draw (hr.mono (by decide)) (by rfl) T.g_w_draw T.F_w_draw.kp T.b_w_draw .nil pass0 (pa_cons (pv 1) (pa_cons pe_int pa_nil)))) pa_nil))))
      (pss_cons (ps_set (i := 19) S_law.nd rfl (.inl rfl) (pe_callBK (cr_sortKL K_w_rank (hr.mono (by decide)) T.b_w_rank) (by rfl) T.m_sorted (by decide +kernel) (pa_cons (pe_op op_cat (pe_dget (hu_of hr) (pv 12) pe_str (fun _ _ => rfl)) (pe_lc (own := [("_law_page", 18)]) (g := gName 18) (by rfl) S_law.nd (pi_list (pe_dget (hu_of hr) (pv 12) pe_str (fun _ _ => rfl))) (blkOk_by (own := [("_law_page", 18)]) (N := N_law) (sc := defScope s_law) (by decide +kernel)) (fun _ _ _ _ _ => (pg_name (i := 18) S_law.nd rfl (.inl rfl))) (fun _ _ _ _ _ => (pts_one (pt_cmpR op_eq (pv 2) pe_int (nomark _)))) (fun _ _ _ _ _ => (pv 18)))) pa_nil) (pk_cons (pe_glob (v := .ref T.f_w_rank) (by rfl) T.g_w_rank rfl) pk_nil)))
      (pss_cons (ps_set (i := 20) S_law.nd rfl (.inl rfl) (pe_ifExp (pt_cmpR (op_neE (hu_of hr)) (pv 19) (pe_lst pa_nil) (nomark _)) (pe_tup (pa_cons pe_str (pa_cons (pe_callB call_len_seq (by rfl) T.m_len PySem.boot_len (pa_cons (pv 19) pa_nil)) pa_nil))) (pe_tup (pa_cons pe_str pa_nil))))
      (pss_cons (ps_if (pt_cmpR op_ne (pe_callB (GU.call_reprD gd hr) (by rfl) T.m_repr (by decide +kernel) (pa_cons (pe_ix ix_list (pe_call G_marks hr (by rfl) T.g_marks T.F_marks.kp T.b_marks .nil pass0 (pa_cons (pv 16) (pa_cons (pv 17) (pa_cons (pv 14) pa_nil)))) (pe_un un_neg pe_int) (fun _ _ => rfl)) pa_nil)) (pe_callB (GU.call_reprD gd hr) (by rfl) T.m_repr (by decide +kernel) (pa_cons (pe_tup (pa_cons (pv 15) (pa_cons (pv 20) pa_nil))) pa_nil)) (nomark _)) (pss_one (ps_ret pe_bl)) pss_nil)
      (pss_cons (ps_set (i := 21) S_law.nd rfl (.inl rfl) (pe_ifExp (pt_cmpR (op_neE (hu_of hr)) (pv 19) (pe_lst pa_nil) (nomark _)) (pe_lst (pa_cons (pe_tup (pa_cons (pv 15) (pa_cons (pe_callTy call_tuple_of (by rfl) T.m_tuple (by decide +kernel) (pa_cons (pe_lc (own := [("_law_page", 18)]) (g := gName 18) (tt := tYes) (by rfl) S_law.nd (pi_list (pv 19)) (blkOk_by (own := [("_law_page", 18)]) (N := N_law) (sc := defScope s_law) (by decide +kernel)) (fun _ _ _ _ _ => (pg_name (i := 18) S_law.nd rfl (.inl rfl))) (fun _ _ _ _ _ => pts_nil) (fun _ _ _ _ _ => (pe_tup (pa_cons (pv 5) (pa_cons (pv 6) (pa_cons (pv 18) pa_nil)))))) pa_nil)) pa_nil))) pa_nil)) (pe_lst pa_nil)))
      (pss_cons (ps_if (pt_cmpR op_ne (pe_callB (GU.call_reprD gd hr) (by rfl) T.m_repr (by decide +kernel) (pa_cons (pe_call G_answered hr (by rfl) T.g_answered T.F_answered.kp T.b_answered .nil pass0 (pa_cons (pv 16) (pa_cons (pv 17) (pa_cons (pv 14) pa_nil)))) pa_nil)) (pe_callB (GU.call_reprD gd hr) (by rfl) T.m_repr (by decide +kernel) (pa_cons (pv 21) pa_nil)) (nomark _)) (pss_one (ps_ret pe_bl)) pss_nil)
      (pss_cons (ps_setLc (i := 22) (own := [("_law_page", 18)]) (g := gName 18) (by rfl) S_law.nd rfl rfl (sw_true rfl rfl rfl (by decide +kernel)) (pi_list (pe_dget (hu_of hr) (pv 12) pe_str (fun _ _ => rfl))) (blkOk_by (own := [("_law_page", 18)]) (N := N_law) (sc := defScope s_law) (by decide +kernel)) (fun _ _ _ _ _ => (pg_name (i := 18) S_law.nd rfl (.inl rfl))) (fun _ _ _ _ _ => (pts_one (pt_cmpR op_ne (pv 2) pe_int (nomark _)))) (fun _ _ _ _ _ => (pe_tup (pa_cons (pv 5) (pa_cons (pv 6) (pa_cons (pe_call G_w_rank (hr.mono (by decide)) (by rfl) T.g_w_rank T.F_w_rank.kp T.b_w_rank .nil pass0 (pa_cons (pv 18) pa_nil)) (pa_cons pe_str (pa_cons (pv 18) pa_nil))))))))
      (pss_cons (ps_for PassesOwn.never rfl (pi_list (pv 13)) (pg_name (i := 18) S_law.nd rfl (.inl rfl))
      (pss_cons (ps_set (i := 23) S_law.nd rfl (.inl rfl) (pe_ifExp (pt_cmpR op_eq (pe_ix ix_tup (pv 18) pe_int (fun _ _ => rfl)) pe_str (nomark _)) (pe_tup (pa_cons (pv 5) (pa_cons (pv 7) pa_nil))) (pe_tup (pa_cons (pv 7) (pa_cons (pv 6) pa_nil)))))
      (pss_one (ps_expr (pe_bm PySem.F.plainAttrs_list PySem.F.slot_list_append PySem.F.type_list_append mt_append (pv 22) (pa_cons (pe_op op_catA (pv 23) (pe_tup (pa_cons (pe_call G_w_rank (hr.mono (by decide)) (by rfl) T.g_w_rank T.F_w_rank.kp T.b_w_rank .nil pass0 (pa_cons (pv 18) pa_nil)) (pa_cons (pe_ix ix_tup (pv 18) pe_int (fun _ _ => rfl)) (pa_cons (pv 18) pa_nil))))) pa_nil))))))
      (pss_cons (ps_if (pt_cmpR (r := rEqE K fun b => b) (op_eqE (hu_of hr)) (pv 19) (pe_lst pa_nil) (nomark _)) (pss_one (ps_expr (pe_bm PySem.F.plainAttrs_list PySem.F.slot_list_append PySem.F.type_list_append mt_append (pv 22) (pa_cons (pe_tup (pa_cons (pv 6) (pa_cons (pv 5) (pa_cons (pe_call G_w_rank (hr.mono (by decide)) (by rfl) T.g_w_rank T.F_w_rank.kp T.b_w_rank .nil pass0 (pa_cons (pv 15) pa_nil)) (pa_cons (pe_ix ix_list (pe_lst (pa_cons pe_str (pa_cons pe_str pa_nil))) (pe_callTy call_int1 (by rfl) T.m_int (by decide +kernel) (pa_cons (pe_cmpR op_eq (pv 2) pe_int (nomark _)) pa_nil)) (fun _ _ => rfl)) (pa_cons (pv 15) pa_nil)))))) pa_nil)))) pss_nil)
      (pss_cons (ps_setLc (i := 22) (own := [("_law_row", 26)]) (g := gName 26) (tt := tYes) (by rfl) S_law.nd rfl rfl (sw_true rfl rfl rfl (by decide +kernel)) (pi_list (pe_callB (cr_sortL (un64 hr)) (by rfl) T.m_sorted (by decide +kernel) (pa_cons (pv 22) pa_nil))) (blkOk_by (own := [("_law_row", 26)]) (N := N_law) (sc := defScope s_law) (by decide +kernel)) (fun _ _ _ _ _ => (pg_name (i := 26) S_law.nd rfl (.inl rfl))) (fun _ _ _ _ _ => pts_nil) (fun _ _ _ _ _ => (pe_op (r := rCatA K) op_catA (pe_slice (r := rSlA K) sl_tupA (pv 26) po_none (po_some pe_int)) (pe_slice (r := rSlA K) sl_tupA (pv 26) (po_some pe_int) po_none))))
      (pss_one (ps_ret (pe_cmpR op_eq (pe_callB (GU.call_reprD gd hr) (by rfl) T.m_repr (by decide +kernel) (pa_cons (pe_lc (own := [("_law_one", 25)]) (g := gName 25) (tt := tYes) (by rfl) S_law.nd (pi_list (pe_call G_dues hr (by rfl) T.g_dues T.F_dues.kp T.b_dues .nil pass0 (pa_cons (pv 16) (pa_cons (pv 17) (pa_cons (pv 14) pa_nil))))) (blkOk_by (own := [("_law_one", 25)]) (N := N_law) (sc := defScope s_law) (by decide +kernel)) (fun _ _ _ _ _ => (pg_name (i := 25) S_law.nd rfl (.inl rfl))) (fun _ _ _ _ _ => pts_nil) (fun _ _ _ _ _ => (pe_slice (r := rSlA K) sl_tupA (pv 25) po_none (po_some pe_int)))) pa_nil)) (pe_callB (GU.call_reprD gd hr) (by rfl) T.m_repr (by decide +kernel) (pa_cons (pv 22) pa_nil)) (nomark _))))))))))))))))))))))))))), ?_⟩
    refine ⟨_, rfl, a, ns, rfl, hS, fun t c0 H1 s1 nt hT1 => ?_⟩
    have K1 : Kp t H H1 := fun b o _ e => s1 b o e
    refine name_as (σ' := [some (.ref a), some (.ref t), none, none, none, none, none, none, none, none, none, none, none, none, none, none, none, none, none, none, none, none, none, none, none, none, none]) rfl ?_
    refine ⟨_, rfl, t, 5, 0, c0, rfl, by decide, by decide, hT1, by decide, fun way H2 w0 w1 hT2 hK2 => ⟨_, rfl, t, 7, 1, c0, rfl, by decide, by decide, hT2, by decide, fun first H3 f0 f1 hT3 hK3 => ⟨_, rfl, t, 6, 2, c0, rfl, by decide, by decide, hT3, by decide, fun v1 H4 u0 u1 hT4 hK4 => ⟨_, _, rfl, rfl, sz (by show 3 ≤ 1000; decide), fun q1 nq1 => ?_⟩⟩⟩⟩
    obtain ⟨m, em⟩ : ∃ m : Nat, (m : Int) = 1 + v1 := ⟨(1 + v1).toNat, by omega⟩
    have mb : 1 ≤ m ∧ m ≤ 6 := by omega
    have K4 := ((K1.trans hK2).trans hK3).trans hK4
    have hT5 := hT4.new (o := .tup [.int way, .int first, .int (1 + v1)]) nq1
    have K5 := K4.new (o := .tup [.int way, .int first, .int (1 + v1)]) nq1
    have hq1 := upd_same (H := H4) (a := q1) (o := .tup [.int way, .int first, .int (1 + v1)])
    refine ⟨q1, [.int way, .int first, .int (1 + v1)], rfl, .inl (.inl hq1), rfl, _, _, rfl, _, _, rfl, _, _, rfl, rfl, ?_⟩
    refine ⟨_, rfl, t, c0, 3, rfl, hT5, by decide, fun p4 zs H6 h4 nine hT6 hK6 f4 => ⟨3, rfl, p4, _, rfl, .inl (.inl h4), fun p5 n5 => ?_⟩⟩
    have K6 := K5.trans hK6
    obtain ⟨z0, z1, z2, z3, z4, z5, z6, z7, z8, rfl⟩ : ∃ z0 z1 z2 z3 z4 z5 z6 z7 z8, zs = [z0, z1, z2, z3, z4, z5, z6, z7, z8] := by
      match zs, nine.len with
      | [z0, z1, z2, z3, z4, z5, z6, z7, z8], _ => exact ⟨_, _, _, _, _, _, _, _, _, rfl⟩
    rw [show cutV ([z0, z1, z2, z3, z4, z5, z6, z7, z8].map V.str) none (some 3) = [V.str z0, .str z1, .str z2] from rfl]
    have hT7 := hT6.new (o := .lst [V.str z0, .str z1, .str z2]) n5
    have K7 := K6.new (o := .lst [V.str z0, .str z1, .str z2]) n5
    have h5 := upd_same (H := H6) (a := p5) (o := .lst [V.str z0, .str z1, .str z2])
    have nd9 : ([z0, z1, z2, z3, z4, z5, z6, z7, z8] : List Str).Nodup := nine.nd
    have hab : z0 ≠ z1 := fun e => by rw [e] at nd9; simp at nd9
    have hac : z0 ≠ z2 := fun e => by rw [e] at nd9; simp at nd9
    have hbc : z1 ≠ z2 := fun e => by rw [e] at nd9; simp at nd9
    have pla : Plain z0 := (nine.nm z0 (.head _)).plain
    have plb : Plain z1 := (nine.nm z1 (.tail _ (.head _))).plain
    have plc : Plain z2 := (nine.nm z2 (.tail _ (.tail _ (.head _)))).plain
    generalize upd H6 p5 (.lst [V.str z0, .str z1, .str z2]) = H7 at hT7 K7 h5 ⊢
    clear n5 f4 hK6 h4 nine nd9 hT6 K6 hT5 K5 hq1 nq1 hT4 K4 hK4 hT3 hK3 hT2 hK2 hT1 K1
    refine ⟨p5, _, rfl, .inl (.inl h5), rfl, _, _, rfl, _, _, rfl, _, _, rfl, rfl, ?_⟩
    refine ⟨_, rfl, t, 9000, 33, c0, rfl, by decide, by decide, hT7, by decide, fun bg H8 b0 b1 hT8 hK8 => ?_⟩
    have K8 := K7.trans hK8
    refine name_as (σ' := [some (.ref a), some (.ref t), some (.int way), some (.int first), some (.int (1 + v1)), some (.str z0), some (.str z1), some (.str z2), some (.int bg), none, none, none, none, none, none, none, none, none, none, none, none, none, none, none, none, none, none]) rfl ?_
    refine ⟨sz (by show 7 ≤ 1000; decide), fun pw npw => ?_⟩
    have h9 := upd_same (H := H8) (a := pw) (o := .tup (weekL.map V.int))
    have hT9 := hT8.new (o := .tup (weekL.map V.int)) npw
    have K9 := K8.new (o := .tup (weekL.map V.int)) npw
    change gName 9 _ _ (upd H8 pw (.tup (weekL.map V.int))) _
    generalize upd H8 pw (.tup (weekL.map V.int)) = H9 at h9 hT9 K9 ⊢
    refine name_as (σ' := [some (.ref a), some (.ref t), some (.int way), some (.int first), some (.int (1 + v1)), some (.str z0), some (.str z1), some (.str z2), some (.int bg), some (.ref pw), none, none, none, none, none, none, none, none, none, none, none, none, none, none, none, none, none]) rfl ?_
    refine ⟨_, rfl, 1 + v1, rfl, by omega, by omega, fun D nD => ?_⟩
    refine lc_range (lo := 0) (n := (1 + v1).toNat) (fun i Hy => Same H9 Hy ∧ Hy D = some (.lst (((List.range i).map fun k => (first + (k : Nat)) % 7).map V.int))) ⟨same_upd nD, upd_same⟩ ?_ ?_
    · rintro i Hy hi ⟨mm, hDy⟩
      refine ⟨rfl, tYesT ⟨_, rfl, _, rfl, _, _, rfl, rfl, _, _, rfl, rfl, by show (0 : Int) < 7; decide, _, hDy, small1000 (by rw [List.length_map, List.length_map, List.length_range]; omega), same_fresh nD mm, ?_⟩⟩
      rw [upd_same, List.range_succ, List.map_append, List.map_append]
      congr 3
      show [V.int ((first + (0 + (i : Int))) % 7)] = [V.int ((first + (i : Int)) % 7)]
      rw [Int.zero_add]
    rintro H10 ⟨s10, hD10⟩
    obtain ⟨hl0, ehl0⟩ : ∃ hl0 : List Int, hl0 = (List.range (1 + v1).toNat).map fun k => (first + (k : Nat)) % 7 := ⟨_, rfl⟩
    rw [← ehl0] at hD10
    refine ⟨D, hl0, rfl, .inl (.inl hD10), fun home p6 pm pw2 np6 => ?_⟩
    have hT10 := hT9.same s10
    have s11 := s10.trans (same_upd (o := .lst (home.map V.int)) np6)
    refine ⟨p6, _, rfl, .inl ⟨.inl (.inl upd_same), fun ph nph => ?_⟩⟩
    have s12 := s11.trans (same_upd (o := .tup (home.map V.int)) nph)
    have h12 := upd_same (H := upd H10 p6 (.lst (home.map V.int))) (a := ph) (o := .tup (home.map V.int))
    have hT12 := hT9.same s12
    have K12 : Kp t H (upd (upd H10 p6 (.lst (home.map V.int))) ph (.tup (home.map V.int))) := K9.trans fun x o _ e => s12 _ _ e
    have hw12 := s12 _ _ h9
    change gName 10 _ _ (upd (upd H10 p6 (.lst (home.map V.int))) ph (.tup (home.map V.int))) _
    generalize upd (upd H10 p6 (.lst (home.map V.int))) ph (.tup (home.map V.int)) = H12 at h12 hT12 K12 hw12 ⊢
    have hmm : ∀ x, x ∈ home ↔ ∃ k : Nat, k < (1 + v1).toNat ∧ (first + (k : Nat)) % 7 = x := fun x => by
      rw [pm.mem_iff, ehl0, List.mem_map]
      simp
    have lhm : home.length = (1 + v1).toNat := by rw [pm.length_eq, ehl0, List.length_map, List.length_range]
    have hw : HomeW home := ⟨by omega, fun x hx => by obtain ⟨k, _, rfl⟩ := (hmm x).mp hx; omega⟩
    clear s12 s11 s10 hD10 nph np6 nD pm pw2 hT9 K9 h9 hT10 hT8 K8 hK8 hT7 K7 h5 ehl0
    refine name_as (σ' := [some (.ref a), some (.ref t), some (.int way), some (.int first), some (.int (1 + v1)), some (.str z0), some (.str z1), some (.str z2), some (.int bg), some (.ref pw), some (.ref ph), none, none, none, none, none, none, none, none, none, none, none, none, none, none, none, none]) rfl ?_
    refine ⟨_, rfl, _, rfl, _, rfl, sz (by show 4 ≤ 1000; decide), fun q2 nq2 => ?_⟩
    have s13 := same_upd (o := .tup [.str "house", .int bg, .str z0, .ref pw]) nq2
    have hq2 := upd_same (H := H12) (a := q2) (o := .tup [.str "house", .int bg, .str z0, .ref pw])
    generalize upd H12 q2 (.tup [.str "house", .int bg, .str z0, .ref pw]) = H13 at s13 hq2 ⊢
    refine ⟨_, rfl, _, rfl, _, rfl, sz (by show 4 ≤ 1000; decide), fun q3 nq3 => ?_⟩
    have s14 := same_upd (o := .tup [.str "house", .int bg, .str z1, .ref ph]) nq3
    have hq3 := upd_same (H := H13) (a := q3) (o := .tup [.str "house", .int bg, .str z1, .ref ph])
    generalize upd H13 q3 (.tup [.str "house", .int bg, .str z1, .ref ph]) = H14 at s14 hq3 ⊢
    refine ⟨_, rfl, _, rfl, _, rfl, sz (by show 4 ≤ 1000; decide), fun q4 nq4 => ⟨sz (by show 3 ≤ 1000; decide), fun pl npl => ?_⟩⟩
    have s15 := (same_upd (o := .tup [.str "house", .int bg, .str z2, .ref pw]) nq4).trans (same_upd (o := .lst [.ref q2, .ref q3, .ref q4]) npl)
    have hq4 := same_upd (o := .lst [.ref q2, .ref q3, .ref q4]) npl _ _ (upd_same (H := H14) (a := q4) (o := .tup [.str "house", .int bg, .str z2, .ref pw]))
    have hpl := upd_same (H := upd H14 q4 (.tup [.str "house", .int bg, .str z2, .ref pw])) (a := pl) (o := .lst [.ref q2, .ref q3, .ref q4])
    change gName 11 _ _ (upd (upd H14 q4 (.tup [.str "house", .int bg, .str z2, .ref pw])) pl (.lst [.ref q2, .ref q3, .ref q4])) _
    have sA := s13.trans (s14.trans s15)
    have plH12 : H12 pl = none := by
      cases e : H12 pl with
      | none => rfl
      | some o => rw [same_upd (o := .tup [.str "house", .int bg, .str z2, .ref pw]) nq4 _ _ (s14 _ _ (s13 _ _ e))] at npl; cases npl
    generalize upd (upd H14 q4 (.tup [.str "house", .int bg, .str z2, .ref pw])) pl (.lst [.ref q2, .ref q3, .ref q4]) = H15 at s15 sA hq4 hpl ⊢
    have nk15 : NkAll H15 [.ref q2, .ref q3, .ref q4] [houseK bg z0 weekL, houseK bg z1 home, houseK bg z2 weekL] :=
      .cons (.tup (s15 _ _ (s14 _ _ hq2)) (.cons (.str _) (.cons (.int _) (.cons (.str _) (.cons (.tup (sA _ _ hw12) (nk_ints weekL)) .nil))))) (.cons (.tup (s15 _ _ hq3) (.cons (.str _) (.cons (.int _) (.cons (.str _) (.cons (.tup (sA _ _ h12) (nk_ints home)) .nil))))) (.cons (.tup hq4 (.cons (.str _) (.cons (.int _) (.cons (.str _) (.cons (.tup (sA _ _ hw12) (nk_ints weekL)) .nil))))) .nil))
    have hT15 := hT12.same sA
    have K15 : Kp t H H15 := K12.trans fun x o _ e => sA _ _ e
    obtain ⟨plt, plc0⟩ := hT12.ne plH12
    have plH : H pl = none := kp_none K12 plH12 plt
    have h15 := sA _ _ h12
    refine name_as (σ' := [some (.ref a), some (.ref t), some (.int way), some (.int first), some (.int (1 + v1)), some (.str z0), some (.str z1), some (.str z2), some (.int bg), some (.ref pw), some (.ref ph), some (.ref pl), none, none, none, none, none, none, none, none, none, none, none, none, none, none, none]) rfl ?_
    clear sA s15 s14 s13 hq2 hq3 hq4 nq2 nq3 nq4 npl hT12 K12 h12 hw12 plH12
    refine ⟨_, rfl, _, rfl, _, rfl, t, 2, 34, c0, rfl, by decide, by decide, hT15, by decide, fun v2 H16 u2 u3 hT16 hK16 => ⟨_, _, rfl, rfl, _, rfl, _, rfl, _, rfl, t, c0, 35, bg + v2, z0, z1, z2, rfl, hT16, by decide, by omega, by omega, hab, hac, hbc, fun r H17 md lv lc po dE vs cs os hr17 G lvc lo dl du hT17 hK17 nlv nlc npo => ?_⟩⟩
    have pl16 := hK16 _ _ plt hpl
    have lvp : lv ≠ pl := (ne_of_none pl16 nlv).symm
    have lcp : lc ≠ pl := (ne_of_none pl16 nlc).symm
    have pop : po ≠ pl := (ne_of_none pl16 npo).symm
    have pl17 := hK17 _ _ plt pl16
    have nk17 := (nk15.at (hT15.tups hK16)).at (hT16.tups hK17)
    have h17 := hT16.tups hK17 _ _ (hT15.tups hK16 _ _ h15)
    have K17 := (K15.trans hK16).trans hK17
    clear hK17 hT16 hK16 hpl nk15 h15 K15 hT15
    refine ⟨r, _, rfl, .inl (.inl hr17), rfl, _, _, rfl, _, _, rfl, _, _, rfl, rfl, ?_⟩
    refine ⟨_, rfl, _, _, rfl, rfl, _, rfl, t, 39, 95, c0, rfl, by decide, by decide, hT17, by decide, fun v3 H18 u4 u5 hT18 hK18 => ⟨_, _, rfl, rfl, ?_⟩⟩
    obtain ⟨d1, ed1⟩ : ∃ d1, d1 = dE + 1 + v3 := ⟨_, rfl⟩
    have G18 := G.draw hT17 hK18
    have pl18 := hK18 _ _ plt pl17
    have nk18 := nk17.at (hT17.tups hK18)
    have h18 := hT17.tups hK18 _ _ h17
    have K18 := K17.trans hK18
    refine name_as (σ' := [some (.ref a), some (.ref t), some (.int way), some (.int first), some (.int (1 + v1)), some (.str z0), some (.str z1), some (.str z2), some (.int bg), some (.ref pw), some (.ref ph), some (.ref pl), some (.ref md), some (.ref po), some (.int d1), none, none, none, none, none, none, none, none, none, none, none, none]) (by rw [ed1]; rfl) ?_
    clear G hT17 hK18 pl17 nk17 h17 K17 hr17
    obtain ⟨f, ef⟩ : ∃ f : Int → Bool, f = fun x => decide (V.bl (decide (x % 7 ∈ home)) = V.bl (!decide (V.int way = V.int 2))) := ⟨_, rfl⟩
    refine ⟨_, rfl, _, rfl, _, _, rfl, rfl, d1, d1 + 7, rfl, ⟨by omega, by omega, by omega, by omega⟩, fun D nD => ?_⟩
    refine lc_range (lo := d1) (n := (d1 + 7 - d1).toNat) (fun i Hy => Same H18 Hy ∧ ∃ ds : List Int, Hy D = some (.lst (ds.map V.int)) ∧ ds = ((List.range i).map fun k => d1 + (k : Nat)).filter f ∧ ds.length ≤ i) ⟨same_upd nD, [], upd_same, rfl, Nat.le_refl _⟩ ?_ ?_
    · rintro i Hy hi ⟨mm, ds, hDy, eds, lds⟩
      have nx : ((List.range (i + 1)).map fun k => d1 + (k : Nat)).filter f = ds ++ (if f (d1 + (i : Nat)) = true then [d1 + (i : Nat)] else []) := by
        rw [List.range_succ, List.map_append, List.filter_append, ← eds, List.map_cons, List.map_nil, List.filter_cons, List.filter_nil]
      refine ⟨rfl, _, rfl, _, _, rfl, rfl, by show (0 : Int) < 7; decide, _, rfl, ph, _, rfl, .inr (.inl (.inl (mm _ _ h18))), rfl, flat_ints home, _, rfl, rfl, rfl, _, rfl, ?_⟩
      have fi : f (d1 + (i : Int)) = decide (V.bl (if false = true then !inV (.int ((d1 + (i : Int)) % 7)) (home.map V.int) else inV (.int ((d1 + (i : Int)) % 7)) (home.map V.int)) = V.bl (!decide (V.int way = V.int 2))) := by
        rw [ef, if_neg (by decide), inV_int]
      refine ite2 (fun e => ?_) (fun e => ?_)
      · have e : f (d1 + (i : Int)) = true := fi.trans e
        refine ⟨_, rfl, _, hDy, small1000 (by rw [List.length_map]; omega), same_fresh nD mm, ds ++ [d1 + (i : Int)], by rw [upd_same, List.map_append]; rfl, by rw [nx, if_pos e], by rw [List.length_append]; exact Nat.succ_le_succ lds⟩
      · have e : ¬ f (d1 + (i : Int)) = true := fun z => e (fi.symm.trans z)
        exact ⟨mm, ds, hDy, by rw [nx, if_neg e, List.append_nil], by omega⟩
    rintro H19 ⟨s19, ds, hD19, eds, lds⟩
    rw [show (d1 + 7 - d1).toNat = 7 by omega] at eds lds
    have fx : ∃ x, d1 ≤ x ∧ x < d1 + 7 ∧ f x = true := by
      have blt : ∀ c m : Bool, c = m → decide (V.bl c = V.bl m) = true := fun c m e => by rw [e]; exact decide_eq_true rfl
      by_cases cw : way = 2
      · have wb : 0 ≤ (first + ((1 + v1).toNat : Nat)) % 7 ∧ (first + ((1 + v1).toNat : Nat)) % 7 < 7 := by omega
        refine ⟨d1 + (((first + ((1 + v1).toNat : Nat)) % 7 - d1 % 7) % 7), by omega, by omega, ?_⟩
        have ex : (d1 + (((first + ((1 + v1).toNat : Nat)) % 7 - d1 % 7) % 7)) % 7 = (first + ((1 + v1).toNat : Nat)) % 7 := by omega
        rw [ef]
        refine blt _ _ ?_
        rw [ex, cw, decide_eq_true (rfl : V.int 2 = V.int 2), decide_eq_false]
        · rfl
        · intro h
          obtain ⟨k, hk, e⟩ := (hmm _).mp h
          omega
      · refine ⟨d1 + ((first % 7 - d1 % 7) % 7), by omega, by omega, ?_⟩
        have ex : (d1 + ((first % 7 - d1 % 7) % 7)) % 7 = first % 7 := by omega
        rw [ef]
        refine blt _ _ ?_
        rw [ex, decide_eq_false (show ¬ V.int way = V.int 2 from fun z => cw (by injection z)), decide_eq_true]
        · rfl
        · exact (hmm _).mpr ⟨0, by omega, by show (first + ((0 : Nat) : Int)) % 7 = _; rw [show ((0 : Nat) : Int) = 0 from rfl, Int.add_zero]⟩
    obtain ⟨day, hday, dl1, du1, fd⟩ : ∃ day, ds[0]? = some day ∧ d1 ≤ day ∧ day < d1 + 7 ∧ f day = true := by
      obtain ⟨x, x0, x1, xf⟩ := fx
      have mem : x ∈ ds := by
        rw [eds]
        exact List.mem_filter.mpr ⟨List.mem_map.mpr ⟨(x - d1).toNat, List.mem_range.mpr (by omega), by omega⟩, xf⟩
      cases hds : ds with
      | nil => rw [hds] at mem; cases mem
      | cons y r =>
        have : y ∈ ds := by rw [hds]; exact .head _
        rw [eds] at this
        obtain ⟨h1, h2⟩ := List.mem_filter.mp this
        obtain ⟨k, hk, rfl⟩ := List.mem_map.mp h1
        have := List.mem_range.mp hk
        exact ⟨_, rfl, by omega, by omega, h2⟩
    refine ⟨D, _, 0, .int day, rfl, rfl, .inl (.inl hD19), atI_nat (j := 0) (by rw [List.getElem?_map, hday]; rfl), ?_⟩
    have hT19 := hT18.same s19
    have G19 := G18.same s19
    have pl19 := s19 _ _ pl18
    have nk19 := nk18.at (.same s19)
    have K19 : Kp t H H19 := K18.trans fun x o _ e => s19 _ _ e
    clear s19 hD19 eds lds hday hT18 G18 pl18 nk18 h18 K18 nD
    refine name_as (σ' := [some (.ref a), some (.ref t), some (.int way), some (.int first), some (.int (1 + v1)), some (.str z0), some (.str z1), some (.str z2), some (.int bg), some (.ref pw), some (.ref ph), some (.ref pl), some (.ref md), some (.ref po), some (.int day), none, none, none, none, none, none, none, none, none, none, none, none]) rfl ?_
    have dinh : day % 7 ∈ home ↔ way ≠ 2 := by
      rw [ef] at fd
      have fd := of_decide_eq_true fd
      injection fd with fd
      by_cases cw : way = 2
      · rw [cw, decide_eq_true (rfl : V.int 2 = V.int 2)] at fd
        exact ⟨(fun h => by rw [decide_eq_true h] at fd; cases fd), (fun h => absurd cw h)⟩
      · rw [decide_eq_false (show ¬ V.int way = V.int 2 from fun z => cw (by injection z))] at fd
        exact ⟨fun _ => cw, fun _ => of_decide_eq_true fd⟩
    have dyb : bg < day ∧ day ≤ bg + 80 ∧ dE < day := by omega
    refine ⟨sz (by show 2 ≤ 1000; decide), fun q5 nq5 => ?_⟩
    have s20 := same_upd (o := .lst [.str "card", .str "visit"]) nq5
    have hq5 := upd_same (H := H19) (a := q5) (o := .lst [.str "card", .str "visit"])
    obtain ⟨z, ez⟩ : ∃ z : Str, z = if decide (way > 0) = true then ("visit" : Str) else ("card" : Str) := ⟨_, rfl⟩
    have hz : z = "visit" ∨ z = "card" := by rw [ez]; split; exact .inl rfl; exact .inr rfl
    generalize upd H19 q5 (.lst [.str "card", .str "visit"]) = H20 at s20 hq5 ⊢
    refine ⟨_, rfl, _, _, rfl, rfl, .inr ⟨_, rfl, q5, _, _, .str z, rfl, rfl, .inl (.inl hq5), by rw [ez]; exact at_ks _, _, rfl, _, rfl, _, rfl, sz (by show 4 ≤ 1000; decide), fun bp nbp => ?_⟩⟩
    have s21 := s20.trans (same_upd (o := .tup [.str z, .int day, .str z0, .str z1]) nbp)
    have hbp := upd_same (H := H20) (a := bp) (o := .tup [.str z, .int day, .str z0, .str z1])
    generalize upd H20 bp (.tup [.str z, .int day, .str z0, .str z1]) = H21 at s21 hbp ⊢
    have hT21 := hT19.same s21
    have G21 := G19.same s21
    have pl21 := s21 _ _ pl19
    have nk21 := nk19.at (.same s21)
    have K21 : Kp t H H21 := K19.trans fun x o _ e => s21 _ _ e
    clear s21 s20 hq5 nq5 nbp hT19 G19 pl19 nk19 K19 fd ef
    refine name_as (σ' := [some (.ref a), some (.ref t), some (.int way), some (.int first), some (.int (1 + v1)), some (.str z0), some (.str z1), some (.str z2), some (.int bg), some (.ref pw), some (.ref ph), some (.ref pl), some (.ref md), some (.ref po), some (.int day), some (.ref bp), none, none, none, none, none, none, none, none, none, none, none]) rfl ?_
    refine name_nx ?_
    refine seq_join (R := fun σ2 H3 => ∃ (mo : Option (Int × Str × Int)) (xs : List V), σ2 = [some (.ref a), some (.ref t), some (.int way), some (.int first), some (.int (1 + v1)), some (.str z0), some (.str z1), some (.str z2), some (.int bg), some (.ref pw), some (.ref ph), some (.ref pl), some (.ref md), some (.ref po), some (.int day), some (.ref bp), none, none, none, none, none, none, none, none, none, none, none] ∧ H3 pl = some (.lst xs) ∧ NkAll H3 xs ([houseK bg z0 weekL, houseK bg z1 home, houseK bg z2 weekL] ++ moL mo) ∧ (mo = none ↔ ¬ way > 2) ∧ (∀ q, mo = some q → bg ≤ q.1 ∧ q.1 ≤ day ∧ day < q.1 + q.2.2 ∧ (q.2.1 = z0 ∨ q.2.1 = z1) ∧ dE ≤ q.1 ∧ q.2.2 ≤ 60) ∧ xs.length ≤ 4 ∧ FeedC H3 t c0 100 ∧ Gn z0 z1 z2 H3 t c0 md lv lc po (bg + v2) dE dE dE dE vs cs os ∧ Kp t H H3 ∧ H3 bp = some (.tup [.str z, .int day, .str z0, .str z1])) (fun D' kD => ?_) (fun σ2 H3 r3 => ?_)
    · refine ⟨_, rfl, _, _, rfl, rfl, _, rfl, ite2 (fun e => ?_) (fun e => ?_)⟩
      · have e : way > 2 := of_decide_eq_true e
        refine ⟨_, rfl, .inl ⟨rfl, _, .inl (.inl pl21)⟩, _, rfl, _, rfl, t, 2, 96, c0, rfl, by decide, by decide, hT21.mono (by decide), by decide, fun v4 H22 u6 u7 hT22 hK22 => ⟨_, _, rfl, rfl, _, rfl, _, rfl, sz (by show 2 ≤ 1000; decide), fun q6 nq6 => ?_⟩⟩
        have s23 := same_upd (o := .lst [.str z1, .str z0]) nq6
        have hq6 := upd_same (H := H22) (a := q6) (o := .lst [.str z1, .str z0])
        have hT23 := hT22.same s23
        generalize upd H22 q6 (.lst [.str z1, .str z0]) = H23 at s23 hq6 hT23 ⊢
        obtain ⟨nm, enm⟩ : ∃ nm : Str, nm = if way - 3 = 0 then z1 else z0 := ⟨_, rfl⟩
        have hnm : nm = z0 ∨ nm = z1 := by rw [enm]; split; exact .inr rfl; exact .inl rfl
        refine ⟨_, rfl, _, _, rfl, rfl, q6, _, _, .str nm, rfl, rfl, .inl (.inl hq6), by rw [enm]; exact at2s (by omega) (by omega), _, rfl, t, 9, 97, c0, rfl, by decide, by decide, hT23.mono (by decide), by decide, fun v5 H24 u8 u9 hT24 hK24 => ⟨_, _, rfl, rfl, sz (by show 4 ≤ 1000; decide), fun q7 nq7 => ?_⟩⟩
        have KB : Kp t H21 (upd H24 q7 (.tup [.str "mourn", .int (day - v4), .str nm, .int (2 + v5)])) := ((hK22.trans fun x o _ e => s23 _ _ e).trans hK24).trans fun x o _ e => same_upd nq7 _ _ e
        have hq7 := upd_same (H := H24) (a := q7) (o := .tup [.str "mourn", .int (day - v4), .str nm, .int (2 + v5)])
        have hT25 := hT24.new (o := .tup [.str "mourn", .int (day - v4), .str nm, .int (2 + v5)]) nq7
        generalize upd H24 q7 (.tup [.str "mourn", .int (day - v4), .str nm, .int (2 + v5)]) = H25 at KB hq7 hT25 ⊢
        have pl25 := KB _ _ plt pl21
        refine ⟨pl, _, .ref q7, rfl, rfl, pl25, small1000 (by show 3 ≤ 1000 - 0; decide), ?_⟩
        have tp := tups_lst (ys := [.ref q2, .ref q3, .ref q4] ++ [.ref q7]) pl25
        have tp0 := hT21.tups KB
        have G25 := G21.draw hT21 KB
        refine kD _ _ ⟨some (day - v4, nm, 2 + v5), _, rfl, upd_same, (nk21.at (tp0.trans tp)).app (.cons (.tup (tp _ _ hq7) (.cons (.str _) (.cons (.int _) (.cons (.str _) (.cons (.int _) .nil))))) .nil), ⟨(fun h => by cases h), (fun h => absurd e h)⟩, fun q hq => ?_, by show 3 + 1 ≤ 4; decide, (hT25.updO plt plc0).mono (by decide), ?_, kp_fresh plH (K21.trans KB), tp _ _ (tp0 _ _ hbp)⟩
        · cases hq
          exact ⟨by show bg ≤ day - v4; omega, by show day - v4 ≤ day; omega, by show day < day - v4 + (2 + v5); omega, hnm, by show dE ≤ day - v4; omega, by show 2 + v5 ≤ 60; omega⟩
        · exact G25.oth pl25 lvp lcp pop
      · have e : ¬ way > 2 := fun h => e (decide_eq_true h)
        exact kD _ _ ⟨none, _, rfl, pl21, nk21, ⟨(fun _ => e), (fun _ => rfl)⟩, (fun q hq => by cases hq), by show 3 ≤ 4; decide, hT21.mono (by decide), G21, K21, hbp⟩
    obtain ⟨mo, xs, rfl, pl4, nk4, hmo, mob, lxs, hT4, G4, K4, hbp4⟩ := r3
    obtain ⟨B, eB⟩ : ∃ B : B20, B = ⟨z0, z1, z2, bg, home, z, day, decide (way = 1), mo, vs ++ cs ++ os⟩ := ⟨_, rfl⟩
    have egs : B.gs = vs ++ cs ++ os := by rw [eB]
    have emo : B.mo = mo := by rw [eB]
    have emet : B.met = decide (way = 1) := by rw [eB]
    have ea : B.a = z0 := by rw [eB]
    have eb : B.b = z1 := by rw [eB]
    have ec : B.c = z2 := by rw [eB]
    have ebg : B.bg = bg := by rw [eB]
    have eday : B.day = day := by rw [eB]
    have ezz : B.z = z := by rw [eB]
    have ok : B.Ok := by
      rw [eB]
      refine ⟨hab, hac, hbc, hz, dyb.1, fun k hk => ?_, fun q hq => ?_, ?_⟩
      · have hk : k ∈ vs ++ cs ++ os := hk
        have fin : ∀ x, bg + v2 ≤ x → x < dE → bg ≤ x ∧ x < day ∧ ∀ t, mo = some t → x < t.1 := fun x h1 h2 => ⟨by omega, by omega, fun t ht => by have := (mob t ht).2.2.2.2.1; omega⟩
        rcases List.mem_append.mp hk with hk | hk
        · rcases List.mem_append.mp hk with hk | hk
          · obtain ⟨x, rfl, l, m'⟩ := G4.fv k hk
            exact ⟨_, x, _, _, rfl, (fin x l m').1, (fin x l m').2.1, (fin x l m').2.2, .inl ⟨rfl, rfl, .inl rfl⟩⟩
          · obtain ⟨x, rfl, l, m'⟩ := G4.fc k hk
            exact ⟨_, x, _, _, rfl, (fin x l m').1, (fin x l m').2.1, (fin x l m').2.2, .inl ⟨rfl, rfl, .inr rfl⟩⟩
        · rcases G4.fo k hk with ⟨x, rfl, l, m'⟩ | ⟨x, rfl, l, m'⟩
          · exact ⟨_, x, _, _, rfl, (fin x l m').1, (fin x l m').2.1, (fin x l m').2.2, .inr (.inl ⟨rfl, rfl, rfl⟩)⟩
          · exact ⟨_, x, _, _, rfl, (fin x l m').1, (fin x l m').2.1, (fin x l m').2.2, .inr (.inr ⟨rfl, rfl, rfl⟩)⟩
      · have := mob q hq
        exact ⟨this.1, this.2.1, this.2.2.1, this.2.2.2.1⟩
      · show decide (way = 1) = (decide (z = "visit") && (decide (day % 7 ∈ home) && mo.isNone))
        by_cases c0' : way = 0
        · rw [ez, decide_eq_false (show ¬ way > 0 by omega), if_neg (by decide), decide_eq_false (show ¬ ("card" : Str) = "visit" by decide +kernel), decide_eq_false (show ¬ way = 1 by omega)]
          rfl
        · have evz : z = "visit" := by rw [ez, decide_eq_true (show way > 0 by omega), if_pos rfl]
          rw [evz, decide_eq_true (rfl : ("visit" : Str) = "visit"), Bool.true_and]
          by_cases c2 : way = 2
          · rw [decide_eq_false (show ¬ way = 1 by omega), decide_eq_false (show ¬ day % 7 ∈ home from fun h => dinh.mp h c2)]
            rfl
          · rw [decide_eq_true (dinh.mpr c2), Bool.true_and]
            by_cases c3 : way > 2
            · rw [decide_eq_false (show ¬ way = 1 by omega)]
              cases em' : mo with
              | none => exact absurd c3 (hmo.mp em')
              | some q => rfl
            · rw [hmo.mpr c3, decide_eq_true (show way = 1 by omega)]
              rfl
    have L : B.Ls vs cs os := by
      have e1 : ∀ {x y : Int}, goK "visit" x z1 z0 ≠ goK "card" y z1 z0 := fun e => absurd (go_day e).2 (by decide +kernel)
      have e2 : ∀ {w w' : Str} {x y : Int}, goK w x z1 z0 ≠ goK w' y z2 z0 := fun e => hbc (congrArg (fun k => (pgK k).a) e)
      have e3 : ∀ {w w' : Str} {x y : Int}, goK w x z1 z0 ≠ goK w' y z1 z2 := fun {w w' x y} e => by
        have : some z0 = some z2 := congrArg (fun k => (pgK k).b) e
        injection this with this
        exact hac this
      refine ⟨egs, fun k hk => ?_, fun k hk => ?_, fun k hk => ?_, ?_⟩
      · obtain ⟨x, e, _⟩ := G4.fv k hk; rw [ea, eb]; exact ⟨x, e⟩
      · obtain ⟨x, e, _⟩ := G4.fc k hk; rw [ea, eb]; exact ⟨x, e⟩
      · rw [ea, eb, ec]
        exact (G4.fo k hk).imp (fun ⟨x, e, _⟩ => ⟨x, e⟩) fun ⟨x, e, _⟩ => ⟨x, e⟩
      · rw [egs]
        refine List.nodup_append.mpr ⟨List.nodup_append.mpr ⟨G4.dv, G4.dc, fun x hx y hy e => ?_⟩, G4.dO, fun x hx y hy e => ?_⟩
        · obtain ⟨i, rfl, _⟩ := G4.fv x hx
          obtain ⟨j, rfl, _⟩ := G4.fc y hy
          exact e1 e
        · rcases List.mem_append.mp hx with hx | hx
          · obtain ⟨i, rfl, _⟩ := G4.fv x hx
            rcases G4.fo y hy with ⟨j, rfl, _⟩ | ⟨j, rfl, _⟩
            · exact e2 e
            · exact e3 e
          · obtain ⟨i, rfl, _⟩ := G4.fc x hx
            rcases G4.fo y hy with ⟨j, rfl, _⟩ | ⟨j, rfl, _⟩
            · exact e2 e
            · exact e3 e
    have nkb4 : Nk H3 (.ref bp) B.back := by rw [eB]; exact .tup hbp4 (.cons (.str _) (.cons (.int _) (.cons (.str _) (.cons (.str _) .nil))))
    have ehs : [houseK bg z0 weekL, houseK bg z1 home, houseK bg z2 weekL] ++ moL mo = B.hs := by
      unfold B20.hs B20.hm
      rw [emo, ebg, ea, eb, ec, if_neg hab, if_pos rfl, if_neg hbc.symm]
      rw [eB]
    rw [ehs] at nk4
    have pgP : ∀ k, B.Pag k → PgK k := fun k h => by
      cases h with
      | @ho n hn =>
        refine ⟨"house", B.bg, _, rfl, .house ?_ ?_, by omega, by omega⟩
        · rw [ea, eb, ec] at hn
          simp only [List.mem_cons, List.not_mem_nil, or_false] at hn
          rcases hn with rfl | rfl | rfl <;> assumption
        · unfold B20.hm
          split
          · rw [eB]; exact hw
          · exact ⟨by decide, by decide⟩
      | go hk =>
        obtain ⟨z', d, x, y, rfl, h1, h2, _, hz'⟩ := ok.gs _ hk
        rw [ea, eb, ec] at hz'
        refine ⟨z', d, _, rfl, ?_, by omega, by omega⟩
        rcases hz' with ⟨rfl, rfl, rfl | rfl⟩ | ⟨rfl, rfl, rfl⟩ | ⟨rfl, rfl, rfl⟩
        · exact .visit plb pla
        · exact .card plb pla
        · exact .visit plc pla
        · exact .card plb plc
      | @mo q hq =>
        rw [emo] at hq
        have := mob q hq
        refine ⟨"mourn", q.1, _, rfl, .mourn ?_ (by omega) (by omega), by omega, by omega⟩
        rcases this.2.2.2.1 with h | h <;> (rw [h]; assumption)
      | back =>
        refine ⟨B.z, B.day, _, rfl, ?_, by omega, by omega⟩
        rcases ok.z with h | h
        · rw [h, ea, eb]; exact .visit pla plb
        · rw [h, ea, eb]; exact .card pla plb
    obtain ⟨xv, hxv, nxv⟩ := G4.hv
    obtain ⟨xc, hxc, nxc⟩ := G4.hc
    obtain ⟨xo, hxo, nxo⟩ := G4.ho
    have lxv : xv.length + xc.length ≤ 8 := by rw [nxv.length, nxc.length]; exact lvc
    have lxo : xo.length ≤ 16 := by rw [nxo.length]; exact lo
    have slL : ∀ n : Nat, n ≤ 1000 → n ≤ sizeLine := fun n h => sz h
    refine ⟨_, rfl, _, rfl, md, .ref lv, rfl, .inl ⟨_, .inr "visit", .inl G4.hmd, rfl, rfl⟩, pl, lv, xs, xv, rfl, rfl, pl4, hxv, slL _ (by omega), fun p1 np1 => ?_⟩
    have s5 := same_upd (o := .lst (xs ++ xv)) np1
    have hp1 := upd_same (H := H3) (a := p1) (o := .lst (xs ++ xv))
    generalize upd H3 p1 (.lst (xs ++ xv)) = H5 at s5 hp1 ⊢
    refine ⟨_, rfl, md, .ref lc, rfl, .inl ⟨_, .inr "card", .inl (s5 _ _ G4.hmd), rfl, rfl⟩, p1, lc, _, xc, rfl, rfl, hp1, s5 _ _ hxc, slL _ (by rw [List.length_append]; omega), fun p2 np2 => ?_⟩
    have s6 := s5.trans (same_upd (o := .lst (xs ++ xv ++ xc)) np2)
    have hp2 := upd_same (H := H5) (a := p2) (o := .lst (xs ++ xv ++ xc))
    generalize upd H5 p2 (.lst (xs ++ xv ++ xc)) = H6 at s6 hp2 ⊢
    refine ⟨_, rfl, p2, po, _, xo, rfl, rfl, hp2, s6 _ _ hxo, slL _ (by rw [List.length_append, List.length_append]; omega), fun p3 np3 => ?_⟩
    have s7 := s6.trans (same_upd (o := .lst (xs ++ xv ++ xc ++ xo)) np3)
    have hp3 := upd_same (H := H6) (a := p3) (o := .lst (xs ++ xv ++ xc ++ xo))
    generalize upd H6 p3 (.lst (xs ++ xv ++ xc ++ xo)) = H7 at s7 hp3 ⊢
    refine ⟨_, rfl, sz (by show 1 ≤ 1000; decide), fun p4' np4 => ?_⟩
    have s8 := s7.trans (same_upd (o := .lst [.ref bp]) np4)
    have hp4 := upd_same (H := H7) (a := p4') (o := .lst [.ref bp])
    have hp38 := same_upd (o := .lst [.ref bp]) np4 _ _ hp3
    generalize upd H7 p4' (.lst [.ref bp]) = H8 at s8 hp4 hp38 ⊢
    refine ⟨p3, p4', _, _, rfl, rfl, hp38, hp4, slL _ (by rw [List.length_append, List.length_append, List.length_append]; show xs.length + xv.length + xc.length + xo.length + 1 ≤ 1000; omega), fun p5' np5 => ?_⟩
    have s9 := s8.trans (same_upd (o := .lst (xs ++ xv ++ xc ++ xo ++ [.ref bp])) np5)
    have hp5 := upd_same (H := H8) (a := p5') (o := .lst (xs ++ xv ++ xc ++ xo ++ [.ref bp]))
    have nk9 : NkAll (upd H8 p5' (.lst (xs ++ xv ++ xc ++ xo ++ [.ref bp]))) (xs ++ xv ++ xc ++ xo ++ [.ref bp]) (B.hs ++ vs ++ cs ++ os ++ [B.back]) :=
      ((((nk4.at (.same s9)).app (nxv.at (.same s9))).app (nxc.at (.same s9))).app (nxo.at (.same s9))).app (.cons (nkb4.at (.same s9)) .nil)
    have lys : (xs ++ xv ++ xc ++ xo ++ [V.ref bp]).length ≤ 29 := by rw [List.length_append, List.length_append, List.length_append, List.length_append]; show xs.length + xv.length + xc.length + xo.length + 1 ≤ 29; omega
    generalize xs ++ xv ++ xc ++ xo ++ [V.ref bp] = ys at s9 hp5 nk9 lys ⊢
    generalize upd H8 p5' (.lst ys) = H9 at s9 hp5 nk9 ⊢
    have ndA := all_nd ok L
    have pgk : ∀ k ∈ B.hs ++ vs ++ cs ++ os ++ [B.back], PgK k := fun k hk => pgP k ((pag_iff egs).mp hk)
    refine ⟨p5', ys, _, rfl, rfl, .inl (.inl hp5), nk9, pgk, ?_, ?_, ?_, by omega, fun H10 p7 sm np7 np7' => ?_⟩
    · intro k hk
      obtain ⟨z, d, r, rfl, _⟩ := pgk k hk
      exact ⟨_, _, rfl⟩
    · exact fun k hk k' hk' => rank_lt (pgk k hk) (pgk k' hk')
    · exact fun k hk => rank_depth (pgk k hk)
    obtain ⟨ks, nk10, od, me⟩ := sortL_ok (nk9.at (.same sm)) pgk ndA
    have lbs : (((ys.zip (B.hs ++ vs ++ cs ++ os ++ [B.back])).mergeSort (leF rank)).map Prod.fst).length ≤ 29 := by rw [List.length_map, List.length_mergeSort, List.length_zip]; omega
    generalize ((ys.zip (B.hs ++ vs ++ cs ++ os ++ [B.back])).mergeSort (leF rank)).map Prod.fst = bs at nk10 lbs ⊢
    refine ⟨p7, _, rfl, .inl ⟨.inl (.inl upd_same), fun bok nbk => ?_⟩⟩
    have s11 := (same_upd (o := .lst bs) np7).trans (same_upd (o := .tup bs) nbk)
    have sA := s9.trans (sm.trans s11)
    have hbok := upd_same (H := upd H10 p7 (.lst bs)) (a := bok) (o := .tup bs)
    have nkb := nk10.at (.same s11)
    change gName 16 _ _ (upd (upd H10 p7 (.lst bs)) bok (.tup bs)) _
    generalize upd (upd H10 p7 (.lst bs)) bok (.tup bs) = H11 at sA hbok nkb ⊢
    have hT11 := hT4.same sA
    have G11 := G4.same sA
    have TB11 : Tbs (tbs T) H11 := tb_kp hB (K4.trans fun x o _ e => sA _ _ e) nt
    have nkbp := nkb4.at (.same sA)
    have pgi : ∀ k, k ∈ ks ↔ B.Pag k := fun k => (me k).trans (pag_iff egs)
    have pgs : ∀ k ∈ ks, PgK k := fun k hk => pgk k ((me k).mp hk)
    clear s11 sA np7 np7' nbk nk10 me sm hp5 nk9 s9 hp4 hp38 s8 hp3 s7 hp2 s6 hp1 s5 nkb4 pl4 nk4 hT4 G4 K4 hbp4 ehs ndA np1 np2 np3 np4 np5 hxv hxc hxo nxv nxc nxo
    refine name_as (σ' := [some (.ref a), some (.ref t), some (.int way), some (.int first), some (.int (1 + v1)), some (.str z0), some (.str z1), some (.str z2), some (.int bg), some (.ref pw), some (.ref ph), some (.ref pl), some (.ref md), some (.ref po), some (.int day), some (.ref bp), some (.ref bok), none, none, none, none, none, none, none, none, none, none]) rfl ?_
    obtain ⟨t1, et1⟩ : ∃ t1 : Int → Int, t1 = fun x => 1 + x := ⟨_, rfl⟩
    refine ⟨_, rfl, t, 30, 100, c0, rfl, by decide, by decide, hT11, by decide, fun x1 H12 u6 u7 hT12 hK12 => ⟨_, _, rfl, rfl, _, rfl, t, 30, 101, c0, rfl, by decide, by decide, hT12, by decide, fun x2 H13 u8 u9 hT13 hK13 => ⟨_, _, rfl, rfl, sz (by show 2 ≤ 1000; decide), fun lim nlim => ?_⟩⟩⟩
    clear et1
    obtain ⟨t1, et1⟩ : ∃ t1, t1 = 1 + x1 := ⟨_, rfl⟩
    obtain ⟨t2, et2⟩ : ∃ t2, t2 = 1 + x2 := ⟨_, rfl⟩
    change gName 17 _ _ (upd H13 lim (.tup [.int (1 + x1), .int (1 + x2)])) _
    rw [← et1, ← et2]
    have KA : Kp t H11 (upd H13 lim (.tup [.int t1, .int t2])) := (hK12.trans hK13).trans fun x o _ e => same_upd nlim _ _ e
    have hlim := upd_same (H := H13) (a := lim) (o := .tup [.int t1, .int t2])
    generalize upd H13 lim (.tup [.int t1, .int t2]) = H14 at KA hlim ⊢
    have tpA := hT11.tups KA
    have hbok14 := tpA _ _ hbok
    have nkb14 := nkb.at tpA
    have TB14 := tb_kp' TB11 hT11 KA
    have G14 := G11.draw hT11 KA
    have nkbp14 := nkbp.at tpA
    clear hK12 hK13 hT12 hT13 nlim KA tpA hbok nkb TB11 G11 nkbp hT11
    refine name_as (σ' := [some (.ref a), some (.ref t), some (.int way), some (.int first), some (.int (1 + v1)), some (.str z0), some (.str z1), some (.str z2), some (.int bg), some (.ref pw), some (.ref ph), some (.ref pl), some (.ref md), some (.ref po), some (.int day), some (.ref bp), some (.ref bok), some (.ref lim), none, none, none, none, none, none, none, none, none]) rfl ?_
    obtain ⟨xv, hxv, nxv⟩ := G14.hv
    obtain ⟨xc, hxc, nxc⟩ := G14.hc
    obtain ⟨xo, hxo, nxo⟩ := G14.ho
    have lxv : xv.length + xc.length ≤ 8 := by rw [nxv.length, nxc.length]; exact lvc
    have lxo : xo.length ≤ 16 := by rw [nxo.length]; exact lo
    have AW14 : AskW (tbs T) H14 bok lim t1 t2 day bg bs ks :=
      { hbk := hbok14, pg := ⟨nkb14, pgs⟩, lx := by omega, hl := hlim, t10 := by omega, t11 := by omega, t20 := by omega, t21 := by omega, tb := TB14, d0 := by omega, d1 := by omega
        npj := ⟨[], fun k hk e => by
          cases (pgi k).mp hk with
          | ho _ => rw [z_house] at e; exact absurd e (by decide +kernel)
          | go h =>
            obtain ⟨z', d, x, y, rfl, _, _, _, hz'⟩ := ok.gs _ h
            have e : z' = "part" := e
            rcases hz' with ⟨_, _, h | h⟩ | ⟨_, _, h⟩ | ⟨_, _, h⟩ <;> (rw [h] at e; exact absurd e (by decide +kernel))
          | mo _ => rw [z_mourn] at e; exact absurd e (by decide +kernel)
          | back =>
            have e : B.z = "part" := e
            rcases ok.z with h | h <;> (rw [h] at e; exact absurd e (by decide +kernel)), by rw [← nkb14.length]; show bs.length * 1 ≤ 1000; omega⟩
        hlo := by
          refine .inr ⟨⟨houseK B.bg B.a (B.hm B.a), List.mem_filter.mpr ⟨(pgi _).mpr (.ho (.head _)), decide_eq_true (by show B.bg ≤ day; omega)⟩, ebg⟩, fun k hk => ?_⟩
          have := ok.lt
          cases (pgi k).mp (List.mem_filter.mp hk).1 with
          | ho _ => show bg ≤ B.bg; omega
          | go h =>
            obtain ⟨z', d, x, y, rfl, h1, _⟩ := ok.gs _ h
            show bg ≤ d; omega
          | @mo q e => have := (ok.mo q e).1; show bg ≤ q.1; omega
          | back => show bg ≤ B.day; omega }
    have FIN : B.Fin (((ks.filter isG).filter fun k => decide (k ≠ B.back)).map dueS) (stW t1 t2 ks day bg) := by
      have := st20 (t1 := t1) (t2 := t2) ok od pgi pgs
      rwa [eday, ebg] at this
    refine ⟨_, rfl, md, .ref lc, rfl, .inl ⟨_, .inr "card", .inl G14.hmd, rfl, rfl⟩, _, rfl, md, .ref lv, rfl, .inl ⟨_, .inr "visit", .inl G14.hmd, rfl, rfl⟩, lv, rfl, ⟨_, .inl (.inl hxv)⟩, fun D nD => ?_⟩
    refine lc_list (xs := xv) (fun j Hy => ∃ a2, Same H14 Hy ∧ Hy D = some (.lst a2) ∧ NkAll Hy a2 (if B.met then vs.take j else []) ∧ a2.length ≤ j) ⟨[], same_upd nD, upd_same, by split <;> exact .nil, Nat.le_refl _⟩ (fun j Hy _ ⟨_, m, _⟩ => .inl (.inl (m _ _ hxv))) ?_ ?_
    · rintro j x Hy hj ⟨a2, m, hDy, nka, la⟩
      obtain ⟨k, hk, nx⟩ := nxv.get hj
      have lj : j < xv.length := (List.getElem?_eq_some_iff.mp hj).1
      have nx := nx.at (.same m)
      refine ⟨rfl, _, rfl, rfl, _, rfl, ite2 (fun e => ?_) (fun e => ?_)⟩
      · have e : way = 1 := by have := of_decide_eq_true e; injection this
        have tp : Tups Hy (upd Hy D (.lst (a2 ++ [x]))) := fun c xs e => by rw [upd_ne (fun z => by rw [z, hDy] at e; cases e)]; exact e
        rw [emet, decide_eq_true e, if_pos rfl] at nka
        refine ⟨_, rfl, a2, hDy, small1000 (by omega), _, same_fresh nD m, upd_same, ?_, by rw [List.length_append]; exact Nat.succ_le_succ la⟩
        rw [emet, decide_eq_true e, if_pos rfl, List.take_add_one, hk]
        exact (nka.at tp).app (.cons (nx.at tp) .nil)
      · have e : way ≠ 1 := fun z => e (by rw [z]; exact decide_eq_true rfl)
        rw [emet, decide_eq_false e, if_neg (by decide)] at nka
        exact ⟨a2, m, hDy, by rw [emet, decide_eq_false e, if_neg (by decide)]; exact nka, by omega⟩
    rintro H15 ⟨a2, s15, hD15, nk15, la2⟩
    have nk15 : NkAll H15 a2 (if B.met then vs else []) := by
      rw [nxv.length, List.take_length] at nk15
      exact nk15
    refine ⟨lc, D, xc, a2, rfl, rfl, s15 _ _ hxc, hD15, slL _ (by omega), fun p6' np6 => ?_⟩
    have s16 := s15.trans (same_upd (o := .lst (xc ++ a2)) np6)
    have hp6 := upd_same (H := H15) (a := p6') (o := .lst (xc ++ a2))
    have nk16 : NkAll (upd H15 p6' (.lst (xc ++ a2))) (xc ++ a2) (B.some vs cs) := (nxc.at (.same s16)).app (nk15.at (.same (same_upd (o := .lst (xc ++ a2)) np6)))
    have l16 : (xc ++ a2).length ≤ 8 := by rw [List.length_append]; omega
    generalize xc ++ a2 = y6 at s16 hp6 nk16 l16 ⊢
    generalize upd H15 p6' (.lst y6) = H16 at s16 hp6 nk16 ⊢
    have pgS : ∀ k ∈ B.some vs cs, PgK k := fun k hk => pgP k (some_pg L k hk)
    refine ⟨p6', y6, _, rfl, rfl, .inl (.inl hp6), nk16, pgS, ?_, ?_, ?_, by omega, fun H17 ps sm nps nps' => ?_⟩
    · intro k hk
      obtain ⟨z, d, r, rfl, _⟩ := pgS k hk
      exact ⟨_, _, rfl⟩
    · exact fun k hk k' hk' => rank_lt (pgS k hk) (pgS k' hk')
    · exact fun k hk => rank_depth (pgS k hk)
    obtain ⟨ks2, nk17, od2, me2⟩ := sortL_ok (nk16.at (.same sm)) pgS (some_nd L)
    have lsa : (((y6.zip (B.some vs cs)).mergeSort (leF rank)).map Prod.fst).length ≤ 8 := by rw [List.length_map, List.length_mergeSort, List.length_zip]; omega
    generalize ((y6.zip (B.some vs cs)).mergeSort (leF rank)).map Prod.fst = ss at nk17 lsa ⊢
    have eks2 : ks2 = B.sa ks := ord_unique od2 (sa_ord od) fun k => (me2 k).trans (sa_mem ok L od pgi k).symm
    rw [eks2] at nk17
    have sB := s16.trans (sm.trans (same_upd (o := .lst ss) nps))
    have hps := upd_same (H := H17) (a := ps) (o := .lst ss)
    have nks := nk17.at (.same (same_upd (o := .lst ss) nps))
    change gName 19 _ _ (upd H17 ps (.lst ss)) _
    generalize upd H17 ps (.lst ss) = H18 at sB hps nks ⊢
    have lsk : (B.sa ks).length ≤ 8 := by rw [← nks.length]; exact lsa
    have sse : ss = [] ↔ B.some vs cs = [] := by
      constructor
      · intro h
        have l0 : (B.sa ks).length = 0 := by rw [← nks.length, h]; rfl
        have e0 : B.sa ks = [] := List.length_eq_zero_iff.mp l0
        cases hs : B.some vs cs with
        | nil => rfl
        | cons k r =>
          have := (sa_mem ok L od pgi k).mpr (by rw [hs]; exact .head _)
          rw [e0] at this
          cases this
      · intro h
        have e0 : B.sa ks = [] := by
          cases hs : B.sa ks with
          | nil => rfl
          | cons k r =>
            have := (sa_mem ok L od pgi k).mp (by rw [hs]; exact .head _)
            rw [h] at this
            cases this
        have := nks.length
        rw [e0] at this
        exact List.length_eq_zero_iff.mp this
    have AW18 := AW14.gk (.of_same sB TB14)
    have G18 := G14.same sB
    have nkbp18 := nkbp14.at (.same sB)
    clear sB nps nps' nk17 me2 od2 eks2 sm hp6 nk16 s16 np6 nk15 hD15 s15 nD la2 l16 hxv nxv hxc nxc hxo nxo AW14 G14 nkbp14 TB14 nkb14 hbok14 hlim
    refine name_as (σ' := [some (.ref a), some (.ref t), some (.int way), some (.int first), some (.int (1 + v1)), some (.str z0), some (.str z1), some (.str z2), some (.int bg), some (.ref pw), some (.ref ph), some (.ref pl), some (.ref md), some (.ref po), some (.int day), some (.ref bp), some (.ref bok), some (.ref lim), none, some (.ref ps), none, none, none, none, none, none, none]) rfl ?_
    refine name_nx (seq_asg ?_)
    have nesT : ∀ {xs : List V}, (!xs.isEmpty) = true ↔ xs ≠ [] := fun {xs} => by cases xs <;> simp
    refine te_join (R := fun v H' => ∃ p, v = .ref p ∧ Same H18 H' ∧ Nk H' (.ref p) (B.mkD ks vs cs)) (fun Q' kQ => ?_) (fun v H19 rr => ?_)
    · refine ⟨_, rfl, sz (by show 0 ≤ 1000; decide), fun pe npe => ?_⟩
      have s19 := same_upd (o := .lst []) npe
      refine ⟨ps, pe, ss, rfl, rfl, .inl (.inl (s19 _ _ hps)), .inl (.inl upd_same), _, rfl, ite2 (fun e => ?_) (fun e => ?_)⟩
      · have e := nesT.mp e
        refine ⟨_, rfl, ps, ss, rfl, .inl (.inl (.inl (s19 _ _ hps))), sz (by show 2 ≤ 1000; decide), fun p np => ?_⟩
        refine kQ _ _ ⟨p, rfl, s19.trans (same_upd np), ?_⟩
        unfold B20.mkD
        rw [if_neg (fun z => e (sse.mpr z)), ← nks.length]
        exact .tup upd_same (.cons (.str _) (.cons (.int _) .nil))
      · have e : ss = [] := by
          cases hss : ss with
          | nil => rfl
          | cons x r => rw [hss] at e; exact absurd rfl e
        refine ⟨sz (by show 1 ≤ 1000; decide), fun p np => ?_⟩
        refine kQ _ _ ⟨p, rfl, s19.trans (same_upd np), ?_⟩
        unfold B20.mkD
        rw [if_pos (sse.mp e)]
        exact .tup upd_same (.cons (.str _) .nil)
    obtain ⟨pdu, rfl, s19, nkd⟩ := rr
    refine name_as (σ' := [some (.ref a), some (.ref t), some (.int way), some (.int first), some (.int (1 + v1)), some (.str z0), some (.str z1), some (.str z2), some (.int bg), some (.ref pw), some (.ref ph), some (.ref pl), some (.ref md), some (.ref po), some (.int day), some (.ref bp), some (.ref bok), some (.ref lim), none, some (.ref ps), some (.ref pdu), none, none, none, none, none, none]) rfl ?_
    have g19 : Gk (tbs T) H18 H19 := .of_same s19 AW18.tb
    have AW19 := AW18.gk g19
    have nes : ∀ z : Str, ¬ (!decide (V.str z = V.str z)) = true := fun z => by rw [decide_eq_true rfl]; decide
    have pbk : PgK B.back := pgP _ .back
    have mo3 := mk_ok3 (vs := vs) (cs := cs) (show (B.sa ks).length ≤ 100 by omega) pbk
    refine ⟨_, rfl, _, rfl, _, rfl, bok, lim, t1, t2, day, bg, bs, ks, rfl, AW19, fun rm ym H20 g20 frm hrm nkm lym => ?_⟩
    obtain ⟨M, eM⟩ := mk_last ok L od pgi FIN
    rw [eM] at nkm
    obtain ⟨ys1, xl, rfl, nxl⟩ : ∃ ys1 xl, ym = ys1 ++ [xl] ∧ Nk H20 xl (markS B.back (B.mkD ks vs cs)) := by
      have ll : ym.length = M.length + 1 := by rw [nkm.length, List.length_append]; rfl
      obtain ⟨ys1, xl, e⟩ : ∃ ys1 xl, ym = ys1 ++ [xl] := by
        rcases List.eq_nil_or_concat ym with e | ⟨M', x, e⟩
        · rw [e] at ll; simp at ll
        · exact ⟨M', x, by rw [e, List.concat_eq_append]⟩
      subst e
      have l1 : ys1.length = M.length := by rw [List.length_append] at ll; simpa using ll
      have at1 : (ys1 ++ [xl])[ys1.length]? = some xl := by rw [List.getElem?_append_right (Nat.le_refl _), Nat.sub_self]; rfl
      obtain ⟨k, hk, nx⟩ := nkm.get at1
      rw [l1, List.getElem?_append_right (Nat.le_refl _), Nat.sub_self] at hk
      cases hk
      exact ⟨ys1, xl, rfl, nx⟩
    obtain ⟨pm, v1', v2', rfl, hpm, nv1, nv2⟩ := mark_at nxl
    have g20' := g19.trans g20
    have ndM : Nk H20 (.ref pm) (.tup [B.back, B.mkD ks vs cs]) := .tup hpm (.cons nv1 (.cons nv2 .nil))
    have cstM : GU.cost (NestedKey.tup [B.back, B.mkD ks vs cs]).data ≤ sizeLine := Nat.le_trans mo3.cost (by decide)
    refine ⟨_, rfl, rm, _, _, .ref pm, rfl, rfl, .inl (.inl hrm), at_last _ _, .ref pm, _, rfl, ndM.dp, mo3.sh, Nat.le_trans mo3.deep (by decide), cstM, ?_⟩
    have nkbp20 := nkbp18.at (.gk g20')
    have nkd20 := nkd.at (.gk g20)
    refine ⟨_, rfl, _, rfl, sz (by show 2 ≤ 1000; decide), fun p20 np20 => ?_⟩
    have s21 := same_upd (o := .tup [.ref bp, .ref pdu]) np20
    have ndM2 : Nk (upd H20 p20 (.tup [.ref bp, .ref pdu])) (.ref p20) (.tup [B.back, B.mkD ks vs cs]) := .tup upd_same (.cons (nkbp20.at (.same s21)) (.cons (nkd20.at (.same s21)) .nil))
    refine ⟨.ref p20, _, rfl, ndM2.dp, mo3.sh, Nat.le_trans mo3.deep (by decide), cstM, ?_⟩
    generalize (NestedKey.tup [B.back, B.mkD ks vs cs]).data.shown = zz1
    refine ⟨rfl, _, rfl, ite2 (fun e => absurd e (nes zz1)) (fun _ => ?_)⟩
    have g21 : Gk (tbs T) H18 (upd H20 p20 (.tup [.ref bp, .ref pdu])) := g20'.trans (.of_same s21 g20'.2)
    generalize upd H20 p20 (.tup [.ref bp, .ref pdu]) = H21 at g21 ⊢
    clear ndM ndM2 s21 nkbp20 nkd20 np20 nv1 nv2 hpm nxl hrm nkm lym
    have hps21 := g21.1 _ _ hps (fun ps z => by cases z)
    have nks21 := nks.at (.gk g21)
    have nkbp21 := nkbp18.at (.gk g21)
    refine name_nx (seq_asg ?_)
    have pksa : ∀ k ∈ B.sa ks, PgK k := fun k hk => pgS k ((sa_mem ok L od pgi k).mp hk)
    refine te_join (R := fun v H' => ∃ p xs, v = .ref p ∧ Same H21 H' ∧ H' p = some (.lst xs) ∧ NkAll H' xs (B.anK ks vs cs)) (fun Q' kQ => ?_) (fun v H22 rr => ?_)
    · refine ⟨_, rfl, sz (by show 0 ≤ 1000; decide), fun pe npe => ?_⟩
      have s22 := same_upd (o := .lst []) npe
      refine ⟨ps, pe, ss, rfl, rfl, .inl (.inl (s22 _ _ hps21)), .inl (.inl upd_same), _, rfl, ite2 (fun e => ?_) (fun e => ?_)⟩
      · have e := nesT.mp e
        have hps22 := s22 _ _ hps21
        have nks22 := nks21.at (.same s22)
        have nkbp22 := nkbp21.at (.same s22)
        generalize upd H21 pe (.lst []) = H22 at s22 hps22 nks22 nkbp22 ⊢
        refine ⟨_, rfl, _, rfl, ps, rfl, ⟨_, .inl (.inl hps22)⟩, fun D nD => ?_⟩
        refine lc_list (xs := ss) (fun j Hy => ∃ a3, Same H22 Hy ∧ Hy D = some (.lst a3) ∧ NkAll Hy a3 (((B.sa ks).take j).map fun k => .tup [.text B.a, .text B.b, k]) ∧ a3.length ≤ j) ⟨[], same_upd nD, upd_same, .nil, Nat.le_refl _⟩ (fun j Hy _ ⟨_, m, _⟩ => .inl (.inl (m _ _ hps22))) ?_ ?_
        · rintro j x Hy hj ⟨a3, m, hDy, nka, la⟩
          obtain ⟨k, hk, nx⟩ := nks22.get hj
          have lj : j < ss.length := (List.getElem?_eq_some_iff.mp hj).1
          have nx := nx.at (.same m)
          refine ⟨rfl, tYesT ⟨_, rfl, _, rfl, _, rfl, sz (by show 3 ≤ 1000; decide), fun q nq => ?_⟩⟩
          have sq := same_upd (o := .tup [.str z0, .str z1, x]) nq
          have hq := upd_same (H := Hy) (a := q) (o := .tup [.str z0, .str z1, x])
          generalize upd Hy q (.tup [.str z0, .str z1, x]) = Hz at sq hq ⊢
          have tp : Tups Hz (upd Hz D (.lst (a3 ++ [V.ref q]))) := fun c xs e => by rw [upd_ne (fun z => by rw [z, sq _ _ hDy] at e; cases e)]; exact e
          refine ⟨a3, sq _ _ hDy, small1000 (by omega), _, same_fresh nD (m.trans sq), upd_same, ?_, by rw [List.length_append]; exact Nat.succ_le_succ la⟩
          rw [List.take_add_one, hk, List.map_append]
          refine (nka.at ((Tups.same sq).trans tp)).app (.cons ?_ .nil)
          rw [ea, eb]
          exact .tup (tp _ _ hq) (.cons (.str _) (.cons (.str _) (.cons ((nx.at (.same sq)).at tp) .nil)))
        rintro H23 ⟨a3, s23, hD23, nk23, la3⟩
        rw [nks22.length, List.take_length] at nk23
        refine ⟨D, a3, rfl, .inl ⟨.inl (.inl hD23), fun pt npt => ⟨sz (by show 2 ≤ 1000; decide), fun pu npu => ⟨sz (by show 1 ≤ 1000; decide), fun pv npv => ?_⟩⟩⟩⟩
        have s24 := (same_upd (o := .tup a3) npt).trans ((same_upd (o := .tup [.ref bp, .ref pt]) npu).trans (same_upd (o := .lst [.ref pu]) npv))
        have s25 := same_upd (o := .lst [.ref pu]) npv
        have s26 := (same_upd (o := .tup [.ref bp, .ref pt]) npu).trans s25
        refine kQ _ _ ⟨pv, _, rfl, s22.trans (s23.trans s24), upd_same, ?_⟩
        unfold B20.anK
        rw [if_neg (fun z => e (sse.mpr z))]
        exact .cons (.tup (s25 _ _ upd_same) (.cons ((nkbp22.at (.same s23)).at (.same s24)) (.cons (.tup (s26 _ _ upd_same) (nk23.at (.same s24))) .nil))) .nil
      · have e : ss = [] := by
          cases hss : ss with
          | nil => rfl
          | cons x r => rw [hss] at e; exact absurd rfl e
        refine ⟨sz (by show 0 ≤ 1000; decide), fun p np => ?_⟩
        refine kQ _ _ ⟨p, _, rfl, s22.trans (same_upd np), upd_same, ?_⟩
        unfold B20.anK
        rw [if_pos (sse.mp e)]
        exact .nil
    obtain ⟨ptd, xtd, rfl, s22, htd, nktd⟩ := rr
    have g22 : Gk (tbs T) H18 H22 := g21.trans (.of_same s22 g21.2)
    have AW22 := AW18.gk g22
    refine name_as (σ' := [some (.ref a), some (.ref t), some (.int way), some (.int first), some (.int (1 + v1)), some (.str z0), some (.str z1), some (.str z2), some (.int bg), some (.ref pw), some (.ref ph), some (.ref pl), some (.ref md), some (.ref po), some (.int day), some (.ref bp), some (.ref bok), some (.ref lim), none, some (.ref ps), some (.ref pdu), some (.ref ptd), none, none, none, none, none]) rfl ?_
    have ao3 := an_ok3 (vs := vs) (cs := cs) (show (B.sa ks).length ≤ 10 by omega) pbk (by rw [ea]; exact pla) (by rw [eb]; exact plb) pksa
    have cstA : GU.cost (PyData.list (NestedKey.datas (B.anK ks vs cs))) ≤ sizeLine := Nat.le_trans ao3.cost (by decide)
    refine ⟨_, rfl, _, rfl, _, rfl, bok, lim, t1, t2, day, bg, bs, ks, rfl, AW22, fun ra ya H23 g23 fra hra nka lya => ?_⟩
    rw [an_told ok L od pgi pgs FIN] at nka
    change NkAll H23 ya (B.anK ks vs cs) at nka
    refine ⟨.ref ra, _, rfl, .lst (.inl (.inl hra)) nka.dp, ao3.sh, Nat.le_trans ao3.deep (by decide), cstA, ?_⟩
    have htd23 := g23.1 _ _ htd (fun ps z => by cases z)
    refine ⟨_, rfl, .ref ptd, _, rfl, .lst (.inl (.inl htd23)) (nktd.at (.gk g23)).dp, ao3.sh, Nat.le_trans ao3.deep (by decide), cstA, ?_⟩
    generalize (PyData.list (NestedKey.datas (B.anK ks vs cs))).shown = zz2
    refine ⟨rfl, _, rfl, ite2 (fun e => absurd e (nes zz2)) (fun _ => ?_)⟩
    have g23' := g22.trans g23
    clear nka hra htd23 htd nktd s22 AW22 hps21 nks21 nkbp21
    have hps23 := g23'.1 _ _ hps (fun ps z => by cases z)
    have nkbp23 := nkbp18.at (.gk g23')
    have G23 := G18.gk g23'
    obtain ⟨xv, hxv, nxv⟩ := G23.hv
    obtain ⟨xo, hxo, nxo⟩ := G23.ho
    have lxv2 : xv.length ≤ 8 := by rw [nxv.length]; omega
    have lxo2 : xo.length ≤ 16 := by rw [nxo.length]; exact lo
    have hmd23 := G23.hmd
    have fVS : ∀ k ∈ vs, ∃ x, k = goK "visit" x z1 z0 := fun k hk => by obtain ⟨x, e, _⟩ := G23.fv k hk; exact ⟨x, e⟩
    have pkV : ∀ k ∈ B.gs, PgK k := fun k hk => pgP k (.go hk)
    refine ⟨_, rfl, md, .ref lv, rfl, .inl ⟨_, .inr "visit", .inl hmd23, rfl, rfl⟩, lv, rfl, ⟨_, .inl (.inl hxv)⟩, fun R nR => ?_⟩
    refine lc_list (xs := xv) (fun j Hy => ∃ a2, Same H23 Hy ∧ Hy R = some (.lst a2) ∧ NkAll Hy a2 ((if B.met then [] else (vs.take j).map dueS).map rk) ∧ a2.length ≤ j) ⟨[], same_upd nR, upd_same, by split <;> exact .nil, Nat.le_refl _⟩ (fun j Hy _ ⟨_, m, _⟩ => .inl (.inl (m _ _ hxv))) ?_ ?_
    · rintro j x Hy hj ⟨a2, m, hDy, nka, la⟩
      obtain ⟨k, hk, nx⟩ := nxv.get hj
      have lj : j < xv.length := (List.getElem?_eq_some_iff.mp hj).1
      have nx := nx.at (.same m)
      have kv := List.mem_of_getElem? hk
      have kg : k ∈ B.gs := by rw [egs]; exact List.mem_append_left _ (List.mem_append_left _ kv)
      refine ⟨rfl, _, rfl, rfl, _, rfl, ite2 (fun e => ?_) (fun e => ?_)⟩
      · have e : way ≠ 1 := fun z => by rw [z, decide_eq_true rfl] at e; cases e
        rw [emet, decide_eq_false e, if_neg (by decide)] at nka
        refine ⟨_, rfl, _, rfl, _, rfl, x, k, rfl, nx, pkV k kg, fun v H1 s1 n1 => ⟨_, rfl, sz (by show 5 ≤ 1000; decide), fun q nq => ?_⟩⟩
        have sq := s1.trans (same_upd (o := .tup [.str z0, .str z1, v, .str "visit", x]) nq)
        have hq := upd_same (H := H1) (a := q) (o := .tup [.str z0, .str z1, v, .str "visit", x])
        have n2 := n1.at (.same (same_upd (o := .tup [.str z0, .str z1, v, .str "visit", x]) nq))
        generalize upd H1 q (.tup [.str z0, .str z1, v, .str "visit", x]) = Hz at sq hq n2 ⊢
        have tp : Tups Hz (upd Hz R (.lst (a2 ++ [V.ref q]))) := fun c xs e => by rw [upd_ne (fun z => by rw [z, sq _ _ hDy] at e; cases e)]; exact e
        refine ⟨a2, sq _ _ hDy, small1000 (by omega), _, same_fresh nR (m.trans sq), upd_same, ?_, by rw [List.length_append]; exact Nat.succ_le_succ la⟩
        rw [emet, decide_eq_false e, if_neg (by decide), List.take_add_one, hk, List.map_append, List.map_append]
        refine (nka.at ((Tups.same sq).trans tp)).app (.cons ?_ .nil)
        obtain ⟨dx, rfl⟩ := fVS k kv
        show Nk _ _ (.tup [.text z0, .text z1, rank (goK "visit" dx z1 z0), .text (sortS (decide (("visit" : Str) = "visit"))), goK "visit" dx z1 z0])
        rw [decide_eq_true rfl]
        exact .tup (tp _ _ hq) (.cons (.str _) (.cons (.str _) (.cons (n2.at tp) (.cons (.str _) (.cons ((nx.at (.same sq)).at tp) .nil)))))
      · have e : way = 1 := by
          refine Decidable.byContradiction fun z => e ?_
          rw [decide_eq_false (fun q => z (by injection q))]
          rfl
        rw [emet, decide_eq_true e, if_pos rfl] at nka
        exact ⟨a2, m, hDy, by rw [emet, decide_eq_true e, if_pos rfl]; exact nka, by omega⟩
    rintro H24 ⟨a2, s24, hR24, nk24, la2⟩
    rw [nxv.length, List.take_length] at nk24
    refine name_as (σ' := [some (.ref a), some (.ref t), some (.int way), some (.int first), some (.int (1 + v1)), some (.str z0), some (.str z1), some (.str z2), some (.int bg), some (.ref pw), some (.ref ph), some (.ref pl), some (.ref md), some (.ref po), some (.int day), some (.ref bp), some (.ref bok), some (.ref lim), none, some (.ref ps), some (.ref pdu), some (.ref ptd), some (.ref R), none, none, none, none]) rfl ?_
    have RN : H23 R = none := nR
    have hxo24 := s24 _ _ hxo
    have nxo24 := nxo.at (.same s24)
    have Rpo : R ≠ po := fun z => by rw [z, hxo] at RN; cases RN
    refine ⟨_, rfl, po, rfl, ⟨_, .inl (.inl hxo24)⟩, ?_⟩
    refine for_list (xs := xo) (fun i σ Hx => ∃ (y18 y23 : Option V) (acc : List V), σ = [some (.ref a), some (.ref t), some (.int way), some (.int first), some (.int (1 + v1)), some (.str z0), some (.str z1), some (.str z2), some (.int bg), some (.ref pw), some (.ref ph), some (.ref pl), some (.ref md), some (.ref po), some (.int day), some (.ref bp), some (.ref bok), some (.ref lim), y18, some (.ref ps), some (.ref pdu), some (.ref ptd), some (.ref R), y23, none, none, none] ∧ Kp R H24 Hx ∧ Hx R = some (.lst acc) ∧ NkAll Hx acc (((if B.met then [] else vs.map dueS) ++ (os.take i).map dueS).map rk) ∧ acc.length ≤ 8 + i) ⟨none, none, a2, rfl, (fun _ _ _ e => e), hR24, by rw [List.take_zero, List.map_nil, List.append_nil]; exact nk24, by omega⟩ (fun i σ Hx _ ⟨_, _, _, _, k, _⟩ => .inl (.inl (k _ _ Rpo.symm hxo24))) ?_ ?_
    · rintro i x σ Hx hi ⟨y18, y23, acc, rfl, kx, hRx, nka, la⟩
      obtain ⟨k, hk, nx⟩ := nxo24.get hi
      have li : i < xo.length := (List.getElem?_eq_some_iff.mp hi).1
      have tx : Tups H24 Hx := fun c xs e => kx _ _ (fun z => by rw [z, hR24] at e; cases e) e
      have nx := nx.at tx
      have ko := List.mem_of_getElem? hk
      have kg : k ∈ B.gs := by rw [egs]; exact List.mem_append_right _ ko
      have pkk := pkV k kg
      obtain ⟨zz, dx, x', y', rfl, hzz⟩ : ∃ zz dx x' y', k = goK zz dx x' y' ∧ ((zz = "visit" ∧ x' = z2 ∧ y' = z0) ∨ (zz = "card" ∧ x' = z1 ∧ y' = z2)) := by
        rcases G23.fo k ko with ⟨j, e, _⟩ | ⟨j, e, _⟩
        · exact ⟨_, _, _, _, e, .inl ⟨rfl, rfl, rfl⟩⟩
        · exact ⟨_, _, _, _, e, .inr ⟨rfl, rfl, rfl⟩⟩
      have esz : sortS (decide (zz = "visit")) = zz := by
        rcases hzz with ⟨h, _⟩ | ⟨h, _⟩
        · rw [h, decide_eq_true rfl]; rfl
        · rw [h, decide_eq_false (by decide +kernel)]; rfl
      obtain ⟨pa, rfl⟩ := nk_ref nx
      have hpa := goK_at nx
      refine name_as (σ' := [some (.ref a), some (.ref t), some (.int way), some (.int first), some (.int (1 + v1)), some (.str z0), some (.str z1), some (.str z2), some (.int bg), some (.ref pw), some (.ref ph), some (.ref pl), some (.ref md), some (.ref po), some (.int day), some (.ref bp), some (.ref bok), some (.ref lim), some (.ref pa), some (.ref ps), some (.ref pdu), some (.ref ptd), some (.ref R), y23, none, none, none]) rfl ?_
      refine seq_asg ?_
      refine te_join (R := fun v H' => ∃ pp, v = .ref pp ∧ Same Hx H' ∧ H' pp = some (.tup [.str y', .str x'])) (fun Q' kQ => ?_) (fun v H25 rr => ?_)
      · refine ⟨_, rfl, pa, _, 0, .str zz, rfl, rfl, .inl (.inl hpa), rfl, rfl, _, rfl, ?_⟩
        rcases hzz with ⟨h1, h2, h3⟩ | ⟨h1, h2, h3⟩
        · rw [h1]
          exact ite2 (fun _ => ⟨_, rfl, _, rfl, sz (by show 2 ≤ 1000; decide), fun p np => kQ _ _ ⟨p, rfl, same_upd np, by rw [h2, h3]; exact upd_same⟩⟩) (fun e => absurd (decide_eq_true rfl) e)
        · rw [h1]
          exact ite2 (fun e => absurd e (by decide +kernel)) (fun _ => ⟨_, rfl, _, rfl, sz (by show 2 ≤ 1000; decide), fun p np => kQ _ _ ⟨p, rfl, same_upd np, by rw [h2, h3]; exact upd_same⟩⟩)
      obtain ⟨pp, rfl, s25, hpp⟩ := rr
      refine name_as (σ' := [some (.ref a), some (.ref t), some (.int way), some (.int first), some (.int (1 + v1)), some (.str z0), some (.str z1), some (.str z2), some (.int bg), some (.ref pw), some (.ref ph), some (.ref pl), some (.ref md), some (.ref po), some (.int day), some (.ref bp), some (.ref bok), some (.ref lim), some (.ref pa), some (.ref ps), some (.ref pdu), some (.ref ptd), some (.ref R), some (.ref pp), none, none, none]) rfl ?_
      have hR25 := s25 _ _ hRx
      have nx25 := nx.at (.same s25)
      refine ⟨_, rfl, .inl ⟨rfl, _, .inl (.inl hR25)⟩, _, rfl, _, rfl, .ref pa, _, rfl, nx25, pkk, fun v H26 s26 n26 => ⟨_, rfl, pa, _, 0, .str zz, rfl, rfl, .inl (.inl (s26 _ _ (s25 _ _ hpa))), rfl, _, rfl, sz (by show 3 ≤ 1000; decide), fun q nq => ?_⟩⟩
      have s27 := s26.trans (same_upd (o := .tup [v, .str zz, .ref pa]) nq)
      have hq := upd_same (H := H26) (a := q) (o := .tup [v, .str zz, .ref pa])
      have n27 := n26.at (.same (same_upd (o := .tup [v, .str zz, .ref pa]) nq))
      generalize upd H26 q (.tup [v, .str zz, .ref pa]) = H27 at s27 hq n27 ⊢
      refine ⟨pp, q, _, _, rfl, rfl, .inl (.inl (s27 _ _ hpp)), .inl (.inl hq), by rw [sizeLine_eq]; show 2 + 3 ≤ _; decide, (fun z => by cases z), (fun _ z => by cases z), fun _ _ q4 nq4 => ?_⟩
      have s28 := s27.trans (same_upd (o := .tup ([.str y', .str x'] ++ [v, .str zz, .ref pa])) nq4)
      have hq4 := upd_same (H := H27) (a := q4) (o := .tup ([.str y', .str x'] ++ [v, .str zz, .ref pa]))
      have n28 := n27.at (.same (same_upd (o := .tup ([.str y', .str x'] ++ [v, .str zz, .ref pa])) nq4))
      generalize upd H27 q4 (.tup ([.str y', .str x'] ++ [v, .str zz, .ref pa])) = H28 at s28 hq4 n28 ⊢
      have hq4 : H28 q4 = some (.tup [.str y', .str x', v, .str zz, .ref pa]) := hq4
      have hR28 := s28 _ _ hR25
      refine ⟨R, acc, .ref q4, rfl, rfl, hR28, small1000 (by omega), ?_⟩
      have tp := tups_lst (ys := acc ++ [.ref q4]) hR28
      refine ⟨_, _, acc ++ [.ref q4], rfl, fun b o nb e => by rw [upd_ne nb]; exact s28 _ _ (s25 _ _ (kx _ _ nb e)), upd_same, ?_, by rw [List.length_append]; show acc.length + 1 ≤ _; omega⟩
      have e9 : ((if B.met then [] else vs.map dueS) ++ (os.take (i + 1)).map dueS).map rk = ((if B.met then [] else vs.map dueS) ++ (os.take i).map dueS).map rk ++ [rk (dueS (goK zz dx x' y'))] := by
        rw [List.take_add_one, hk]
        simp
      rw [e9]
      refine (nka.at (((Tups.same s25).trans (.same s28)).trans tp)).app (.cons ?_ .nil)
      show Nk _ _ (.tup [.text y', .text x', rank (goK zz dx x' y'), .text (sortS (decide (zz = "visit"))), goK zz dx x' y'])
      rw [esz]
      exact .tup (tp _ _ hq4) (.cons (.str _) (.cons (.str _) (.cons (n28.at tp) (.cons (.str _) (.cons ((nx25.at (.same s28)).at tp) .nil)))))
    rintro σ Hx ⟨y18, y23, acc, rfl, kx, hRx, nka, la⟩
    rw [nxo.length, List.take_length] at nka
    have sx : Same H23 Hx := fun b o e => kx _ _ (ne_of_none e RN) (s24 _ _ e)
    have gx := g23'.trans (.of_same sx g23'.2)
    have hpsx := sx _ _ hps23
    have nkbpx := nkbp23.at (.same sx)
    clear kx hxo24 nxo24 s24 hR24 nk24 hxv nxv hxo nxo G23 hmd23
    refine name_nx ?_
    refine seq_join (R := fun σ2 H3 => ∃ acc2, σ2 = [some (.ref a), some (.ref t), some (.int way), some (.int first), some (.int (1 + v1)), some (.str z0), some (.str z1), some (.str z2), some (.int bg), some (.ref pw), some (.ref ph), some (.ref pl), some (.ref md), some (.ref po), some (.int day), some (.ref bp), some (.ref bok), some (.ref lim), y18, some (.ref ps), some (.ref pdu), some (.ref ptd), some (.ref R), y23, none, none, none] ∧ Same H23 H3 ∧ H3 R = some (.lst acc2) ∧ NkAll H3 acc2 ((B.rws vs cs os).map rk) ∧ acc2.length ≤ 25) (fun D' kD => ?_) (fun σ2 H3 rr => ?_)
    · refine ⟨_, rfl, sz (by show 0 ≤ 1000; decide), fun pe npe => ?_⟩
      have s30 := same_upd (o := .lst []) npe
      have hps30 := s30 _ _ hpsx
      have hR30 := s30 _ _ hRx
      have nkbp30 := nkbpx.at (.same s30)
      have nka30 := nka.at (.same s30)
      refine ⟨ps, pe, ss, rfl, rfl, .inl (.inl hps30), .inl (.inl upd_same), _, rfl, ?_⟩
      generalize upd Hx pe (.lst []) = H30 at s30 hps30 hR30 nkbp30 nka30 ⊢
      refine ite2 (fun e => ?_) (fun e => ?_)
      · have e : ss = [] := by
          cases hss : ss with
          | nil => rfl
          | cons x r => rw [hss] at e; cases e
        have hbpx := goK_at nkbp30
        refine ⟨_, rfl, .inl ⟨rfl, _, .inl (.inl hR30)⟩, _, rfl, _, rfl, _, rfl, .ref bp, B.back, rfl, nkbp30, pbk, fun v H31 s31 n31 => ⟨sz (by show 2 ≤ 1000; decide), fun q5 nq5 => ?_⟩⟩
        have s32 := s31.trans (same_upd (o := .lst [.str "card", .str "visit"]) nq5)
        have hq5 := upd_same (H := H31) (a := q5) (o := .lst [.str "card", .str "visit"])
        have n32 := n31.at (.same (same_upd (o := .lst [.str "card", .str "visit"]) nq5))
        generalize upd H31 q5 (.lst [.str "card", .str "visit"]) = H32 at s32 hq5 n32 ⊢
        have esm : sortS B.met = if decide (V.int way = V.int 1) = true then ("visit" : Str) else ("card" : Str) := by
          rw [emet]
          by_cases c : way = 1
          · rw [c, decide_eq_true rfl, decide_eq_true rfl]; rfl
          · rw [decide_eq_false c, decide_eq_false (fun z => c (by injection z))]; rfl
        refine ⟨_, rfl, rfl, .inr ⟨_, rfl, q5, _, _, .str (sortS B.met), rfl, rfl, .inl (.inl hq5), by rw [esm]; exact at_ks _, _, rfl, sz (by show 5 ≤ 1000; decide), fun q6 nq6 => ?_⟩⟩
        have s33 := s32.trans (same_upd (o := .tup [.str z1, .str z0, v, .str (sortS B.met), .ref bp]) nq6)
        have hq6 := upd_same (H := H32) (a := q6) (o := .tup [.str z1, .str z0, v, .str (sortS B.met), .ref bp])
        have n33 := n32.at (.same (same_upd (o := .tup [.str z1, .str z0, v, .str (sortS B.met), .ref bp]) nq6))
        generalize upd H32 q6 (.tup [.str z1, .str z0, v, .str (sortS B.met), .ref bp]) = H33 at s33 hq6 n33 ⊢
        have hR33 := s33 _ _ hR30
        have tp := tups_lst (ys := acc ++ [.ref q6]) hR33
        refine ⟨R, acc, .ref q6, rfl, rfl, hR33, small1000 (by omega), ?_⟩
        refine kD _ _ ⟨acc ++ [.ref q6], rfl, fun b o e => by rw [upd_ne (ne_of_none e RN)]; exact s33 _ _ (s30 _ _ (sx _ _ e)), upd_same, ?_, by rw [List.length_append]; show acc.length + 1 ≤ 25; omega⟩
        unfold B20.rws
        rw [if_pos (sse.mp e), List.map_append]
        refine (nka30.at ((Tups.same s33).trans tp)).app (.cons ?_ .nil)
        show Nk _ _ (.tup [.text B.b, .text B.a, rank B.back, .text (sortS B.met), B.back])
        rw [ea, eb]
        exact .tup (tp _ _ hq6) (.cons (.str _) (.cons (.str _) (.cons (n33.at tp) (.cons (.str _) (.cons ((nkbp30.at (.same s33)).at tp) .nil)))))
      · have e : ss ≠ [] := fun z => e (by rw [z]; rfl)
        refine kD _ _ ⟨acc, rfl, fun b o e => s30 _ _ (sx _ _ e), hR30, ?_, by omega⟩
        unfold B20.rws
        rw [if_neg (fun z => e (sse.mpr z)), List.append_nil]
        exact nka30
    obtain ⟨acc2, rfl, s3, hR3, nk3, la3⟩ := rr
    clear nka hRx sx gx hpsx nkbpx la
    have g3 := g23'.trans (.of_same s3 g23'.2)
    have rp := rws_pg L pgP
    have rv := rws_eq ok L
    have rl := rws_pl ok L (by rw [ea]; exact pla) (by rw [eb]; exact plb) (by rw [ec]; exact plc)
    have lrw : (B.rws vs cs os).length ≤ 25 := by have := nk3.length; rw [List.length_map] at this; omega
    refine ⟨_, rfl, R, acc2, _, rfl, .inl (.inl hR3), nk3, rows_sbl rp rv, by omega, fun p np => ⟨p, rfl, ⟨_, .inl (.inl upd_same)⟩, fun D2 nD2 => ?_⟩⟩
    have s12 := same_upd (o := .lst ((srt acc2 ((B.rws vs cs os).map rk)).map Prod.fst)) np
    have hp12 := upd_same (H := H3) (a := p) (o := .lst ((srt acc2 ((B.rws vs cs os).map rk)).map Prod.fst))
    have esn : (srt acc2 ((B.rws vs cs os).map rk)).map Prod.snd = ((B.rws vs cs os).mergeSort leS).map rk := by rw [srt_snd nk3.length, rk_sort rp rv]
    have nks2 : NkAll H3 ((srt acc2 ((B.rws vs cs os).map rk)).map Prod.fst) (((B.rws vs cs os).mergeSort leS).map rk) := by
      rw [← esn]
      exact nk_pairs fun b hb => nk_zip nk3 b ((List.mergeSort_perm _ _).mem_iff.mp hb)
    have nks2 := nks2.at (.same s12)
    generalize (srt acc2 ((B.rws vs cs os).map rk)).map Prod.fst = zs at s12 hp12 nks2 nD2 ⊢
    generalize upd H3 p (.lst zs) = H12 at s12 hp12 nks2 nD2 ⊢
    obtain ⟨ms, ems⟩ : ∃ ms, ms = (B.rws vs cs os).mergeSort leS := ⟨_, rfl⟩
    have mms : ∀ q ∈ ms, q ∈ B.rws vs cs os := fun q hq => (List.mergeSort_perm _ _).mem_iff.mp (ems ▸ hq)
    have lms : ms.length ≤ 25 := by rw [ems, List.length_mergeSort]; exact lrw
    rw [← ems] at nks2
    have lzs : zs.length ≤ 25 := by rw [nks2.length, List.length_map]; exact lms
    refine lc_list (xs := zs) (fun j Hy => ∃ a3, Same H12 Hy ∧ Hy D2 = some (.lst a3) ∧ NkAll Hy a3 ((ms.take j).map qK) ∧ a3.length ≤ j) ⟨[], same_upd nD2, upd_same, .nil, Nat.le_refl _⟩ (fun j Hy _ ⟨_, m, _⟩ => .inl (.inl (m _ _ hp12))) ?_ ?_
    · rintro j x Hy hj ⟨a3, m, hDy, nka, la3'⟩
      obtain ⟨kk, hk, nx⟩ := nks2.get hj
      rw [List.getElem?_map] at hk
      obtain ⟨qq, hq, rfl⟩ := Option.map_eq_some_iff.mp hk
      have lj : j < zs.length := (List.getElem?_eq_some_iff.mp hj).1
      obtain ⟨b, v, pv, rfl, hb, npv⟩ := rk_at (nx.at (.same m))
      refine ⟨rfl, tYesT ⟨_, rfl, np_in ⟨2, rfl, sl_in hb fun c2 H15 s15 h15 => ⟨_, rfl, 3, rfl, np_in (sl_in (s15 _ _ hb) fun c3 H16 s16 h16 => ?_)⟩⟩⟩⟩
      have h15 : H15 c2 = some (.tup [.str qq.1, .str qq.2.1]) := h15
      have h16 : H16 c3 = some (.tup [.str (sortS qq.2.2.1), pv]) := h16
      refine ⟨c2, c3, _, _, rfl, rfl, .inl (.inl (s16 _ _ h15)), .inl (.inl h16), by rw [sizeLine_eq]; show 2 + 2 ≤ _; decide, (fun z => by cases z), (fun _ z => by cases z), fun _ _ q4 nq4 => ?_⟩
      have s17 := (s15.trans s16).trans (same_upd (o := .tup ([.str qq.1, .str qq.2.1] ++ [.str (sortS qq.2.2.1), pv])) nq4)
      have h17 := upd_same (H := H16) (a := q4) (o := .tup ([.str qq.1, .str qq.2.1] ++ [.str (sortS qq.2.2.1), pv]))
      generalize upd H16 q4 (.tup ([.str qq.1, .str qq.2.1] ++ [.str (sortS qq.2.2.1), pv])) = H17 at s17 h17 ⊢
      have h17 : H17 q4 = some (.tup [.str qq.1, .str qq.2.1, .str (sortS qq.2.2.1), pv]) := h17
      have tp : Tups H17 (upd H17 D2 (.lst (a3 ++ [V.ref q4]))) := fun c xs e => by rw [upd_ne (fun z => by rw [z, s17 _ _ hDy] at e; cases e)]; exact e
      refine ⟨a3, s17 _ _ hDy, small1000 (by omega), _, same_fresh nD2 (m.trans s17), upd_same, ?_, by rw [List.length_append]; exact Nat.succ_le_succ la3'⟩
      rw [List.take_add_one, hq, List.map_append]
      exact (nka.at ((Tups.same s17).trans tp)).app (.cons (.tup (tp _ _ h17) (.cons (.str _) (.cons (.str _) (.cons (.str _) (.cons (npv.at ((Tups.same s17).trans tp)) .nil))))) .nil)
    rintro H13 ⟨a3, s13, hD13, nk13, la3'⟩
    rw [nks2.length, List.length_map, List.take_length] at nk13
    have g13 : Gk (tbs T) H18 H13 := g3.trans (.of_same (s12.trans s13) g3.2)
    refine name_as (σ' := [some (.ref a), some (.ref t), some (.int way), some (.int first), some (.int (1 + v1)), some (.str z0), some (.str z1), some (.str z2), some (.int bg), some (.ref pw), some (.ref ph), some (.ref pl), some (.ref md), some (.ref po), some (.int day), some (.ref bp), some (.ref bok), some (.ref lim), y18, some (.ref ps), some (.ref pdu), some (.ref ptd), some (.ref D2), y23, none, none, none]) rfl ?_
    have AW13 := AW18.gk g13
    refine ⟨_, rfl, _, rfl, _, rfl, bok, lim, t1, t2, day, bg, bs, ks, rfl, AW13.hbk, AW13.pg, AW13.lx, AW13.hl, AW13.t10, AW13.t11, AW13.t20, AW13.t21, AW13.tb, AW13.d0, AW13.d1, AW13.npj, AW13.hlo, fun rd yd H14 g14 frd hrd nkd lyd => ⟨rd, rfl, ⟨_, .inl (.inl hrd)⟩, fun D3 nD3 => ?_⟩⟩
    change NkAll H14 yd ((sortU (stW t1 t2 ks day bg).ds).map dueK) at nkd
    have dp := ds_perm ok L od pgi FIN
    have tr := told_rows dp rp rv
    rw [← ems] at tr
    generalize stW t1 t2 ks day bg = st at dp tr nkd
    have lyd : yd.length = ms.length := by rw [nkd.length, List.length_map, ← tr, List.length_map]
    refine lc_list (xs := yd) (fun j Hy => ∃ a4, Same H14 Hy ∧ Hy D3 = some (.lst a4) ∧ NkAll Hy a4 ((ms.take j).map qK) ∧ a4.length ≤ j) ⟨[], same_upd nD3, upd_same, .nil, Nat.le_refl _⟩ (fun j Hy _ ⟨_, m, _⟩ => .inl (.inl (m _ _ hrd))) ?_ ?_
    · rintro j x Hy hj ⟨a4, m, hDy, nka, la4⟩
      obtain ⟨kk, hk, nx⟩ := nkd.get hj
      rw [List.getElem?_map] at hk
      obtain ⟨u, hu, rfl⟩ := Option.map_eq_some_iff.mp hk
      have lj : j < yd.length := (List.getElem?_eq_some_iff.mp hj).1
      have hm : ms[j]? = some (sigU u) := by rw [← tr, List.getElem?_map, hu]; rfl
      obtain ⟨b, c, pv, rfl, hb, npg, hc⟩ := due_at (nx.at (.same m))
      refine ⟨rfl, tYesT ⟨_, rfl, np_in ⟨4, rfl, sl_in hb fun c2 H15 s15 h15 => ?_⟩⟩⟩
      have h15 : H15 c2 = some (.tup [.str u.ow, .str u.od, .str (sortS u.vis), pv]) := h15
      have tp : Tups H15 (upd H15 D3 (.lst (a4 ++ [V.ref c2]))) := fun c xs e => by rw [upd_ne (fun z => by rw [z, s15 _ _ hDy] at e; cases e)]; exact e
      refine ⟨a4, s15 _ _ hDy, small1000 (by omega), _, same_fresh nD3 (m.trans s15), upd_same, ?_, by rw [List.length_append]; exact Nat.succ_le_succ la4⟩
      rw [List.take_add_one, hm, List.map_append]
      refine (nka.at ((Tups.same s15).trans tp)).app (.cons ?_ .nil)
      show Nk _ _ (.tup [.text u.ow, .text u.od, .text (sortS u.vis), u.pg])
      exact .tup (tp _ _ h15) (.cons (.str _) (.cons (.str _) (.cons (.str _) (.cons (npg.at ((Tups.same s15).trans tp)) .nil))))
    rintro H15 ⟨a4, s15, hD15, nk15, la4⟩
    rw [lyd, List.take_length] at nk15
    have o3 : Ok3 (PyData.list (NestedKey.datas (ms.map qK))) 5000000 4 := by
      refine (ok3_list (c := 100000) (e := 3) fun k hk => ?_).mono (by rw [List.length_map]; omega) (by decide)
      obtain ⟨q, hq, rfl⟩ := List.mem_map.mp hk
      have hq := mms q hq
      exact ok3_q (rp q hq) (rl q hq).1 (rl q hq).2
    generalize hdd : PyData.list (NestedKey.datas (ms.map qK)) = dd at o3
    have cst : GU.cost dd ≤ sizeLine := Nat.le_trans o3.cost (by decide)
    refine ⟨.ref D3, dd, rfl, by rw [← hdd]; exact .lst (.inl (.inl hD15)) nk15.dp, o3.sh, Nat.le_trans o3.deep (by decide), cst, ?_⟩
    have hD2x := s15 _ _ (g14.1 _ _ hD13 (fun ps z => by cases z))
    have nk13x := (nk13.at (.gk g14)).at (.same s15)
    refine ⟨_, rfl, .ref D2, dd, rfl, by rw [← hdd]; exact .lst (.inl (.inl hD2x)) nk13x.dp, o3.sh, Nat.le_trans o3.deep (by decide), cst, ?_⟩
    refine ⟨rfl, ?_⟩
    show Q (.bl (decide (V.str dd.shown = V.str dd.shown))) _
    rw [decide_eq_true rfl]
    exact q _
end
end L20

set_option Elab.async false
set_option linter.all false
set_option maxRecDepth 100000
set_option maxHeartbeats 2000000
namespace L20
open PySem PySem.Spec PyProof.Rows L2 My
theorem all_mk {l : PySem.W.OpenLaw} {w : World} {K : PySem.W.Frag} {h : Heap} {mg : Str → Option Value} {fa : Addr} {q : Program} (X : K.In h) (G : h.Ns mainGlobals mg) (hfa : mg "law" = some (.ref fa)) (tabs : GE.TabsIn q K h)
    {oC1 : Addr}
    {f1 : Addr} {od1 an1 : Option Addr} {sl1 : Array (Option Value)} {oc1 kV1 dc1 pm1 cd1 ct1 : Value}
    {f2 : Addr} {od2 an2 : Option Addr} {sl2 : Array (Option Value)} {oc2 kV2 dc2 pm2 cd2 ct2 : Value}
    {f3 : Addr} {od3 an3 : Option Addr} {sl3 : Array (Option Value)} {oc3 kV3 dc3 pm3 cd3 ct3 : Value}
    {f4 : Addr} {od4 an4 : Option Addr} {sl4 : Array (Option Value)} {oc4 kV4 dc4 pm4 cd4 ct4 : Value}
    {q4 P4 : Addr} {ge4 : Value} {gd4 : Option Addr} {gv4 : Array Value} {gs4 : Array (Option Value)}
    {f5 : Addr} {od5 an5 : Option Addr} {sl5 : Array (Option Value)} {oc5 kV5 dc5 pm5 cd5 ct5 : Value}
    {f6 : Addr} {od6 an6 : Option Addr} {sl6 : Array (Option Value)} {oc6 kV6 dc6 pm6 cd6 ct6 : Value}
    {q6 P6 : Addr} {ge6 : Value} {gd6 : Option Addr} {gv6 : Array Value} {gs6 : Array (Option Value)}
    {f7 : Addr} {od7 an7 : Option Addr} {sl7 : Array (Option Value)} {oc7 kV7 dc7 pm7 cd7 ct7 : Value}
    {q7 P7 : Addr} {ge7 : Value} {gd7 : Option Addr} {gv7 : Array Value} {gs7 : Array (Option Value)}
    {f8 : Addr} {od8 an8 : Option Addr} {sl8 : Array (Option Value)} {oc8 kV8 dc8 pm8 cd8 ct8 : Value}
    {f9 : Addr} {od9 an9 : Option Addr} {sl9 : Array (Option Value)} {oc9 kV9 dc9 pm9 cd9 ct9 : Value}
    {f10 : Addr} {od10 an10 : Option Addr} {sl10 : Array (Option Value)} {oc10 kV10 dc10 pm10 cd10 ct10 : Value}
    {f11 : Addr} {od11 an11 : Option Addr} {sl11 : Array (Option Value)} {oc11 kV11 dc11 pm11 cd11 ct11 : Value}
    {f12 : Addr} {od12 an12 : Option Addr} {sl12 : Array (Option Value)} {oc12 kV12 dc12 pm12 cd12 ct12 : Value}
    {f13 : Addr} {od13 an13 : Option Addr} {sl13 : Array (Option Value)} {oc13 kV13 dc13 pm13 cd13 ct13 : Value}
    {f14 : Addr} {od14 an14 : Option Addr} {sl14 : Array (Option Value)} {oc14 kV14 dc14 pm14 cd14 ct14 : Value}
    {q14 P14 : Addr} {ge14 : Value} {gd14 : Option Addr} {gv14 : Array Value} {gs14 : Array (Option Value)}
    {f15 : Addr} {od15 an15 : Option Addr} {sl15 : Array (Option Value)} {oc15 kV15 dc15 pm15 cd15 ct15 : Value}
    {f16 : Addr} {od16 an16 : Option Addr} {sl16 : Array (Option Value)} {oc16 kV16 dc16 pm16 cd16 ct16 : Value}
    {f17 : Addr} {od17 an17 : Option Addr} {sl17 : Array (Option Value)} {oc17 kV17 dc17 pm17 cd17 ct17 : Value}
    {f18 : Addr} {od18 an18 : Option Addr} {sl18 : Array (Option Value)} {oc18 kV18 dc18 pm18 cd18 ct18 : Value}
    {f19 : Addr} {od19 an19 : Option Addr} {sl19 : Array (Option Value)} {oc19 kV19 dc19 pm19 cd19 ct19 : Value}
    {f20 : Addr} {od20 an20 : Option Addr} {sl20 : Array (Option Value)} {oc20 kV20 dc20 pm20 cd20 ct20 : Value}
    {f21 : Addr} {od21 an21 : Option Addr} {sl21 : Array (Option Value)} {oc21 kV21 dc21 pm21 cd21 ct21 : Value}
    {f22 : Addr} {od22 an22 : Option Addr} {sl22 : Array (Option Value)} {oc22 kV22 dc22 pm22 cd22 ct22 : Value}
    {f23 : Addr} {od23 an23 : Option Addr} {sl23 : Array (Option Value)} {oc23 kV23 dc23 pm23 cd23 ct23 : Value}
    {f24 : Addr} {od24 an24 : Option Addr} {sl24 : Array (Option Value)} {oc24 kV24 dc24 pm24 cd24 ct24 : Value}
    {f25 : Addr} {od25 an25 : Option Addr} {sl25 : Array (Option Value)} {oc25 kV25 dc25 pm25 cd25 ct25 : Value}
    {f26 : Addr} {od26 an26 : Option Addr} {sl26 : Array (Option Value)} {oc26 kV26 dc26 pm26 cd26 ct26 : Value}
    {f27 : Addr} {od27 an27 : Option Addr} {sl27 : Array (Option Value)} {oc27 kV27 dc27 pm27 cd27 ct27 : Value}
    {f28 : Addr} {od28 an28 : Option Addr} {sl28 : Array (Option Value)} {oc28 kV28 dc28 pm28 cd28 ct28 : Value}
    {f29 : Addr} {od29 an29 : Option Addr} {sl29 : Array (Option Value)} {oc29 kV29 dc29 pm29 cd29 ct29 : Value}
    {f30 : Addr} {od30 an30 : Option Addr} {sl30 : Array (Option Value)} {oc30 kV30 dc30 pm30 cd30 ct30 : Value}
    {f31 : Addr} {od31 an31 : Option Addr} {sl31 : Array (Option Value)} {oc31 kV31 dc31 pm31 cd31 ct31 : Value}
    {f32 : Addr} {od32 an32 : Option Addr} {sl32 : Array (Option Value)} {oc32 kV32 dc32 pm32 cd32 ct32 : Value}
    {f33 : Addr} {od33 an33 : Option Addr} {sl33 : Array (Option Value)} {oc33 kV33 dc33 pm33 cd33 ct33 : Value}
    {f34 : Addr} {od34 an34 : Option Addr} {sl34 : Array (Option Value)} {oc34 kV34 dc34 pm34 cd34 ct34 : Value}
    {f35 : Addr} {od35 an35 : Option Addr} {sl35 : Array (Option Value)} {oc35 kV35 dc35 pm35 cd35 ct35 : Value}
    {f36 : Addr} {od36 an36 : Option Addr} {sl36 : Array (Option Value)} {oc36 kV36 dc36 pm36 cd36 ct36 : Value}
    {tk1 : Tok}
    {av2 : Addr}
    {we2 : Value} {wd2 : Option Addr} {wi2 : Array Value} {wn2 : Nat} {ws2 : Array (Option Value)}
    {av3 : Addr}
    {es3 : Array DictEntry} {en3 : Nat}
    {r3_0 : Addr} {we3_0 : Value} {wd3_0 : Option Addr} {wi3_0 : Array Value} {wn3_0 : Nat} {ws3_0 : Array (Option Value)}
    {r3_1 : Addr} {we3_1 : Value} {wd3_1 : Option Addr} {wi3_1 : Array Value} {wn3_1 : Nat} {ws3_1 : Array (Option Value)}
    {r3_2 : Addr} {we3_2 : Value} {wd3_2 : Option Addr} {wi3_2 : Array Value} {wn3_2 : Nat} {ws3_2 : Array (Option Value)}
    {r3_3 : Addr} {we3_3 : Value} {wd3_3 : Option Addr} {wi3_3 : Array Value} {wn3_3 : Nat} {ws3_3 : Array (Option Value)}
    {r3_4 : Addr} {we3_4 : Value} {wd3_4 : Option Addr} {wi3_4 : Array Value} {wn3_4 : Nat} {ws3_4 : Array (Option Value)}
    {r3_5 : Addr} {we3_5 : Value} {wd3_5 : Option Addr} {wi3_5 : Array Value} {wn3_5 : Nat} {ws3_5 : Array (Option Value)}
    {r3_6 : Addr} {we3_6 : Value} {wd3_6 : Option Addr} {wi3_6 : Array Value} {wn3_6 : Nat} {ws3_6 : Array (Option Value)}
    {r3_7 : Addr} {we3_7 : Value} {wd3_7 : Option Addr} {wi3_7 : Array Value} {wn3_7 : Nat} {ws3_7 : Array (Option Value)}
    {av4 : Addr}
    {we4 : Value} {wd4 : Option Addr} {wi4 : Array Value} {wn4 : Nat} {ws4 : Array (Option Value)}
    {av5 : Addr}
    {we5 : Value} {wd5 : Option Addr} {wi5 : Array Value} {wn5 : Nat} {ws5 : Array (Option Value)}
    {d4 : DefRec}
    {d6 : DefRec}
    {d7 : DefRec}
    {d14 : DefRec}
    (oa1 : PySem.W.nsIn K mainGlobals "Walk" = some (some (.ref oC1))) (og1 : PySem.W.plainGet K oC1 Str.empty = true) (oh1 : PySem.W.hasDictIn K oC1 = true) (op1 : PySem.W.plainOver K oC1 = true) (os1 : PySem.W.findIn K (.ref oC1) "__setattr__" = some (some (.builtin "object.__setattr__"))) (om1 : PySem.W.makesIn K oC1 = true) (ok1 : PySem.W.keepIn K (.ref oC1) = true)
    (on1_0 : PySem.W.findIn K (.ref oC1) "limits" = some none)
    (on1_1 : PySem.W.findIn K (.ref oC1) "homes" = some none)
    (on1_2 : PySem.W.findIn K (.ref oC1) "mourning" = some none)
    (on1_3 : PySem.W.findIn K (.ref oC1) "known" = some none)
    (on1_4 : PySem.W.findIn K (.ref oC1) "dues" = some none)
    (on1_5 : PySem.W.findIn K (.ref oC1) "marks" = some none)
    (on1_6 : PySem.W.findIn K (.ref oC1) "answers" = some none)
    (on1_7 : PySem.W.findIn K (.ref oC1) "copied" = some none)
    (on1_8 : PySem.W.findIn K (.ref oC1) "struck" = some none)
    (on1_9 : PySem.W.findIn K (.ref oC1) "spare" = some none)
    (a1 : PySem.W.nsIn K mainGlobals "weekday" = some (some (.ref f1))) (l1 : K.lookup f1 = some ⟨oc1, od1, .func (PySem.W.fnOf "weekday" "weekday" (defArgs s_weekday) (defBody s_weekday) (defScope s_weekday) .none kV1 dc1 pm1 an1 cd1 ct1), sl1⟩) (c1 : PySem.W.codeIn K cd1 "weekday" = true) (k1 : PySem.W.keepIn K (.ref f1) = true)
    (a2 : PySem.W.nsIn K mainGlobals "page_day" = some (some (.ref f2))) (l2 : K.lookup f2 = some ⟨oc2, od2, .func (PySem.W.fnOf "page_day" "page_day" (defArgs s_page_day) (defBody s_page_day) (defScope s_page_day) .none kV2 dc2 pm2 an2 cd2 ct2), sl2⟩) (c2 : PySem.W.codeIn K cd2 "page_day" = true) (k2 : PySem.W.keepIn K (.ref f2) = true)
    (a3 : PySem.W.nsIn K mainGlobals "page_kind" = some (some (.ref f3))) (l3 : K.lookup f3 = some ⟨oc3, od3, .func (PySem.W.fnOf "page_kind" "page_kind" (defArgs s_page_kind) (defBody s_page_kind) (defScope s_page_kind) .none kV3 dc3 pm3 an3 cd3 ct3), sl3⟩) (c3 : PySem.W.codeIn K cd3 "page_kind" = true) (k3 : PySem.W.keepIn K (.ref f3) = true)
    (a4 : PySem.W.nsIn K mainGlobals "names_of" = some (some (.ref f4))) (l4 : K.lookup f4 = some ⟨oc4, od4, .func (PySem.W.fnOf "names_of" "names_of" (defArgs s_names_of) (defBody s_names_of) (defScope s_names_of) .none kV4 dc4 pm4 an4 cd4 ct4), sl4⟩) (c4 : PySem.W.codeIn K cd4 "names_of" = true) (k4 : PySem.W.keepIn K (.ref f4) = true)
    (e4 : cd4 = .ref q4) (u4 : K.lookup q4 = some ⟨ge4, gd4, .fields gv4, gs4⟩) (v4t : gv4[11]? = some (.ref P4)) (n4 : K.lookup P4 = none)
    (a5 : PySem.W.nsIn K mainGlobals "page_place" = some (some (.ref f5))) (l5 : K.lookup f5 = some ⟨oc5, od5, .func (PySem.W.fnOf "page_place" "page_place" (defArgs s_page_place) (defBody s_page_place) (defScope s_page_place) .none kV5 dc5 pm5 an5 cd5 ct5), sl5⟩) (c5 : PySem.W.codeIn K cd5 "page_place" = true) (k5 : PySem.W.keepIn K (.ref f5) = true)
    (a6 : PySem.W.nsIn K mainGlobals "up_to" = some (some (.ref f6))) (l6 : K.lookup f6 = some ⟨oc6, od6, .func (PySem.W.fnOf "up_to" "up_to" (defArgs s_up_to) (defBody s_up_to) (defScope s_up_to) .none kV6 dc6 pm6 an6 cd6 ct6), sl6⟩) (c6 : PySem.W.codeIn K cd6 "up_to" = true) (k6 : PySem.W.keepIn K (.ref f6) = true)
    (e6 : cd6 = .ref q6) (u6 : K.lookup q6 = some ⟨ge6, gd6, .fields gv6, gs6⟩) (v6t : gv6[11]? = some (.ref P6)) (n6 : K.lookup P6 = none)
    (a7 : PySem.W.nsIn K mainGlobals "can_be_done" = some (some (.ref f7))) (l7 : K.lookup f7 = some ⟨oc7, od7, .func (PySem.W.fnOf "can_be_done" "can_be_done" (defArgs s_can_be_done) (defBody s_can_be_done) (defScope s_can_be_done) .none kV7 dc7 pm7 an7 cd7 ct7), sl7⟩) (c7 : PySem.W.codeIn K cd7 "can_be_done" = true) (k7 : PySem.W.keepIn K (.ref f7) = true)
    (e7 : cd7 = .ref q7) (u7 : K.lookup q7 = some ⟨ge7, gd7, .fields gv7, gs7⟩) (v7t : gv7[11]? = some (.ref P7)) (n7 : K.lookup P7 = none)
    (a8 : PySem.W.nsIn K mainGlobals "turn_houses" = some (some (.ref f8))) (l8 : K.lookup f8 = some ⟨oc8, od8, .func (PySem.W.fnOf "turn_houses" "turn_houses" (defArgs s_turn_houses) (defBody s_turn_houses) (defScope s_turn_houses) .none kV8 dc8 pm8 an8 cd8 ct8), sl8⟩) (c8 : PySem.W.codeIn K cd8 "turn_houses" = true) (k8 : PySem.W.keepIn K (.ref f8) = true)
    (a9 : PySem.W.nsIn K mainGlobals "add_mourning" = some (some (.ref f9))) (l9 : K.lookup f9 = some ⟨oc9, od9, .func (PySem.W.fnOf "add_mourning" "add_mourning" (defArgs s_add_mourning) (defBody s_add_mourning) (defScope s_add_mourning) .none kV9 dc9 pm9 an9 cd9 ct9), sl9⟩) (c9 : PySem.W.codeIn K cd9 "add_mourning" = true) (k9 : PySem.W.keepIn K (.ref f9) = true)
    (a10 : PySem.W.nsIn K mainGlobals "is_mourning" = some (some (.ref f10))) (l10 : K.lookup f10 = some ⟨oc10, od10, .func (PySem.W.fnOf "is_mourning" "is_mourning" (defArgs s_is_mourning) (defBody s_is_mourning) (defScope s_is_mourning) .none kV10 dc10 pm10 an10 cd10 ct10), sl10⟩) (c10 : PySem.W.codeIn K cd10 "is_mourning" = true) (k10 : PySem.W.keepIn K (.ref f10) = true)
    (a11 : PySem.W.nsIn K mainGlobals "falls_left" = some (some (.ref f11))) (l11 : K.lookup f11 = some ⟨oc11, od11, .func (PySem.W.fnOf "falls_left" "falls_left" (defArgs s_falls_left) (defBody s_falls_left) (defScope s_falls_left) .none kV11 dc11 pm11 an11 cd11 ct11), sl11⟩) (c11 : PySem.W.codeIn K cd11 "falls_left" = true) (k11 : PySem.W.keepIn K (.ref f11) = true)
    (a12 : PySem.W.nsIn K mainGlobals "is_rude" = some (some (.ref f12))) (l12 : K.lookup f12 = some ⟨oc12, od12, .func (PySem.W.fnOf "is_rude" "is_rude" (defArgs s_is_rude) (defBody s_is_rude) (defScope s_is_rude) .none kV12 dc12 pm12 an12 cd12 ct12), sl12⟩) (c12 : PySem.W.codeIn K cd12 "is_rude" = true) (k12 : PySem.W.keepIn K (.ref f12) = true)
    (a13 : PySem.W.nsIn K mainGlobals "due_place" = some (some (.ref f13))) (l13 : K.lookup f13 = some ⟨oc13, od13, .func (PySem.W.fnOf "due_place" "due_place" (defArgs s_due_place) (defBody s_due_place) (defScope s_due_place) .none kV13 dc13 pm13 an13 cd13 ct13), sl13⟩) (c13 : PySem.W.codeIn K cd13 "due_place" = true) (k13 : PySem.W.keepIn K (.ref f13) = true)
    (a14 : PySem.W.nsIn K mainGlobals "put_for" = some (some (.ref f14))) (l14 : K.lookup f14 = some ⟨oc14, od14, .func (PySem.W.fnOf "put_for" "put_for" (defArgs s_put_for) (defBody s_put_for) (defScope s_put_for) .none kV14 dc14 pm14 an14 cd14 ct14), sl14⟩) (c14 : PySem.W.codeIn K cd14 "put_for" = true) (k14 : PySem.W.keepIn K (.ref f14) = true)
    (e14 : cd14 = .ref q14) (u14 : K.lookup q14 = some ⟨ge14, gd14, .fields gv14, gs14⟩) (v14t : gv14[11]? = some (.ref P14)) (n14 : K.lookup P14 = none)
    (a15 : PySem.W.nsIn K mainGlobals "staying_place" = some (some (.ref f15))) (l15 : K.lookup f15 = some ⟨oc15, od15, .func (PySem.W.fnOf "staying_place" "staying_place" (defArgs s_staying_place) (defBody s_staying_place) (defScope s_staying_place) .none kV15 dc15 pm15 an15 cd15 ct15), sl15⟩) (c15 : PySem.W.codeIn K cd15 "staying_place" = true) (k15 : PySem.W.keepIn K (.ref f15) = true)
    (a16 : PySem.W.nsIn K mainGlobals "made_one" = some (some (.ref f16))) (l16 : K.lookup f16 = some ⟨oc16, od16, .func (PySem.W.fnOf "made_one" "made_one" (defArgs s_made_one) (defBody s_made_one) (defScope s_made_one) .none kV16 dc16 pm16 an16 cd16 ct16), sl16⟩) (c16 : PySem.W.codeIn K cd16 "made_one" = true) (k16 : PySem.W.keepIn K (.ref f16) = true)
    (a17 : PySem.W.findIn K (.ref oC1) "__init__" = some (some (.ref f17))) (i17 : PySem.W.isFn K (.ref f17) = true) (l17 : K.lookup f17 = some ⟨oc17, od17, .func (PySem.W.fnOf "__init__" "Walk.__init__" (defArgs s_Walk___init__) (defBody s_Walk___init__) (defScope s_Walk___init__) .none kV17 dc17 pm17 an17 cd17 ct17), sl17⟩) (c17 : PySem.W.codeIn K cd17 "Walk.__init__" = true) (k17 : PySem.W.keepIn K (.ref f17) = true)
    (a18 : PySem.W.findIn K (.ref oC1) "mourns_on" = some (some (.ref f18))) (i18 : PySem.W.isFn K (.ref f18) = true) (l18 : K.lookup f18 = some ⟨oc18, od18, .func (PySem.W.fnOf "mourns_on" "Walk.mourns_on" (defArgs s_Walk_mourns_on) (defBody s_Walk_mourns_on) (defScope s_Walk_mourns_on) .none kV18 dc18 pm18 an18 cd18 ct18), sl18⟩) (c18 : PySem.W.codeIn K cd18 "Walk.mourns_on" = true) (k18 : PySem.W.keepIn K (.ref f18) = true)
    (a19 : PySem.W.findIn K (.ref oC1) "at_home_on" = some (some (.ref f19))) (i19 : PySem.W.isFn K (.ref f19) = true) (l19 : K.lookup f19 = some ⟨oc19, od19, .func (PySem.W.fnOf "at_home_on" "Walk.at_home_on" (defArgs s_Walk_at_home_on) (defBody s_Walk_at_home_on) (defScope s_Walk_at_home_on) .none kV19 dc19 pm19 an19 cd19 ct19), sl19⟩) (c19 : PySem.W.codeIn K cd19 "Walk.at_home_on" = true) (k19 : PySem.W.keepIn K (.ref f19) = true)
    (a20 : PySem.W.findIn K (.ref oC1) "do_page" = some (some (.ref f20))) (i20 : PySem.W.isFn K (.ref f20) = true) (l20 : K.lookup f20 = some ⟨oc20, od20, .func (PySem.W.fnOf "do_page" "Walk.do_page" (defArgs s_Walk_do_page) (defBody s_Walk_do_page) (defScope s_Walk_do_page) .none kV20 dc20 pm20 an20 cd20 ct20), sl20⟩) (c20 : PySem.W.codeIn K cd20 "Walk.do_page" = true) (k20 : PySem.W.keepIn K (.ref f20) = true)
    (a21 : PySem.W.findIn K (.ref oC1) "go_out" = some (some (.ref f21))) (i21 : PySem.W.isFn K (.ref f21) = true) (l21 : K.lookup f21 = some ⟨oc21, od21, .func (PySem.W.fnOf "go_out" "Walk.go_out" (defArgs s_Walk_go_out) (defBody s_Walk_go_out) (defScope s_Walk_go_out) .none kV21 dc21 pm21 an21 cd21 ct21), sl21⟩) (c21 : PySem.W.codeIn K cd21 "Walk.go_out" = true) (k21 : PySem.W.keepIn K (.ref f21) = true)
    (a22 : PySem.W.findIn K (.ref oC1) "part_dues" = some (some (.ref f22))) (i22 : PySem.W.isFn K (.ref f22) = true) (l22 : K.lookup f22 = some ⟨oc22, od22, .func (PySem.W.fnOf "part_dues" "Walk.part_dues" (defArgs s_Walk_part_dues) (defBody s_Walk_part_dues) (defScope s_Walk_part_dues) .none kV22 dc22 pm22 an22 cd22 ct22), sl22⟩) (c22 : PySem.W.codeIn K cd22 "Walk.part_dues" = true) (k22 : PySem.W.keepIn K (.ref f22) = true)
    (a23 : PySem.W.findIn K (.ref oC1) "join_dues" = some (some (.ref f23))) (i23 : PySem.W.isFn K (.ref f23) = true) (l23 : K.lookup f23 = some ⟨oc23, od23, .func (PySem.W.fnOf "join_dues" "Walk.join_dues" (defArgs s_Walk_join_dues) (defBody s_Walk_join_dues) (defScope s_Walk_join_dues) .none kV23 dc23 pm23 an23 cd23 ct23), sl23⟩) (c23 : PySem.W.codeIn K cd23 "Walk.join_dues" = true) (k23 : PySem.W.keepIn K (.ref f23) = true)
    (a24 : PySem.W.findIn K (.ref oC1) "falls_on" = some (some (.ref f24))) (i24 : PySem.W.isFn K (.ref f24) = true) (l24 : K.lookup f24 = some ⟨oc24, od24, .func (PySem.W.fnOf "falls_on" "Walk.falls_on" (defArgs s_Walk_falls_on) (defBody s_Walk_falls_on) (defScope s_Walk_falls_on) .none kV24 dc24 pm24 an24 cd24 ct24), sl24⟩) (c24 : PySem.W.codeIn K cd24 "Walk.falls_on" = true) (k24 : PySem.W.keepIn K (.ref f24) = true)
    (a25 : PySem.W.findIn K (.ref oC1) "end_day" = some (some (.ref f25))) (i25 : PySem.W.isFn K (.ref f25) = true) (l25 : K.lookup f25 = some ⟨oc25, od25, .func (PySem.W.fnOf "end_day" "Walk.end_day" (defArgs s_Walk_end_day) (defBody s_Walk_end_day) (defScope s_Walk_end_day) .none kV25 dc25 pm25 an25 cd25 ct25), sl25⟩) (c25 : PySem.W.codeIn K cd25 "Walk.end_day" = true) (k25 : PySem.W.keepIn K (.ref f25) = true)
    (a26 : PySem.W.nsIn K mainGlobals "walked" = some (some (.ref f26))) (l26 : K.lookup f26 = some ⟨oc26, od26, .func (PySem.W.fnOf "walked" "walked" (defArgs s_walked) (defBody s_walked) (defScope s_walked) .none kV26 dc26 pm26 an26 cd26 ct26), sl26⟩) (c26 : PySem.W.codeIn K cd26 "walked" = true) (k26 : PySem.W.keepIn K (.ref f26) = true)
    (a27 : PySem.W.nsIn K mainGlobals "dues" = some (some (.ref f27))) (l27 : K.lookup f27 = some ⟨oc27, od27, .func (PySem.W.fnOf "dues" "dues" (defArgs s_dues) (defBody s_dues) (defScope s_dues) .none kV27 dc27 pm27 an27 cd27 ct27), sl27⟩) (c27 : PySem.W.codeIn K cd27 "dues" = true) (k27 : PySem.W.keepIn K (.ref f27) = true)
    (a28 : PySem.W.nsIn K mainGlobals "marks" = some (some (.ref f28))) (l28 : K.lookup f28 = some ⟨oc28, od28, .func (PySem.W.fnOf "marks" "marks" (defArgs s_marks) (defBody s_marks) (defScope s_marks) .none kV28 dc28 pm28 an28 cd28 ct28), sl28⟩) (c28 : PySem.W.codeIn K cd28 "marks" = true) (k28 : PySem.W.keepIn K (.ref f28) = true)
    (a29 : PySem.W.nsIn K mainGlobals "triple_place" = some (some (.ref f29))) (l29 : K.lookup f29 = some ⟨oc29, od29, .func (PySem.W.fnOf "triple_place" "triple_place" (defArgs s_triple_place) (defBody s_triple_place) (defScope s_triple_place) .none kV29 dc29 pm29 an29 cd29 ct29), sl29⟩) (c29 : PySem.W.codeIn K cd29 "triple_place" = true) (k29 : PySem.W.keepIn K (.ref f29) = true)
    (a30 : PySem.W.nsIn K mainGlobals "answered" = some (some (.ref f30))) (l30 : K.lookup f30 = some ⟨oc30, od30, .func (PySem.W.fnOf "answered" "answered" (defArgs s_answered) (defBody s_answered) (defScope s_answered) .none kV30 dc30 pm30 an30 cd30 ct30), sl30⟩) (c30 : PySem.W.codeIn K cd30 "answered" = true) (k30 : PySem.W.keepIn K (.ref f30) = true)
    (a31 : PySem.W.nsIn K mainGlobals "_law_feed" = some (some (.ref f31))) (l31 : K.lookup f31 = some ⟨oc31, od31, .func (PySem.W.fnOf "_law_feed" "_law_feed" (defArgs s_w_feed) (defBody s_w_feed) (defScope s_w_feed) .none kV31 dc31 pm31 an31 cd31 ct31), sl31⟩) (c31 : PySem.W.codeIn K cd31 "_law_feed" = true) (k31 : PySem.W.keepIn K (.ref f31) = true)
    (a32 : PySem.W.nsIn K mainGlobals "_law_draw" = some (some (.ref f32))) (l32 : K.lookup f32 = some ⟨oc32, od32, .func (PySem.W.fnOf "_law_draw" "_law_draw" (defArgs s_w_draw) (defBody s_w_draw) (defScope s_w_draw) .none kV32 dc32 pm32 an32 cd32 ct32), sl32⟩) (c32 : PySem.W.codeIn K cd32 "_law_draw" = true) (k32 : PySem.W.keepIn K (.ref f32) = true)
    (a33 : PySem.W.nsIn K mainGlobals "_law_names" = some (some (.ref f33))) (l33 : K.lookup f33 = some ⟨oc33, od33, .func (PySem.W.fnOf "_law_names" "_law_names" (defArgs s_w_names) (defBody s_w_names) (defScope s_w_names) .none kV33 dc33 pm33 an33 cd33 ct33), sl33⟩) (c33 : PySem.W.codeIn K cd33 "_law_names" = true) (k33 : PySem.W.keepIn K (.ref f33) = true)
    (a34 : PySem.W.nsIn K mainGlobals "_law_rank" = some (some (.ref f34))) (l34 : K.lookup f34 = some ⟨oc34, od34, .func (PySem.W.fnOf "_law_rank" "_law_rank" (defArgs s_w_rank) (defBody s_w_rank) (defScope s_w_rank) .none kV34 dc34 pm34 an34 cd34 ct34), sl34⟩) (c34 : PySem.W.codeIn K cd34 "_law_rank" = true) (k34 : PySem.W.keepIn K (.ref f34) = true)
    (a35 : PySem.W.nsIn K mainGlobals "_law_gone" = some (some (.ref f35))) (l35 : K.lookup f35 = some ⟨oc35, od35, .func (PySem.W.fnOf "_law_gone" "_law_gone" (defArgs s_w_gone) (defBody s_w_gone) (defScope s_w_gone) .none kV35 dc35 pm35 an35 cd35 ct35), sl35⟩) (c35 : PySem.W.codeIn K cd35 "_law_gone" = true) (k35 : PySem.W.keepIn K (.ref f35) = true)
    (a36 : PySem.W.nsIn K mainGlobals "law" = some (some (.ref f36))) (l36 : K.lookup f36 = some ⟨oc36, od36, .func (PySem.W.fnOf "law" "law" (defArgs s_law) (defBody s_law) (defScope s_law) .none kV36 dc36 pm36 an36 cd36 ct36), sl36⟩) (c36 : PySem.W.codeIn K cd36 "law" = true) (k36 : PySem.W.keepIn K (.ref f36) = true)
    (v1 : PySem.W.nsIn K mainGlobals "WEEK" = some (some (.int 7 tk1)))
    (v2 : PySem.W.nsIn K mainGlobals "KINDS" = some (some (.ref av2)))
    (x2 : K.lookup av2 = some ⟨we2, wd2, .seq wi2 wn2, ws2⟩) (y2t : we2 = .type "tuple") (y2z : wi2.size ≤ sizeLine) (y2v : Vals [.str "house", .str "part", .str "join", .str "home", .str "mourn", .str "ahead", .str "card", .str "visit"] wi2.toList) (y2d : wd2 = none)
    (v3 : PySem.W.nsIn K mainGlobals "FORMS" = some (some (.ref av3)))
    (x3 : K.lookup av3 = some ⟨.type "dict", none, .dict es3 en3, #[]⟩) (x3k : PySem.W.KeysLit w.params es3.toList)
    (n3_0d : PySem.W.nsIn K av3 "house" = some (some (.ref r3_0))) (x3_0 : K.lookup r3_0 = some ⟨we3_0, wd3_0, .seq wi3_0 wn3_0, ws3_0⟩) (y3_0t : we3_0 = .type "tuple") (y3_0z : wi3_0.size ≤ sizeLine) (y3_0v : Vals [.str "name", .str "home"] wi3_0.toList)
    (n3_1d : PySem.W.nsIn K av3 "part" = some (some (.ref r3_1))) (x3_1 : K.lookup r3_1 = some ⟨we3_1, wd3_1, .seq wi3_1 wn3_1, ws3_1⟩) (y3_1t : we3_1 = .type "tuple") (y3_1z : wi3_1.size ≤ sizeLine) (y3_1v : Vals [.str "name", .str "name", .str "home"] wi3_1.toList)
    (n3_2d : PySem.W.nsIn K av3 "join" = some (some (.ref r3_2))) (x3_2 : K.lookup r3_2 = some ⟨we3_2, wd3_2, .seq wi3_2 wn3_2, ws3_2⟩) (y3_2t : we3_2 = .type "tuple") (y3_2z : wi3_2.size ≤ sizeLine) (y3_2v : Vals [.str "name", .str "name"] wi3_2.toList)
    (n3_3d : PySem.W.nsIn K av3 "home" = some (some (.ref r3_3))) (x3_3 : K.lookup r3_3 = some ⟨we3_3, wd3_3, .seq wi3_3 wn3_3, ws3_3⟩) (y3_3t : we3_3 = .type "tuple") (y3_3z : wi3_3.size ≤ sizeLine) (y3_3v : Vals [.str "name", .str "home"] wi3_3.toList)
    (n3_4d : PySem.W.nsIn K av3 "mourn" = some (some (.ref r3_4))) (x3_4 : K.lookup r3_4 = some ⟨we3_4, wd3_4, .seq wi3_4 wn3_4, ws3_4⟩) (y3_4t : we3_4 = .type "tuple") (y3_4z : wi3_4.size ≤ sizeLine) (y3_4v : Vals [.str "name", .str "many"] wi3_4.toList)
    (n3_5d : PySem.W.nsIn K av3 "ahead" = some (some (.ref r3_5))) (x3_5 : K.lookup r3_5 = some ⟨we3_5, wd3_5, .seq wi3_5 wn3_5, ws3_5⟩) (y3_5t : we3_5 = .type "tuple") (y3_5z : wi3_5.size ≤ sizeLine) (y3_5v : Vals [.str "name", .str "name"] wi3_5.toList)
    (n3_6d : PySem.W.nsIn K av3 "card" = some (some (.ref r3_6))) (x3_6 : K.lookup r3_6 = some ⟨we3_6, wd3_6, .seq wi3_6 wn3_6, ws3_6⟩) (y3_6t : we3_6 = .type "tuple") (y3_6z : wi3_6.size ≤ sizeLine) (y3_6v : Vals [.str "name", .str "name"] wi3_6.toList)
    (n3_7d : PySem.W.nsIn K av3 "visit" = some (some (.ref r3_7))) (x3_7 : K.lookup r3_7 = some ⟨we3_7, wd3_7, .seq wi3_7 wn3_7, ws3_7⟩) (y3_7t : we3_7 = .type "tuple") (y3_7z : wi3_7.size ≤ sizeLine) (y3_7v : Vals [.str "name", .str "name"] wi3_7.toList)
    (v4 : PySem.W.nsIn K mainGlobals "COMING" = some (some (.ref av4)))
    (x4 : K.lookup av4 = some ⟨we4, wd4, .seq wi4 wn4, ws4⟩) (y4t : we4 = .type "tuple") (y4z : wi4.size ≤ sizeLine) (y4v : Vals [.str "house", .str "part"] wi4.toList) (y4d : wd4 = none)
    (v5 : PySem.W.nsIn K mainGlobals "GOINGS" = some (some (.ref av5)))
    (x5 : K.lookup av5 = some ⟨we5, wd5, .seq wi5 wn5, ws5⟩) (y5t : we5 = .type "tuple") (y5z : wi5.size ≤ sizeLine) (y5v : Vals [.str "card", .str "visit"] wi5.toList) (y5d : wd5 = none)
    (z1 : PySem.W.nsIn K mainGlobals "all" = some none)
    (z2 : PySem.W.nsIn K mainGlobals "int" = some none)
    (z3 : PySem.W.nsIn K mainGlobals "len" = some none)
    (z4 : PySem.W.nsIn K mainGlobals "list" = some none)
    (z5 : PySem.W.nsIn K mainGlobals "min" = some none)
    (z6 : PySem.W.nsIn K mainGlobals "range" = some none)
    (z7 : PySem.W.nsIn K mainGlobals "repr" = some none)
    (z8 : PySem.W.nsIn K mainGlobals "sorted" = some none)
    (z9 : PySem.W.nsIn K mainGlobals "tuple" = some none)
    (z10 : PySem.W.nsIn K mainGlobals "zip" = some none)
    (r4 : (recsOf q).find? (fun e => e.name == ("names_of" : Str)) = some d4)
    (r6 : (recsOf q).find? (fun e => e.name == ("up_to" : Str)) = some d6)
    (r7 : (recsOf q).find? (fun e => e.name == ("can_be_done" : Str)) = some d7)
    (r14 : (recsOf q).find? (fun e => e.name == ("put_for" : Str)) = some d14) :
    GU.LawAtG l w K CX0 9 63 "_law_script" mg fa h := by
  have e := hfa.symm.trans (PySem.W.mg_of X G a36)
  cases e
  have F1 := fun_mk (st := s_weekday) l1 c1 k1
  have F2 := fun_mk (st := s_page_day) l2 c2 k2
  have F3 := fun_mk (st := s_page_kind) l3 c3 k3
  have F4 := GE.funC_mk (st := s_names_of) l4 e4 c4 k4
  have F5 := fun_mk (st := s_page_place) l5 c5 k5
  have F6 := GE.funC_mk (st := s_up_to) l6 e6 c6 k6
  have F7 := GE.funC_mk (st := s_can_be_done) l7 e7 c7 k7
  have F8 := fun_mk (st := s_turn_houses) l8 c8 k8
  have F9 := fun_mk (st := s_add_mourning) l9 c9 k9
  have F10 := fun_mk (st := s_is_mourning) l10 c10 k10
  have F11 := fun_mk (st := s_falls_left) l11 c11 k11
  have F12 := fun_mk (st := s_is_rude) l12 c12 k12
  have F13 := fun_mk (st := s_due_place) l13 c13 k13
  have F14 := GE.funC_mk (st := s_put_for) l14 e14 c14 k14
  have F15 := fun_mk (st := s_staying_place) l15 c15 k15
  have F16 := fun_mk (st := s_made_one) l16 c16 k16
  have F17 := fun_mk (st := s_Walk___init__) l17 c17 k17
  have F18 := fun_mk (st := s_Walk_mourns_on) l18 c18 k18
  have F19 := fun_mk (st := s_Walk_at_home_on) l19 c19 k19
  have F20 := fun_mk (st := s_Walk_do_page) l20 c20 k20
  have F21 := fun_mk (st := s_Walk_go_out) l21 c21 k21
  have F22 := fun_mk (st := s_Walk_part_dues) l22 c22 k22
  have F23 := fun_mk (st := s_Walk_join_dues) l23 c23 k23
  have F24 := fun_mk (st := s_Walk_falls_on) l24 c24 k24
  have F25 := fun_mk (st := s_Walk_end_day) l25 c25 k25
  have F26 := fun_mk (st := s_walked) l26 c26 k26
  have F27 := fun_mk (st := s_dues) l27 c27 k27
  have F28 := fun_mk (st := s_marks) l28 c28 k28
  have F29 := fun_mk (st := s_triple_place) l29 c29 k29
  have F30 := fun_mk (st := s_answered) l30 c30 k30
  have F31 := fun_mk (st := s_w_feed) l31 c31 k31
  have F32 := fun_mk (st := s_w_draw) l32 c32 k32
  have F33 := fun_mk (st := s_w_names) l33 c33 k33
  have F34 := fun_mk (st := s_w_rank) l34 c34 k34
  have F35 := fun_mk (st := s_w_gone) l35 c35 k35
  have F36 := fun_mk (st := s_law) l36 c36 k36
  let T : Tx K mg w := { C_Walk := oC1, gC_Walk := PySem.W.mg_of X G oa1, cl_Walk := ⟨og1, oh1, op1, os1⟩, na_Walk_limits := on1_0, na_Walk_homes := on1_1, na_Walk_mourning := on1_2, na_Walk_known := on1_3, na_Walk_dues := on1_4, na_Walk_marks := on1_5, na_Walk_answers := on1_6, na_Walk_copied := on1_7, na_Walk_struck := on1_8, na_Walk_spare := on1_9, f_weekday := f1, d_weekday := _, F_weekday := F1, g_weekday := PySem.W.mg_of X G a1, b_weekday := (F1.binds fun _ _ _ _ _ _ us hl => match us, hl with | [_], _ => rfl), f_page_day := f2, d_page_day := _, F_page_day := F2, g_page_day := PySem.W.mg_of X G a2, b_page_day := (F2.binds fun _ _ _ _ _ _ us hl => match us, hl with | [_], _ => rfl), f_page_kind := f3, d_page_kind := _, F_page_kind := F3, g_page_kind := PySem.W.mg_of X G a3, b_page_kind := (F3.binds fun _ _ _ _ _ _ us hl => match us, hl with | [_], _ => rfl), k_names_of := q4, P_names_of := P4, f_names_of := f4, d_names_of := _, F_names_of := F4, g_names_of := PySem.W.mg_of X G a4, b_names_of := (F4.toFun.binds fun _ _ _ _ _ _ us hl => match us, hl with | [_], _ => rfl), f_page_place := f5, d_page_place := _, F_page_place := F5, g_page_place := PySem.W.mg_of X G a5, b_page_place := (F5.binds fun _ _ _ _ _ _ us hl => match us, hl with | [_], _ => rfl), k_up_to := q6, P_up_to := P6, f_up_to := f6, d_up_to := _, F_up_to := F6, g_up_to := PySem.W.mg_of X G a6, b_up_to := (F6.toFun.binds fun _ _ _ _ _ _ us hl => match us, hl with | [_, _], _ => rfl), k_can_be_done := q7, P_can_be_done := P7, f_can_be_done := f7, d_can_be_done := _, F_can_be_done := F7, g_can_be_done := PySem.W.mg_of X G a7, b_can_be_done := (F7.toFun.binds fun _ _ _ _ _ _ us hl => match us, hl with | [_, _, _], _ => rfl), f_turn_houses := f8, d_turn_houses := _, F_turn_houses := F8, g_turn_houses := PySem.W.mg_of X G a8, b_turn_houses := (F8.binds fun _ _ _ _ _ _ us hl => match us, hl with | [_, _, _], _ => rfl), f_add_mourning := f9, d_add_mourning := _, F_add_mourning := F9, g_add_mourning := PySem.W.mg_of X G a9, b_add_mourning := (F9.binds fun _ _ _ _ _ _ us hl => match us, hl with | [_, _], _ => rfl), f_is_mourning := f10, d_is_mourning := _, F_is_mourning := F10, g_is_mourning := PySem.W.mg_of X G a10, b_is_mourning := (F10.binds fun _ _ _ _ _ _ us hl => match us, hl with | [_, _, _], _ => rfl), f_falls_left := f11, d_falls_left := _, F_falls_left := F11, g_falls_left := PySem.W.mg_of X G a11, b_falls_left := (F11.binds fun _ _ _ _ _ _ us hl => match us, hl with | [_, _], _ => rfl), f_is_rude := f12, d_is_rude := _, F_is_rude := F12, g_is_rude := PySem.W.mg_of X G a12, b_is_rude := (F12.binds fun _ _ _ _ _ _ us hl => match us, hl with | [_, _], _ => rfl), f_due_place := f13, d_due_place := _, F_due_place := F13, g_due_place := PySem.W.mg_of X G a13, b_due_place := (F13.binds fun _ _ _ _ _ _ us hl => match us, hl with | [_], _ => rfl), k_put_for := q14, P_put_for := P14, f_put_for := f14, d_put_for := _, F_put_for := F14, g_put_for := PySem.W.mg_of X G a14, b_put_for := (F14.toFun.binds fun _ _ _ _ _ _ us hl => match us, hl with | [_, _, _], _ => rfl), f_staying_place := f15, d_staying_place := _, F_staying_place := F15, g_staying_place := PySem.W.mg_of X G a15, b_staying_place := (F15.binds fun _ _ _ _ _ _ us hl => match us, hl with | [_], _ => rfl), f_made_one := f16, d_made_one := _, F_made_one := F16, g_made_one := PySem.W.mg_of X G a16, b_made_one := (F16.binds fun _ _ _ _ _ _ us hl => match us, hl with | [_], _ => rfl), f_Walk___init__ := f17, d_Walk___init__ := _, F_Walk___init__ := F17, mk_Walk := ⟨om1, a17, i17, ok1⟩, b_Walk___init__ := (F17.binds fun _ _ _ _ _ _ us hl => match us, hl with | [_, _], _ => rfl), f_Walk_mourns_on := f18, d_Walk_mourns_on := _, F_Walk_mourns_on := F18, me_Walk_mourns_on := ⟨a18, i18, k18⟩, b_Walk_mourns_on := (F18.binds fun _ _ _ _ _ _ us hl => match us, hl with | [_, _, _], _ => rfl), f_Walk_at_home_on := f19, d_Walk_at_home_on := _, F_Walk_at_home_on := F19, me_Walk_at_home_on := ⟨a19, i19, k19⟩, b_Walk_at_home_on := (F19.binds fun _ _ _ _ _ _ us hl => match us, hl with | [_, _, _], _ => rfl), f_Walk_do_page := f20, d_Walk_do_page := _, F_Walk_do_page := F20, me_Walk_do_page := ⟨a20, i20, k20⟩, b_Walk_do_page := (F20.binds fun _ _ _ _ _ _ us hl => match us, hl with | [_, _], _ => rfl), f_Walk_go_out := f21, d_Walk_go_out := _, F_Walk_go_out := F21, me_Walk_go_out := ⟨a21, i21, k21⟩, b_Walk_go_out := (F21.binds fun _ _ _ _ _ _ us hl => match us, hl with | [_, _], _ => rfl), f_Walk_part_dues := f22, d_Walk_part_dues := _, F_Walk_part_dues := F22, me_Walk_part_dues := ⟨a22, i22, k22⟩, b_Walk_part_dues := (F22.binds fun _ _ _ _ _ _ us hl => match us, hl with | [_, _], _ => rfl), f_Walk_join_dues := f23, d_Walk_join_dues := _, F_Walk_join_dues := F23, me_Walk_join_dues := ⟨a23, i23, k23⟩, b_Walk_join_dues := (F23.binds fun _ _ _ _ _ _ us hl => match us, hl with | [_, _], _ => rfl), f_Walk_falls_on := f24, d_Walk_falls_on := _, F_Walk_falls_on := F24, me_Walk_falls_on := ⟨a24, i24, k24⟩, b_Walk_falls_on := (F24.binds fun _ _ _ _ _ _ us hl => match us, hl with | [_, _, _], _ => rfl), f_Walk_end_day := f25, d_Walk_end_day := _, F_Walk_end_day := F25, me_Walk_end_day := ⟨a25, i25, k25⟩, b_Walk_end_day := (F25.binds fun _ _ _ _ _ _ us hl => match us, hl with | [_, _], _ => rfl), f_walked := f26, d_walked := _, F_walked := F26, g_walked := PySem.W.mg_of X G a26, b_walked := (F26.binds fun _ _ _ _ _ _ us hl => match us, hl with | [_, _, _], _ => rfl), f_dues := f27, d_dues := _, F_dues := F27, g_dues := PySem.W.mg_of X G a27, b_dues := (F27.binds fun _ _ _ _ _ _ us hl => match us, hl with | [_, _, _], _ => rfl), f_marks := f28, d_marks := _, F_marks := F28, g_marks := PySem.W.mg_of X G a28, b_marks := (F28.binds fun _ _ _ _ _ _ us hl => match us, hl with | [_, _, _], _ => rfl), f_triple_place := f29, d_triple_place := _, F_triple_place := F29, g_triple_place := PySem.W.mg_of X G a29, b_triple_place := (F29.binds fun _ _ _ _ _ _ us hl => match us, hl with | [_], _ => rfl), f_answered := f30, d_answered := _, F_answered := F30, g_answered := PySem.W.mg_of X G a30, b_answered := (F30.binds fun _ _ _ _ _ _ us hl => match us, hl with | [_, _, _], _ => rfl), f_w_feed := f31, d_w_feed := _, F_w_feed := F31, g_w_feed := PySem.W.mg_of X G a31, b_w_feed := (F31.binds fun _ _ _ _ _ _ us hl => match us, hl with | [_], _ => rfl), f_w_draw := f32, d_w_draw := _, F_w_draw := F32, g_w_draw := PySem.W.mg_of X G a32, b_w_draw := (F32.binds fun _ _ _ _ _ _ us hl => match us, hl with | [_, _], _ => rfl), f_w_names := f33, d_w_names := _, F_w_names := F33, g_w_names := PySem.W.mg_of X G a33, b_w_names := (F33.binds fun _ _ _ _ _ _ us hl => match us, hl with | [_], _ => rfl), f_w_rank := f34, d_w_rank := _, F_w_rank := F34, g_w_rank := PySem.W.mg_of X G a34, b_w_rank := (F34.binds fun _ _ _ _ _ _ us hl => match us, hl with | [_], _ => rfl), f_w_gone := f35, d_w_gone := _, F_w_gone := F35, g_w_gone := PySem.W.mg_of X G a35, b_w_gone := (F35.binds fun _ _ _ _ _ _ us hl => match us, hl with | [_, _, _, _, _], _ => rfl), f_law := fa, d_law := _, F_law := F36, g_law := PySem.W.mg_of X G a36, b_law := (F36.binds fun _ _ _ _ _ _ us hl => match us, hl with | [_], _ => rfl), t_WEEK := tk1, c_WEEK := PySem.W.mg_of X G v1, a_KINDS := av2, c_KINDS := PySem.W.mg_of X G v2, w_KINDS := ⟨_, _, _, x2, y2t, rfl, y2z, y2v⟩, wn_KINDS := ⟨_, x2, y2t, y2d⟩, a_FORMS := av3, c_FORMS := PySem.W.mg_of X G v3, w_FORMS_house := ⟨r3_0, ⟨_, _, _, x3, x3k, n3_0d, rfl⟩, ⟨_, _, _, x3_0, y3_0t, rfl, y3_0z, y3_0v⟩⟩, w_FORMS_part := ⟨r3_1, ⟨_, _, _, x3, x3k, n3_1d, rfl⟩, ⟨_, _, _, x3_1, y3_1t, rfl, y3_1z, y3_1v⟩⟩, w_FORMS_join := ⟨r3_2, ⟨_, _, _, x3, x3k, n3_2d, rfl⟩, ⟨_, _, _, x3_2, y3_2t, rfl, y3_2z, y3_2v⟩⟩, w_FORMS_home := ⟨r3_3, ⟨_, _, _, x3, x3k, n3_3d, rfl⟩, ⟨_, _, _, x3_3, y3_3t, rfl, y3_3z, y3_3v⟩⟩, w_FORMS_mourn := ⟨r3_4, ⟨_, _, _, x3, x3k, n3_4d, rfl⟩, ⟨_, _, _, x3_4, y3_4t, rfl, y3_4z, y3_4v⟩⟩, w_FORMS_ahead := ⟨r3_5, ⟨_, _, _, x3, x3k, n3_5d, rfl⟩, ⟨_, _, _, x3_5, y3_5t, rfl, y3_5z, y3_5v⟩⟩, w_FORMS_card := ⟨r3_6, ⟨_, _, _, x3, x3k, n3_6d, rfl⟩, ⟨_, _, _, x3_6, y3_6t, rfl, y3_6z, y3_6v⟩⟩, w_FORMS_visit := ⟨r3_7, ⟨_, _, _, x3, x3k, n3_7d, rfl⟩, ⟨_, _, _, x3_7, y3_7t, rfl, y3_7z, y3_7v⟩⟩, a_COMING := av4, c_COMING := PySem.W.mg_of X G v4, w_COMING := ⟨_, _, _, x4, y4t, rfl, y4z, y4v⟩, wn_COMING := ⟨_, x4, y4t, y4d⟩, a_GOINGS := av5, c_GOINGS := PySem.W.mg_of X G v5, w_GOINGS := ⟨_, _, _, x5, y5t, rfl, y5z, y5v⟩, wn_GOINGS := ⟨_, x5, y5t, y5d⟩, m_all := PySem.W.mg_none_of X G z1, m_int := PySem.W.mg_none_of X G z2, m_len := PySem.W.mg_none_of X G z3, m_list := PySem.W.mg_none_of X G z4, m_min := PySem.W.mg_none_of X G z5, m_range := PySem.W.mg_none_of X G z6, m_repr := PySem.W.mg_none_of X G z7, m_sorted := PySem.W.mg_none_of X G z8, m_tuple := PySem.W.mg_none_of X G z9, m_zip := PySem.W.mg_none_of X G z10 }
  have h4 := tabs "names_of" _ _ _ r4 (GE.tabIn_of a4 l4 e4 u4 v4t)
  have h6 := tabs "up_to" _ _ _ r6 (GE.tabIn_of a6 l6 e6 u6 v6t)
  have h7 := tabs "can_be_done" _ _ _ r7 (GE.tabIn_of a7 l7 e7 u7 v7t)
  have h14 := tabs "put_for" _ _ _ r14 (GE.tabIn_of a14 l14 e14 u14 v14t)
  have B0 : ∀ base : Heap, (∀ p ∈ [(q4, P4), (q6, P6), (q7, P7), (q14, P14)], LamX.TabB base mg p.1 p.2) → Tb T base := fun base hb => ⟨GE.tabB (hb (q4, P4) (by simp)), GE.tabB (hb (q6, P6) (by simp)), GE.tabB (hb (q7, P7) (by simp)), GE.tabB (hb (q14, P14) (by simp))⟩
  refine ⟨_, [(q4, P4), (q6, P6), (q7, P7), (q14, P14)], spLaw T, fun p hp => by
      simp only [List.mem_cons, List.not_mem_nil, or_false] at hp
      rcases hp with rfl | rfl | rfl | rfl
      · exact h4.2
      · exact h6.2
      · exact h7.2
      · exact h14.2, fun p hp => by
      simp only [List.mem_cons, List.not_mem_nil, or_false] at hp
      rcases hp with rfl | rfl | rfl | rfl
      · exact n4
      · exact n6
      · exact n7
      · exact n14, fun p hp => by
      simp only [List.mem_cons, List.not_mem_nil, or_false] at hp
      rcases hp with rfl | rfl | rfl | rfl
      · exact h4.1
      · exact h6.1
      · exact h7.1
      · exact h14.1, fun s v => .of_eq rfl, fun H a ns hl hH hS => ⟨a, ns, rfl, hS, hl, fun p hp => ⟨#[], ?_, ?_⟩, fun _ => rfl⟩, fun base _ _ hb => ok_law T (B0 base hb)⟩
  · have hp : p ∈ ([(q4, P4), (q6, P6), (q7, P7), (q14, P14)]).map (·.2) := hp
    obtain ⟨z, hz, e⟩ := List.mem_map.mp hp
    rw [← e]; exact hH z hz
  · exact True.intro
end L20
open PySem PySem.W PyProof.Rows
set_option maxHeartbeats 0 in
theorem PySem.Challenge.cw_cardsback_k20_visits_answer_several_holds : PySem.Challenge.rw_cardsback_k20_visits_answer_several.Holds := by
  w_on; o_law; k_head; (case hw => w_witness2)
  k_fill
  refine GU.walk_G (l := PySem.Challenge.rw_cardsback_k20_visits_answer_several) (n := 63) (k := 9) (x := "_law_script") (CX := fun _ => L2.CX0) rfl (by decide) rfl ⟨rfl, by decide, by decide⟩ (fun w h Y => PySem.W.kIn_of Y) ?F (fun _ _ _ _ _ h => h)
  case F =>
    intro w mg fa h KX G hmg tabs
    refine' L20.all_mk KX G hmg tabs ?oa1 ?og1 ?oh1 ?op1 ?os1 ?om1 ?ok1 ?on1_0 ?on1_1 ?on1_2 ?on1_3 ?on1_4 ?on1_5 ?on1_6 ?on1_7 ?on1_8 ?on1_9 ?a1 ?l1 ?c1 ?k1 ?a2 ?l2 ?c2 ?k2 ?a3 ?l3 ?c3 ?k3 ?a4 ?l4 ?c4 ?k4 ?e4 ?u4 ?v4t ?n4 ?a5 ?l5 ?c5 ?k5 ?a6 ?l6 ?c6 ?k6 ?e6 ?u6 ?v6t ?n6 ?a7 ?l7 ?c7 ?k7 ?e7 ?u7 ?v7t ?n7 ?a8 ?l8 ?c8 ?k8 ?a9 ?l9 ?c9 ?k9 ?a10 ?l10 ?c10 ?k10 ?a11 ?l11 ?c11 ?k11 ?a12 ?l12 ?c12 ?k12 ?a13 ?l13 ?c13 ?k13 ?a14 ?l14 ?c14 ?k14 ?e14 ?u14 ?v14t ?n14 ?a15 ?l15 ?c15 ?k15 ?a16 ?l16 ?c16 ?k16 ?a17 ?i17 ?l17 ?c17 ?k17 ?a18 ?i18 ?l18 ?c18 ?k18 ?a19 ?i19 ?l19 ?c19 ?k19 ?a20 ?i20 ?l20 ?c20 ?k20 ?a21 ?i21 ?l21 ?c21 ?k21 ?a22 ?i22 ?l22 ?c22 ?k22 ?a23 ?i23 ?l23 ?c23 ?k23 ?a24 ?i24 ?l24 ?c24 ?k24 ?a25 ?i25 ?l25 ?c25 ?k25 ?a26 ?l26 ?c26 ?k26 ?a27 ?l27 ?c27 ?k27 ?a28 ?l28 ?c28 ?k28 ?a29 ?l29 ?c29 ?k29 ?a30 ?l30 ?c30 ?k30 ?a31 ?l31 ?c31 ?k31 ?a32 ?l32 ?c32 ?k32 ?a33 ?l33 ?c33 ?k33 ?a34 ?l34 ?c34 ?k34 ?a35 ?l35 ?c35 ?k35 ?a36 ?l36 ?c36 ?k36 ?v1 ?v2 ?x2 ?y2t ?y2z ?y2v ?y2d ?v3 ?x3 ?x3k ?n3_0d ?x3_0 ?y3_0t ?y3_0z ?y3_0v ?n3_1d ?x3_1 ?y3_1t ?y3_1z ?y3_1v ?n3_2d ?x3_2 ?y3_2t ?y3_2z ?y3_2v ?n3_3d ?x3_3 ?y3_3t ?y3_3z ?y3_3v ?n3_4d ?x3_4 ?y3_4t ?y3_4z ?y3_4v ?n3_5d ?x3_5 ?y3_5t ?y3_5z ?y3_5v ?n3_6d ?x3_6 ?y3_6t ?y3_6z ?y3_6v ?n3_7d ?x3_7 ?y3_7t ?y3_7z ?y3_7v ?v4 ?x4 ?y4t ?y4z ?y4v ?y4d ?v5 ?x5 ?y5t ?y5z ?y5v ?y5d ?z1 ?z2 ?z3 ?z4 ?z5 ?z6 ?z7 ?z8 ?z9 ?z10 ?r4 ?r6 ?r7 ?r14
    (case oa1 => k_is); (case og1 => k_is); (case oh1 => k_is); (case op1 => k_is); (case os1 => k_is); (case om1 => k_is); (case ok1 => k_is); (case on1_0 => k_is); (case on1_1 => k_is); (case on1_2 => k_is); (case on1_3 => k_is); (case on1_4 => k_is); (case on1_5 => k_is); (case on1_6 => k_is); (case on1_7 => k_is); (case on1_8 => k_is); (case on1_9 => k_is); (case a1 => k_is); (case l1 => k_is); (case c1 => k_is); (case k1 => k_is); (case a2 => k_is); (case l2 => k_is); (case c2 => k_is); (case k2 => k_is); (case a3 => k_is); (case l3 => k_is); (case c3 => k_is); (case k3 => k_is); (case a4 => k_is); (case l4 => k_is); (case c4 => k_is); (case k4 => k_is); (case e4 => rfl); (case u4 => k_is); (case v4t => rfl); (case n4 => first | kernel_rfl | rfl | with_unfolding_all rfl); (case a5 => k_is); (case l5 => k_is); (case c5 => k_is); (case k5 => k_is); (case a6 => k_is); (case l6 => k_is); (case c6 => k_is); (case k6 => k_is); (case e6 => rfl); (case u6 => k_is); (case v6t => rfl); (case n6 => first | kernel_rfl | rfl | with_unfolding_all rfl); (case a7 => k_is); (case l7 => k_is); (case c7 => k_is); (case k7 => k_is); (case e7 => rfl); (case u7 => k_is); (case v7t => rfl); (case n7 => first | kernel_rfl | rfl | with_unfolding_all rfl); (case a8 => k_is); (case l8 => k_is); (case c8 => k_is); (case k8 => k_is); (case a9 => k_is); (case l9 => k_is); (case c9 => k_is); (case k9 => k_is); (case a10 => k_is); (case l10 => k_is); (case c10 => k_is); (case k10 => k_is); (case a11 => k_is); (case l11 => k_is); (case c11 => k_is); (case k11 => k_is); (case a12 => k_is); (case l12 => k_is); (case c12 => k_is); (case k12 => k_is); (case a13 => k_is); (case l13 => k_is); (case c13 => k_is); (case k13 => k_is); (case a14 => k_is); (case l14 => k_is); (case c14 => k_is); (case k14 => k_is); (case e14 => rfl); (case u14 => k_is); (case v14t => rfl); (case n14 => first | kernel_rfl | rfl | with_unfolding_all rfl); (case a15 => k_is); (case l15 => k_is); (case c15 => k_is); (case k15 => k_is); (case a16 => k_is); (case l16 => k_is); (case c16 => k_is); (case k16 => k_is); (case a17 => k_is); (case i17 => k_is); (case l17 => k_is); (case c17 => k_is); (case k17 => k_is); (case a18 => k_is); (case i18 => k_is); (case l18 => k_is); (case c18 => k_is); (case k18 => k_is); (case a19 => k_is); (case i19 => k_is); (case l19 => k_is); (case c19 => k_is); (case k19 => k_is); (case a20 => k_is); (case i20 => k_is); (case l20 => k_is); (case c20 => k_is); (case k20 => k_is); (case a21 => k_is); (case i21 => k_is); (case l21 => k_is); (case c21 => k_is); (case k21 => k_is); (case a22 => k_is); (case i22 => k_is); (case l22 => k_is); (case c22 => k_is); (case k22 => k_is); (case a23 => k_is); (case i23 => k_is); (case l23 => k_is); (case c23 => k_is); (case k23 => k_is); (case a24 => k_is); (case i24 => k_is); (case l24 => k_is); (case c24 => k_is); (case k24 => k_is); (case a25 => k_is); (case i25 => k_is); (case l25 => k_is); (case c25 => k_is); (case k25 => k_is); (case a26 => k_is); (case l26 => k_is); (case c26 => k_is); (case k26 => k_is); (case a27 => k_is); (case l27 => k_is); (case c27 => k_is); (case k27 => k_is); (case a28 => k_is); (case l28 => k_is); (case c28 => k_is); (case k28 => k_is); (case a29 => k_is); (case l29 => k_is); (case c29 => k_is); (case k29 => k_is); (case a30 => k_is); (case l30 => k_is); (case c30 => k_is); (case k30 => k_is); (case a31 => k_is); (case l31 => k_is); (case c31 => k_is); (case k31 => k_is); (case a32 => k_is); (case l32 => k_is); (case c32 => k_is); (case k32 => k_is); (case a33 => k_is); (case l33 => k_is); (case c33 => k_is); (case k33 => k_is); (case a34 => k_is); (case l34 => k_is); (case c34 => k_is); (case k34 => k_is); (case a35 => k_is); (case l35 => k_is); (case c35 => k_is); (case k35 => k_is); (case a36 => k_is); (case l36 => k_is); (case c36 => k_is); (case k36 => k_is); (case v1 => k_is); (case v2 => k_is); (case x2 => k_is); (case y2t => rfl); (case y2z => decide +kernel); (case y2v => repeat (first | exact .nil | refine .cons ⟨_, rfl⟩ ?_)); (case y2d => rfl); (case v3 => k_is); (case x3 => k_is); (case x3k => repeat (first | exact True.intro | refine ⟨⟨_, _, rfl, rfl⟩, ?_⟩)); (case n3_0d => k_is); (case x3_0 => k_is); (case y3_0t => rfl); (case y3_0z => decide +kernel); (case y3_0v => repeat (first | exact .nil | refine .cons ⟨_, rfl⟩ ?_)); (case n3_1d => k_is); (case x3_1 => k_is); (case y3_1t => rfl); (case y3_1z => decide +kernel); (case y3_1v => repeat (first | exact .nil | refine .cons ⟨_, rfl⟩ ?_)); (case n3_2d => k_is); (case x3_2 => k_is); (case y3_2t => rfl); (case y3_2z => decide +kernel); (case y3_2v => repeat (first | exact .nil | refine .cons ⟨_, rfl⟩ ?_)); (case n3_3d => k_is); (case x3_3 => k_is); (case y3_3t => rfl); (case y3_3z => decide +kernel); (case y3_3v => repeat (first | exact .nil | refine .cons ⟨_, rfl⟩ ?_)); (case n3_4d => k_is); (case x3_4 => k_is); (case y3_4t => rfl); (case y3_4z => decide +kernel); (case y3_4v => repeat (first | exact .nil | refine .cons ⟨_, rfl⟩ ?_)); (case n3_5d => k_is); (case x3_5 => k_is); (case y3_5t => rfl); (case y3_5z => decide +kernel); (case y3_5v => repeat (first | exact .nil | refine .cons ⟨_, rfl⟩ ?_)); (case n3_6d => k_is); (case x3_6 => k_is); (case y3_6t => rfl); (case y3_6z => decide +kernel); (case y3_6v => repeat (first | exact .nil | refine .cons ⟨_, rfl⟩ ?_)); (case n3_7d => k_is); (case x3_7 => k_is); (case y3_7t => rfl); (case y3_7z => decide +kernel); (case y3_7v => repeat (first | exact .nil | refine .cons ⟨_, rfl⟩ ?_)); (case v4 => k_is); (case x4 => k_is); (case y4t => rfl); (case y4z => decide +kernel); (case y4v => repeat (first | exact .nil | refine .cons ⟨_, rfl⟩ ?_)); (case y4d => rfl); (case v5 => k_is); (case x5 => k_is); (case y5t => rfl); (case y5z => decide +kernel); (case y5v => repeat (first | exact .nil | refine .cons ⟨_, rfl⟩ ?_)); (case y5d => rfl); (case z1 => k_is); (case z2 => k_is); (case z3 => k_is); (case z4 => k_is); (case z5 => k_is); (case z6 => k_is); (case z7 => k_is); (case z8 => k_is); (case z9 => k_is); (case z10 => k_is); (case r4 => rfl); (case r6 => rfl); (case r7 => rfl); (case r14 => rfl)
