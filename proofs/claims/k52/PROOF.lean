import PyProof.Rows.All
import Wide.All
import OpenK.AllK
import Wide.FinOn
import HandS.ForMost
import HandS.IsInst
import HandS.TupLe
import HandS.Flow
import HandS.GenList
import HandS.AnyAll
import HandS.EndTab
import HandS.Walk
import HandS.TupAny
import HandS.Rev
import HandS.Zip
import HandS.More
import KE.KeyNested
import KE.KDictKeyed
import KE.LtData
import KE.SortKeyHeap
import HandS.SortKw
import HandS.Keys
import KE.KDictWalk
import KE.KDictSum
import HandS.DictComp
import HandS.Lambda
import HandS.ExcInit
import HandS.ExcField
import HandS.ExcIs
import HandS.ExcOwn
import HandS.WordsExc
import HandS.Strs
import PyProof.NeKinds
import HandS.TupSets
import KE.SortCalls
import PyProof.Rows.SortKeyStr
import HandS.SetBool
import HandS.Replace
import HandS.Text
import PySem.Challenge.RW_cardsback_k52_whole_ranks_while_houses_j
import KE.SortData
import PyProof.SetRoads
import HandS.Style
import HandS.SetFor
import HandS.TryOnly
set_option Elab.async false
set_option linter.all false
set_option maxRecDepth 100000
/-! My own words for these laws: the tap, kept heaps, repr of flat things. -/
namespace My
open PySem PySem.Spec PyProof.Rows L2
/-! ### heaps -/
/-- all but t is as it was -/
def Kp (t : Addr) (H H' : Hp) : Prop := ∀ b o, b ≠ t → H b = some o → H' b = some o
theorem Kp.refl (t : Addr) (H : Hp) : Kp t H H := fun _ _ _ h => h
theorem Kp.trans {t : Addr} {H H1 H2 : Hp} (a : Kp t H H1) (b : Kp t H1 H2) : Kp t H H2 := fun c o n h => b c o n (a c o n h)
theorem Kp.own {t : Addr} {H H1 : Hp} {o : HO} (a : Kp t H H1) : Kp t H (upd H1 t o) := fun b x n h => by rw [upd_ne n]; exact a b x n h
theorem Kp.new {t p : Addr} {H H1 : Hp} {o : HO} (a : Kp t H H1) (hp : H1 p = none) : Kp t H (upd H1 p o) := fun b x n h => by
  have h1 := a b x n h
  rw [upd_ne (ne_of_none h1 hp)]
  exact h1
theorem Kp.of_same {t : Addr} {H H1 : Hp} (a : Same H H1) : Kp t H H1 := fun b o _ h => a b o h
theorem same_upd {H : Hp} {p : Addr} {o : HO} (h : H p = none) : Same H (upd H p o) := fun b x e => by
  rw [upd_ne (ne_of_none e h)]
  exact e
theorem upd_upd' {H : Hp} {p : Addr} {a b : HO} : upd (upd H p a) p b = upd H p b := by
  funext x
  unfold upd
  by_cases h : x = p <;> simp [h]
theorem upd_comm' {H : Hp} {p r : Addr} {a b : HO} (n : p ≠ r) : upd (upd H p a) r b = upd (upd H r b) p a := by
  funext x
  unfold upd
  by_cases h : x = p
  · by_cases k : x = r
    · exact absurd (h.symm.trans k) n
    · simp [h, n]
  · by_cases k : x = r
    · simp [k, n.symm]
    · simp [h, k]
theorem upd_free {H : Hp} {p x : Addr} {o : HO} (e : upd H p o x = none) : x ≠ p ∧ H x = none := by
  by_cases h : x = p
  · rw [h, upd_same] at e
    cases e
  · rw [upd_ne h] at e
    exact ⟨h, e⟩
theorem sz {n : Nat} (h : n ≤ 1000) : n ≤ sizeLine := Nat.le_of_lt (small1000 h)
theorem tYesT {σ : L2.St} {H : Hp} {A B : Hp → Prop} (h : A H) : tYes σ H (fun b H3 => if b = true then A H3 else B H3) := by
  show if true = true then A H else B H
  exact iteT h
/-! ### the tap -/
def kt (c s r n : V) : List (Key × V) := [(.inr "cells", c), (.inr "spot", s), (.inr "rest", r), (.inr "calls", n)]
theorem kt_cells (c s r n : V) : valV (kt c s r n) (.inr "cells") = some c := rfl
theorem kt_spot (c s r n : V) : valV (kt c s r n) (.inr "spot") = some s := rfl
theorem kt_rest (c s r n : V) : valV (kt c s r n) (.inr "rest") = some r := rfl
theorem kt_calls (c s r n : V) : valV (kt c s r n) (.inr "calls") = some n := rfl
theorem put_spot (c s r n v : V) : putK (kt c s r n) (.inr "spot") v = kt c v r n := rfl
theorem put_rest (c s r n v : V) : putK (kt c s r n) (.inr "rest") v = kt c s v n := rfl
theorem put_calls (c s r n v : V) : putK (kt c s r n) (.inr "calls") v = kt c s r v := rfl
theorem kt_len (c s r n : V) : (kt c s r n).length < sizeLine := small1000 (by show 4 ≤ 1000; decide)
theorem g_cells {H : Hp} {t : Addr} {c s r n : V} (h : H t = some (.dK (kt c s r n))) : DGet H t (.str "cells") (some c) := DGet.k (k := .inr "cells") h
theorem g_spot {H : Hp} {t : Addr} {c s r n : V} (h : H t = some (.dK (kt c s r n))) : DGet H t (.str "spot") (some s) := DGet.k (k := .inr "spot") h
theorem g_rest {H : Hp} {t : Addr} {c s r n : V} (h : H t = some (.dK (kt c s r n))) : DGet H t (.str "rest") (some r) := DGet.k (k := .inr "rest") h
theorem g_calls {H : Hp} {t : Addr} {c s r n : V} (h : H t = some (.dK (kt c s r n))) : DGet H t (.str "calls") (some n) := DGet.k (k := .inr "calls") h
theorem p_spot {H : Hp} {t : Addr} {c s r n v : V} (h : H t = some (.dK (kt c s r n))) : DPut H t (.str "spot") v (upd H t (.dK (kt c v r n))) := DPut.k (k := .inr "spot") h (kt_len _ _ _ _)
theorem p_rest {H : Hp} {t : Addr} {c s r n v : V} (h : H t = some (.dK (kt c s r n))) : DPut H t (.str "rest") v (upd H t (.dK (kt c s v n))) := DPut.k (k := .inr "rest") h (kt_len _ _ _ _)
theorem p_calls {H : Hp} {t : Addr} {c s r n v : V} (h : H t = some (.dK (kt c s r n))) : DPut H t (.str "calls") v (upd H t (.dK (kt c s r v))) := DPut.k (k := .inr "calls") h (kt_len _ _ _ _)
/-- a tap at t that was asked at most n times -/
def Tap (H : Hp) (t : Addr) (n : Nat) : Prop := ∃ (c : Addr) (ns : List Int) (sp re ca : Int),
  H t = some (.dK (kt (.ref c) (.int sp) (.int re) (.int ca))) ∧ H c = some (.lst (ns.map V.int)) ∧ ns.length ≤ 63 ∧ 0 ≤ sp ∧ 0 ≤ re ∧ 0 ≤ ca ∧ ca ≤ n
theorem Tap.mono {H : Hp} {t : Addr} {n m : Nat} (h : Tap H t n) (le : n ≤ m) : Tap H t m := by
  obtain ⟨c, ns, sp, re, ca, h1, h2, h3, h4, h5, h6, h7⟩ := h
  exact ⟨c, ns, sp, re, ca, h1, h2, h3, h4, h5, h6, by omega⟩
theorem Tap.same {H H' : Hp} {t : Addr} {n : Nat} (h : Tap H t n) (s : Same H H') : Tap H' t n := by
  obtain ⟨c, ns, sp, re, ca, h1, h2, h3⟩ := h
  exact ⟨c, ns, sp, re, ca, s _ _ h1, s _ _ h2, h3⟩
theorem Tap.new {H : Hp} {t p : Addr} {o : HO} {n : Nat} (h : Tap H t n) (hp : H p = none) : Tap (upd H p o) t n := h.same (same_upd hp)
theorem Tap.ne {H : Hp} {t p : Addr} {n : Nat} (h : Tap H t n) (hp : H p = none) : p ≠ t := fun z => by
  obtain ⟨c, ns, sp, re, ca, h1, _⟩ := h
  rw [z, h1] at hp
  cases hp
theorem Tap.upd_other {H : Hp} {t p : Addr} {o o' : HO} {n : Nat} (h : Tap H t n) (hp : H p = some o) (h1 : ∀ x, o ≠ .dK x) (h2 : ∀ x : List Int, o ≠ .lst (x.map V.int)) : Tap (upd H p o') t n := by
  obtain ⟨c, ns, sp, re, ca, e1, e2, h3⟩ := h
  refine ⟨c, ns, sp, re, ca, ?_, ?_, h3⟩
  · rw [upd_ne]
    · exact e1
    · intro z
      rw [z, hp] at e1
      exact h1 _ (Option.some.inj e1)
  · rw [upd_ne]
    · exact e2
    · intro z
      rw [z, hp] at e2
      exact h2 _ (Option.some.inj e2)
/-- the promise of the tap's draw -/
def spTake : Sp := fun vs H Q _ => ∃ (t : Addr) (m : Int) (n : Nat), vs = [.ref t, .int m] ∧ 0 < m ∧ m < 1000000 ∧ Tap H t n ∧ n < 1000000 ∧
  ∀ v H', 0 ≤ v → v < m → Tap H' t (n + 1) → Kp t H H' → Q (.int v) H'
def spTap (K : PySem.W.Frag) : Sp := fun vs H Q _ => ∃ (a : Addr) (ns : List Int), vs = [.ref a] ∧ SqL K H a (ns.map V.int) ∧
  ∀ t H', Same H H' → H t = none → Tap H' t 0 → Q (.ref t) H'
theorem pow5 (x : Int) (h0 : 0 ≤ x) (h1 : x < 2 ^ 60) : CPow x 5 := ⟨by decide, by decide, by omega⟩
theorem pow5b (y c : Int) (h0 : 0 ≤ c) (h1 : c ≤ 1000000) : CPow (y % 2147483647 + 4099 * c * c) 5 := by
  have a : 0 ≤ 4099 * c * c := Int.mul_nonneg (by omega) h0
  have b : 4099 * c * c ≤ 4099000000 * 1000000 := Int.mul_le_mul (by omega) h1 h0 (by omega)
  exact pow5 _ (by omega) (by omega)
/-! ### repr of flat things -/
def showF : V → Str
  | .non => "None"
  | .bl b => if b then "True" else "False"
  | .int i => toString i
  | _ => ""
def smallV : V → Prop
  | .non => True
  | .bl _ => True
  | .int i => i.natAbs.log2 < 1920
  | _ => False
section
variable {X : Cx}
theorem call_reprF : CallR X (.builtin "repr") (fun xs H Q => ∃ v, xs = [v] ∧ smallV v ∧ Q (.str (showF v)) H) := by
  intro pins s σ H xs us Q I r h
  obtain ⟨v, rfl, hz, q⟩ := h
  obtain ⟨u, rfl, ru⟩ := vals1 r
  cases v with
  | non => cases ru; exact PySem.P.repr_of_none ⟨.str _, H, I.tok _, ⟨_, rfl⟩, q⟩
  | bl b => cases ru; exact PySem.P.repr_of_bool ⟨.str _, H, I.tok _, ⟨_, rfl⟩, q⟩
  | int i =>
    obtain ⟨t, rfl⟩ := ru
    exact PySem.P.repr_of_int hz ⟨.str _, H, I.tok _, ⟨_, rfl⟩, q⟩
  | _ => exact hz.elim
end
theorem small_nat {i : Int} (h0 : -1000000 < i) (h1 : i < 1000000) : i.natAbs.log2 < 1920 := by
  by_cases z : i.natAbs = 0
  · rw [z]; decide
  · refine Nat.lt_of_lt_of_le ((Nat.log2_lt z).mpr (show i.natAbs < 2 ^ 20 by omega)) (by decide)
end My

set_option Elab.async false
set_option linter.all false
set_option maxRecDepth 100000
set_option maxHeartbeats 2000000
/-! My own rule for all(..) and any(..) of a generator expression: the walked thing by PI, the element by PE, whatever it calls. -/
namespace GE
open PySem PySem.Spec PyProof.Rows L2 GenW
/-- where a generator expression's own frame runs -/
abbrev gctx (X : Cx) (A : Around) (s : Shared) (H : Hp) (scope : Scope) (cenv : Env) (fp : List Addr) : Cx :=
  { X with A := A, s_0 := s, H_0 := H, env := cenv, outer := X.stack, stack := cenv :: X.stack, ex := fp, fn := fun x => scope.names.lookup x == some .cell, pn := [], xe := fun _ _ => False }
/-- only the book of generators and the counts have changed -/
theorem inv_heap {X : Cx} {pins : List (Addr × Obj)} {σ : L2.St} {H : Hp} {s s' : Shared} (I : Inv X pins σ H s) (hh : s'.heap = s.heap) (ho : s'.os = s.os) (hb : AllBare s'.gens) : Inv X pins σ H s' :=
  ⟨I.ok, ho.trans I.os, hb, by rw [hh]; exact I.base, by rw [hh]; exact I.loc, by rw [hh]; exact I.cell, I.free, I.freeC, by rw [hh]; exact I.pin, by rw [hh]; exact I.hok, I.len⟩
theorem over_gen {A : Around} {elt tg iter : Expr} {ifs : List Expr} {scope : Scope} {pos : Pos} {it : Value} {env : Env} :
    A.over (.compLoop (.GeneratorExp elt [⟨tg, iter, ifs, 0⟩] scope pos) 0 it .none env) [] = A.deeper env := rfl
section
variable {X : Cx} {pins : List (Addr × Obj)} {σ : L2.St} {H : Hp} {s : Shared}
theorem gen_start {scope : Scope} {own : List (Str × Nat)} {fp : List Addr} {A : Around} {code itv : Value} {h' : Heap} {g' : Array GenState} {tk : Nat} {go : Obj}
    (I : Inv X pins σ H s) (ok : BlkOk X.N X.env.scope scope own) (hN : X.N.Nodup) (hcell : ∀ y ∈ scope.names, y.2 ≠ .cell) (hfp : ∀ b ∈ fp, FpOk X pins H b ∧ b < s.heap.objs.size)
    (hA : A.handled = none) (hF : A.frames = some (genEnv scope (cloFrom X.env.cells scope.names []) s.heap.objs.size code builtinsNs X.env :: X.stack))
    (hn : h'.Ns s.heap.objs.size (fun y => if y = ".0" then some itv else none)) (hk : ∀ b o, s.heap.get? b = some o → h'.get? b = some o)
    (hgo : ∀ v, go.data ≠ .cell v) (hga : (h'.push go).get? h'.objs.size = some go) (hsz : h'.objs.size = s.heap.objs.size + 1) (hb : AllBare g') :
    Inv (gctx X A s H scope (genEnv scope (cloFrom X.env.cells scope.names []) s.heap.objs.size code builtinsNs X.env) fp) [(h'.objs.size, go)] (wipe σ (own.map (·.2))) H
      { s with gens := g', toks := tk, heap := h'.push go } := by
  generalize hce : genEnv scope (cloFrom X.env.cells scope.names []) s.heap.objs.size code builtinsNs X.env = cenv at hF ⊢
  have eL : cenv.locals = s.heap.objs.size := by rw [← hce]; rfl
  have eC : cenv.cells = cloFrom X.env.cells scope.names [] := by rw [← hce]; rfl
  have eS : cenv.scope = scope := by rw [← hce]; rfl
  have kp : ∀ b o, s.heap.get? b = some o → (h'.push go).get? b = some o := fun b o e => Heap.get?_push_of_some _ (hk b o e)
  have got : ∀ y ∈ scope.names, y.2 = .free → ∃ c, X.env.cells.lookup y.1 = some c := fun y hy e => by
    rcases ok.free y hy e with z | z
    · exact I.ok.has _ (.inl z)
    · exact I.ok.has _ (.inr z)
  have inX : ∀ {y c}, cenv.cells.lookup y = some c → X.env.cells.lookup y = some c ∧ c < s.heap.objs.size := fun {y c} e => by
    rw [eC] at e
    rcases cloFrom_mem (PySem.mem_of_lookup e) with z | ⟨z, q⟩
    · cases z
    · obtain ⟨d, hd⟩ := got _ z rfl
      rw [hd] at q
      have q : c = d := q
      subst q
      obtain ⟨v, hv⟩ := I.cell _ _ hd
      exact ⟨hd, hv.lt⟩
  have has : ∀ {y}, scope.names.lookup y = some .free → ∃ c, cenv.cells.lookup y = some c := fun {y} hl => by
    obtain ⟨c, e⟩ := mem_lookup (cloFrom_has (cells := X.env.cells) (acc := []) (PySem.mem_of_lookup hl))
    exact ⟨c, by rw [eC]; exact e⟩
  have okG : (gctx X A s H scope cenv fp).Ok := by
    refine ⟨I.ok.mod, ?_, ?_, ?_, ?_, ?_, ?_, ?_, fun _ => hA, hF, .inr ⟨rfl, ?_⟩, fun b hb => ⟨?_, ?_⟩, I.bs, Nat.le_trans I.ok.bsz I.sz, ?_, ?_, I.stack, I.stkFree⟩
    · show cenv.scope.kind = _
      rw [eS]; exact ok.kind
    · show cenv.globals = _
      rw [← hce]; exact I.ok.glob
    · show cenv.builtins = _
      rw [← hce]; rfl
    · show s.heap.objs.size ≤ cenv.locals
      rw [eL]; exact Nat.le_refl _
    · intro y z c e1 e2
      exact I.ok.inj y z c (inX e1).1 (inX e2).1
    · intro y hy
      have hy : cenv.scope.names.lookup y = some .cell ∨ cenv.scope.names.lookup y = some .free := hy
      rw [eS] at hy
      rcases hy with z | z
      · exact absurd rfl (hcell _ (PySem.mem_of_lookup z))
      · exact has z
    · intro y c z _
      have z : (scope.names.lookup y == some NameKind.cell) = true := z
      have z : scope.names.lookup y = some .cell := by simpa using z
      exact absurd rfl (hcell _ (PySem.mem_of_lookup z))
    · show cenv.frame = some cenv.locals
      rw [← hce]; rfl
    · show b ≠ cenv.locals
      rw [eL]; exact Nat.ne_of_lt (hfp b hb).2
    · intro y c e z
      exact (hfp b hb).1.2.2.2.2.1 y c (inX e).1 z
    · intro b o e hb
      rcases (hfp b hb).1.2.2.2.1 with z | z
      · exact I.ok.noex b o e z
      · exact absurd (Nat.lt_of_lt_of_le (Heap.lt_size e) (Nat.le_trans I.ok.bsz z)) (Nat.lt_irrefl _)
    · intro b hb z
      rcases List.mem_cons.mp (I.stkSub b z) with q | q
      · exact (hfp b hb).1.2.1 q
      · exact (hfp b hb).1.2.2.1 q
  refine ⟨okG, rfl, hb, Un.kept kp, ⟨fun y => if y = ".0" then some itv else none, ?_, fun i y v e1 e2 e3 => ?_⟩, fun y c e => ?_, ?_, fun y c e => ?_, fun p hp => ?_, I.hok.kept kp, ?_⟩
  · show Heap.Ns _ cenv.locals _
    rw [eL]; exact hn.keeps fun b o e => Heap.get?_push_of_some _ e
  · obtain ⟨e2, hne⟩ := wipe_some e2
    have e3 : Vis cenv.scope y := e3
    rw [eS] at e3
    have no : ∀ k, scope.names.lookup y = some k → k = .local ∨ k = .cell → False := fun k hl hk => by
      rcases ok.own _ (PySem.mem_of_lookup hl) hk with z | z
      · obtain ⟨p, hp, ep⟩ := List.mem_map.mp z
        have q := ok.ix p hp
        have ep : p.1 = y := ep
        rw [ep] at q
        exact hne (List.mem_map.mpr ⟨p, hp, nodup_ix hN q e1⟩)
      · exact z (List.mem_of_getElem? e1)
    have fr : scope.names.lookup y = some .free := by
      rcases e3 with z | z | z
      · exact (no _ z (.inl rfl)).elim
      · exact (no _ z (.inr rfl)).elim
      · exact z
    obtain ⟨c, hc⟩ := has fr
    have kinds := ok.free _ (PySem.mem_of_lookup fr) rfl
    obtain ⟨m, _, hl⟩ := I.loc
    obtain ⟨u, ru, look⟩ := hl i y v e1 e2 (kinds.elim (fun z => .inr (.inl z)) fun z => .inr (.inr z))
    refine ⟨u, ru, .inr ⟨.inr ?_, c, hc, ?_⟩⟩
    · show cenv.scope.names.lookup y = _
      rw [eS]; exact fr
    · rcases look with ⟨z, _⟩ | ⟨_, c2, hc2, z⟩
      · have z : X.env.scope.names.lookup y = some .local := z
        rcases kinds with q | q <;> rw [show X.env.scope.names.lookup y = _ from q] at z <;> cases z
      · rw [(inX hc).1] at hc2
        cases hc2
        exact z.keeps kp
  · obtain ⟨v, hv⟩ := I.cell y c (inX e).1
    exact ⟨v, hv.keeps kp⟩
  · show H cenv.locals = none
    rw [eL]; exact I.hok.fresh (Nat.le_refl _)
  · exact I.freeC y c (inX e).1
  · have hp : p = (h'.objs.size, go) := by simpa using hp
    subst hp
    refine ⟨hga, I.hok.fresh (by omega), ?_, fun z => ?_, hgo⟩
    · show h'.objs.size ≠ cenv.locals
      rw [eL]; omega
    · rcases List.mem_cons.mp (I.stkSub _ z) with q | q
      · have q : h'.objs.size = X.env.locals := q
        have z2 := I.lt
        rw [← q, hsz] at z2
        exact absurd z2 (Nat.not_lt.mpr (Nat.le_succ _))
      · exact I.nofs (by omega) q
  · rw [wipe_length]; exact I.len
/-- what a generator expression hands out, and its end, by what the def's reading wants: Qt at its end, Qs where a truth like st is handed out -/
def GR (Y : Cx) (pn : List (Addr × Obj)) (Qt : Hp → Prop) : GenEnd := fun _ _ r s1 =>
  ((r = .ok (.ret .none) ∨ r = .ok .next) ∧ ∃ σ' H', Inv Y pn σ' H' s1 ∧ Qt H') ∨ ∃ e, r = .error e ∧ (fun (_ : Value) (_ : Shared) => False) e s1
def GY (Y : Cx) (pn : List (Addr × Obj)) (st : Bool) (Qs : Hp → Prop) : Protocol := fun _ _ v s1 kap =>
  ∃ c σ' H', v = .bool c ∧ Inv Y pn σ' H' s1 ∧ (c = st → Qs H') ∧ (c ≠ st → ∀ s2 : Shared, s2.heap = s1.heap → s2.os = s1.os → AllBare s2.gens → kap (.send .none) s2)
/-- one turn's reading -/
def Step (J : It) (g : TG) (tt : TT) (te : TE) (vs : List Nat) (σ : L2.St) (st : Bool) (Qt Qs : Hp → Prop) (W : Nat → Nat → Hp → Prop) (i m : Nat) (H : Hp) : Prop :=
  (J.stop i H ∧ Qt H) ∨ (J.go i H ∧ ∃ Nx : Hp → Prop, (∀ H', Nx H' → ∃ m', m' < m ∧ W (i + 1) m' H') ∧ ∀ x H', J.yld i H x H' → g x (wipe σ vs) H' fun σ2 H2 => wipe σ2 vs = wipe σ vs ∧ tt σ2 H2 fun b H3 =>
    if b = true then te σ2 H3 fun y H4 => ∃ c, y = .bl c ∧ (c = st → Qs H4) ∧ (c ≠ st → Nx H4) else Nx H3)
theorem wpF {α : Type} {M : Model} {A : Around} {t : Sem α} {Q Q' : α → Shared → Prop} {E : Value → Shared → Prop} {s : Shared} (h : wpAny M A t Q (fun _ _ => False) s) (k : ∀ a s', Q a s' → Q' a s') : wpAny M A t Q' E s :=
  wpAny_mono h k fun _ _ z => z.elim
theorem seg_turns {A0 : Around} {s3 : Shared} {H3 : Hp} {scope : Scope} {cenv : Env} {fp : List Addr} {pn : List (Addr × Obj)} {it : Addr} {J : It} {tn : Nat → Heap → Prop} {elt tg iter : Expr} {ifs : List Expr} {pos : Pos} {vs : List Nat}
    {g : TG} {tt : TT} {te : TE} {st : Bool} {Qt Qs : Hp → Prop} {W : Nat → Nat → Hp → Prop} (hc : X.calm = true) (hco : cenv.scope.isCoroutine = false) (hpn : ∀ p ∈ pn, p.1 ∉ fp)
    (T : Turn X.prog X.w X.K tg J fp it tn) (pg : PG (gctx X (A0.deeper cenv) s3 H3 scope cenv fp) tg g) (pt : PTs (gctx X (A0.deeper cenv) s3 H3 scope cenv fp) ifs tt) (pe : PE (gctx X (A0.deeper cenv) s3 H3 scope cenv fp) elt te)
    (turn : ∀ i m H', W i m H' → Step J g tt te vs σ st Qt Qs W i m H') :
    ∀ (m n : Nat), m < n → ∀ (i : Nat) (s0 s1 : Shared) (H' : Hp), Inv (gctx X (A0.deeper cenv) s3 H3 scope cenv fp) pn (wipe σ vs) H' s1 → tn i s1.heap → (∀ b ∈ fp, H' b = none) → W i m H' →
      Seg (model X.prog X.w) A0 (GR (gctx X (A0.deeper cenv) s3 H3 scope cenv fp) pn Qt) (GY (gctx X (A0.deeper cenv) s3 H3 scope cenv fp) pn st Qs) n s0
        (.compLoop (.GeneratorExp elt [⟨tg, iter, ifs, 0⟩] scope pos) 0 (.ref it) .none cenv) ((model X.prog X.w).den (.compLoop (.GeneratorExp elt [⟨tg, iter, ifs, 0⟩] scope pos) 0 (.ref it) .none cenv)) [] s1 := by
  intro m
  induction m using Nat.strongRecOn with
  | ind m ih =>
    intro n hmn i s0 s1 H1 I1 t1 f1 w1
    have own : ∀ {pl : List (Addr × Obj)} {σ' : L2.St} {H' : Hp} {s' : Shared}, (∀ p ∈ pl, p.1 ∉ fp) → Inv (gctx X (A0.deeper cenv) s3 H3 scope cenv fp) pl σ' H' s' → (∀ b ∈ fp, H' b = none) → ∀ b ∈ fp, FpOk (gctx X (A0.deeper cenv) s3 H3 scope cenv fp) pl H' b :=
      fun {pl σ' H' s'} hpl I' hn b hb => ⟨hn b hb, (I'.ok.exf b hb).1, I'.ok.exfs b hb, .inl hb, fun x c e => (I'.ok.exf b hb).2 x c e, fun p hp z => hpl p (by simpa using hp) (by rw [z]; exact hb)⟩
    show Seg _ A0 _ _ _ s0 _ ((compTurn (.GeneratorExp elt [⟨tg, iter, ifs, 0⟩] scope pos) 0 (.ref it) .none cenv).onRaise (leaving cenv)) [] s1
    rw [compTurn_gen]
    rw [Sem.onRaise_eq_wrap]
    refine seg_bind_wrap (wpAny_standAt ?_)
    rcases turn i m H1 w1 with ⟨stop, qt⟩ | ⟨go, Nx, hNx, step⟩
    · refine seg_bind_wrap (wpF (T.done (gctx X (A0.deeper cenv) s3 H3 scope cenv fp) rfl rfl rfl hc i pn s1 _ H1 (fun _ _ => False) I1 (own hpn I1 f1) t1 stop) fun r s2 ⟨hr, I2⟩ => ?_)
      subst hr
      exact seg_end (.ok .next) (.inl ⟨.inr rfl, _, H1, I2, qt⟩)
    · refine seg_bind_wrap (wpF (T.item (gctx X (A0.deeper cenv) s3 H3 scope cenv fp) rfl rfl rfl hc i pn s1 _ H1 (fun _ _ => False) I1 (own hpn I1 f1) t1 go) fun r s2 ⟨u, hr, h2⟩ => ?_)
      subst hr
      refine seg_bind_wrap (wpF h2 fun _ s4 ⟨x, H4, I4, r4, y4, t4, f4⟩ => ?_)
      have P4 := I4.pinned (own hpn I4 f4) (T.obj _ _ t4)
      refine seg_bind_wrap (wpF (pg.run _ s4 _ H4 x u _ P4 r4 (step x H4 y4)) fun _ s5 ⟨σ5, H5, I5, w5, q5⟩ => ?_)
      refine seg_bind_wrap (wpF (pt.run _ s5 σ5 H5 _ I5 q5) fun b s6 ⟨H6, I6, q6⟩ => ?_)
      have back : ∀ {s' : Shared} {H' : Hp}, Inv (gctx X (A0.deeper cenv) s3 H3 scope cenv fp) (pn ++ pinsAt fp s4.heap) σ5 H' s' →
          Inv (gctx X (A0.deeper cenv) s3 H3 scope cenv fp) pn (wipe σ vs) H' s' ∧ tn (i + 1) s'.heap ∧ ∀ b ∈ fp, H' b = none := fun {s' H'} I' => by
        have at' : ∀ b ∈ fp, ∀ o, s4.heap.get? b = some o → s'.heap.get? b = some o ∧ H' b = none := fun b hb o e =>
          let z := I'.pin (b, o) (List.mem_append_right _ (List.mem_append_right _ (mem_pinsAt hb e)))
          ⟨z.1, z.2.1⟩
        refine ⟨I'.unpinned.weak (by rw [← w5, wipe_length]) fun j v e => ?_, T.keep _ _ _ t4 fun b hb o e => (at' b hb o e).1, fun b hb => ?_⟩
        · rw [← w5] at e
          exact (wipe_some e).1
        · obtain ⟨o, e, _⟩ := T.obj _ _ t4 b hb
          exact (at' b hb o e).2
      cases b with
      | false =>
        have q6 : Nx H6 := by simpa using q6
        obtain ⟨m', hm, w'⟩ := hNx H6 q6
        obtain ⟨I7, t7, f7⟩ := back I6
        simp only [Bool.false_eq_true, if_false]
        exact seg_again rfl (ih m' hm n (by omega) (i + 1) s0 s6 H6 I7 t7 f7 w')
      | true =>
        rw [if_pos rfl] at q6
        simp only [if_true]
        have hy : ∀ v, yieldOut cenv v = yieldValue v := fun v => by
          unfold yieldOut
          simp [hco]
        simp only [hy]
        rw [Sem.bind_eq_wrap', Sem.bind_eq_wrap']
        rw [Sem.wrap_wrap, Sem.wrap_wrap]
        refine seg_wrap (wpF (pe.run _ s6 σ5 H6 _ I6 q6) fun v s7 ⟨yv, H7, I7, r7, c, ec, qs, qn⟩ => ?_)
        subst ec
        obtain rfl : v = Value.bool c := r7
        obtain ⟨I8, t8, f8⟩ := back I7
        obtain ⟨n, rfl⟩ : ∃ k, n = k + 1 := ⟨n - 1, by omega⟩
        refine seg_at (seg_yield rfl rfl rfl ⟨c, _, H7, rfl, I8, qs, fun hne s9 hh ho hb => ?_⟩)
        obtain ⟨m', hm, w'⟩ := hNx H7 (qn hne)
        exact seg_again rfl (ih m' hm n (by omega) (i + 1) s9 s9 H7 (inv_heap I8 hh ho hb) (by rw [hh]; exact t8) f8 w')
/-! ### all and any walk the generator -/
theorem all_walk {Y : Cx} {pn : List (Addr × Obj)} {Qt Qs : Hp → Prop} {A : Around} {R : Result → Shared → Prop} {a : Addr} {go : Obj} {g : Nat} (hh : A.handled = none) (hd : A.depth < recursionLimit)
    (hpa : (a, go) ∈ pn) (hgen : ∀ h : Heap, h.get? a = some go → h.IsGen a g)
    (eT : ∀ σ' H' s', Inv Y pn σ' H' s' → Qt H' → R (.ok (.ret (.bool true))) s') (eF : ∀ σ' H' s', Inv Y pn σ' H' s' → Qs H' → R (.ok (.ret (.bool false))) s') :
    ∀ (n : Nat) (s1 : Shared) (gs : GenState), s1.heap.IsGen a g → s1.heap.NoLimit → s1.gens[g]? = some gs →
      gs.Goes (model Y.prog Y.w) A.in1.in1 (GR Y pn Qt) (GY Y pn false Qs) n (.send .none) (s1.setGen g .running) → codeAny (model Y.prog Y.w) A (.builtin "all.loop" ⟨[.ref a], []⟩) R s1 := by
  intro n
  induction n with
  | zero =>
    intro s1 gs isg lim hgs goes
    refine codeAny_builtin F.entry_all_loop ?_
    rw [Around.under_plainId F.plain_all_loop _]
    show wpAny _ A.in1 (pyNext (.ref a) >>= _) _ _ s1
    refine wpAny_bind (next_genG (A := A.in1) hh lim hd isg hgs goes (fun v s2 gs' hb hv => ?_) (fun s2 hp h' hk => ?_) fun e s2 he => he.elim)
    · obtain ⟨c, σ', H', rfl, I2, q1, q2⟩ := hv
      have I3 : Inv Y pn σ' H' (s2.setGen g gs') := inv_heap I2 rfl rfl (allBare_setGen I2.bare hb)
      refine wpAny_bind (wpAny_holding (wpAny_truthy_bool ?_))
      refine wpAny_bind (wpAny_letGo ?_)
      cases c with
      | true => exact (q2 (by decide) _ rfl rfl I2.bare).elim
      | false =>
        simp only [Bool.false_eq_true, if_false]
        exact wpAny_bind (wpAny_rule (wpAny_pure (eF σ' H' _ I3 (q1 rfl))))
    · obtain ⟨σ', H', I2, q⟩ := hp
      have I3 : Inv Y pn σ' H' (s2.setGen g .finished) := inv_heap I2 rfl rfl (allBare_setGen I2.bare rfl)
      exact wpAny_bind (wpAny_rule (wpAny_pure (eT σ' H' _ (I3.kept (t' := s2.toks) hk) q)))
  | succ n ih =>
    intro s1 gs isg lim hgs goes
    have hgl : g < s1.gens.size := (Array.getElem?_eq_some_iff.mp hgs).1
    refine codeAny_builtin F.entry_all_loop ?_
    rw [Around.under_plainId F.plain_all_loop _]
    show wpAny _ A.in1 (pyNext (.ref a) >>= _) _ _ s1
    refine wpAny_bind (wpAny_gsz (n := g + 1) hgl (next_genG (A := A.in1) hh lim hd isg hgs goes (fun v s2 gs' hb hv => ?_) (fun s2 hp h' hk => ?_) fun e s2 he => he.elim))
    · intro hsz
      obtain ⟨c, σ', H', rfl, I2, q1, q2⟩ := hv
      have I3 : Inv Y pn σ' H' (s2.setGen g gs') := inv_heap I2 rfl rfl (allBare_setGen I2.bare hb)
      refine wpAny_bind (wpAny_holding (wpAny_truthy_bool ?_))
      refine wpAny_bind (wpAny_letGo ?_)
      cases c with
      | true =>
        simp only [if_true]
        have hg2 : g < s2.gens.size := by
          have z : (s2.setGen g gs').gens.size = s2.gens.size := setGen_size _ _ _
          have hsz : g + 1 ≤ (s2.setGen g gs').gens.size := hsz
          omega
        refine wpAny_pure ⟨plainId_quiet F.plain_all_loop _, ih _ gs' (hgen _ (I3.pin (a, go) (List.mem_append_right _ hpa)).1) I3.nolimit (setGen_at hg2) ?_⟩
        exact q2 (by decide) _ rfl rfl (allBare_setGen (s := s2.setGen g gs') I3.bare rfl)
      | false =>
        simp only [Bool.false_eq_true, if_false]
        exact wpAny_bind (wpAny_rule (wpAny_pure (eF σ' H' _ I3 (q1 rfl))))
    · intro _
      obtain ⟨σ', H', I2, q⟩ := hp
      have I3 : Inv Y pn σ' H' (s2.setGen g .finished) := inv_heap I2 rfl rfl (allBare_setGen I2.bare rfl)
      exact wpAny_bind (wpAny_rule (wpAny_pure (eT σ' H' _ (I3.kept (t' := s2.toks) hk) q)))
theorem any_walk {Y : Cx} {pn : List (Addr × Obj)} {Qt Qs : Hp → Prop} {A : Around} {R : Result → Shared → Prop} {a : Addr} {go : Obj} {g : Nat} (hh : A.handled = none) (hd : A.depth < recursionLimit)
    (hpa : (a, go) ∈ pn) (hgen : ∀ h : Heap, h.get? a = some go → h.IsGen a g)
    (eT : ∀ σ' H' s', Inv Y pn σ' H' s' → Qt H' → R (.ok (.ret (.bool false))) s') (eF : ∀ σ' H' s', Inv Y pn σ' H' s' → Qs H' → R (.ok (.ret (.bool true))) s') :
    ∀ (n : Nat) (s1 : Shared) (gs : GenState), s1.heap.IsGen a g → s1.heap.NoLimit → s1.gens[g]? = some gs →
      gs.Goes (model Y.prog Y.w) A.in1.in1 (GR Y pn Qt) (GY Y pn true Qs) n (.send .none) (s1.setGen g .running) → codeAny (model Y.prog Y.w) A (.builtin "any.loop" ⟨[.ref a], []⟩) R s1 := by
  intro n
  induction n with
  | zero =>
    intro s1 gs isg lim hgs goes
    refine codeAny_builtin F.entry_any_loop ?_
    rw [Around.under_plainId F.plain_any_loop _]
    show wpAny _ A.in1 (pyNext (.ref a) >>= _) _ _ s1
    refine wpAny_bind (next_genG (A := A.in1) hh lim hd isg hgs goes (fun v s2 gs' hb hv => ?_) (fun s2 hp h' hk => ?_) fun e s2 he => he.elim)
    · obtain ⟨c, σ', H', rfl, I2, q1, q2⟩ := hv
      have I3 : Inv Y pn σ' H' (s2.setGen g gs') := inv_heap I2 rfl rfl (allBare_setGen I2.bare hb)
      refine wpAny_bind (wpAny_holding (wpAny_truthy_bool ?_))
      refine wpAny_bind (wpAny_letGo ?_)
      cases c with
      | false => exact (q2 (by decide) _ rfl rfl I2.bare).elim
      | true =>
        simp only [if_true]
        exact wpAny_bind (wpAny_rule (wpAny_pure (eF σ' H' _ I3 (q1 rfl))))
    · obtain ⟨σ', H', I2, q⟩ := hp
      have I3 : Inv Y pn σ' H' (s2.setGen g .finished) := inv_heap I2 rfl rfl (allBare_setGen I2.bare rfl)
      exact wpAny_bind (wpAny_rule (wpAny_pure (eT σ' H' _ (I3.kept (t' := s2.toks) hk) q)))
  | succ n ih =>
    intro s1 gs isg lim hgs goes
    have hgl : g < s1.gens.size := (Array.getElem?_eq_some_iff.mp hgs).1
    refine codeAny_builtin F.entry_any_loop ?_
    rw [Around.under_plainId F.plain_any_loop _]
    show wpAny _ A.in1 (pyNext (.ref a) >>= _) _ _ s1
    refine wpAny_bind (wpAny_gsz (n := g + 1) hgl (next_genG (A := A.in1) hh lim hd isg hgs goes (fun v s2 gs' hb hv => ?_) (fun s2 hp h' hk => ?_) fun e s2 he => he.elim))
    · intro hsz
      obtain ⟨c, σ', H', rfl, I2, q1, q2⟩ := hv
      have I3 : Inv Y pn σ' H' (s2.setGen g gs') := inv_heap I2 rfl rfl (allBare_setGen I2.bare hb)
      refine wpAny_bind (wpAny_holding (wpAny_truthy_bool ?_))
      refine wpAny_bind (wpAny_letGo ?_)
      cases c with
      | false =>
        simp only [Bool.false_eq_true, if_false]
        have hg2 : g < s2.gens.size := by
          have z : (s2.setGen g gs').gens.size = s2.gens.size := setGen_size _ _ _
          have hsz : g + 1 ≤ (s2.setGen g gs').gens.size := hsz
          omega
        refine wpAny_pure ⟨plainId_quiet F.plain_any_loop _, ih _ gs' (hgen _ (I3.pin (a, go) (List.mem_append_right _ hpa)).1) I3.nolimit (setGen_at hg2) ?_⟩
        exact q2 (by decide) _ rfl rfl (allBare_setGen (s := s2.setGen g gs') I3.bare rfl)
      | true =>
        simp only [if_true]
        exact wpAny_bind (wpAny_rule (wpAny_pure (eF σ' H' _ I3 (q1 rfl))))
    · intro _
      obtain ⟨σ', H', I2, q⟩ := hp
      have I3 : Inv Y pn σ' H' (s2.setGen g .finished) := inv_heap I2 rfl rfl (allBare_setGen I2.bare rfl)
      exact wpAny_bind (wpAny_rule (wpAny_pure (eT σ' H' _ (I3.kept (t' := s2.toks) hk) q)))
theorem seg_first {A0 : Around} {R : GenEnd} {Y : Protocol} {n : Nat} {s0 s1 : Shared} {elt tg iter : Expr} {ifs : List Expr} {scope : Scope} {pos : Pos} {it : Addr} {cenv : Env} {P : Program} {w : World}
    (self : ∀ (A : Around) (Q : Value → Shared → Prop) (E : Value → Shared → Prop), Q (.ref it) s1 → wpAny (model P w) A (pyIter (.ref it)) Q E s1)
    (loop : Seg (model P w) A0 R Y n s0 (.compLoop (.GeneratorExp elt [⟨tg, iter, ifs, 0⟩] scope pos) 0 (.ref it) .none cenv) ((model P w).den (.compLoop (.GeneratorExp elt [⟨tg, iter, ifs, 0⟩] scope pos) 0 (.ref it) .none cenv)) [] s1) :
    Seg (model P w) A0 R Y n s0 (.compStart (.GeneratorExp elt [⟨tg, iter, ifs, 0⟩] scope pos) 0 (.ref it) .none cenv) ((model P w).den (.compStart (.GeneratorExp elt [⟨tg, iter, ifs, 0⟩] scope pos) 0 (.ref it) .none cenv)) [] s1 := by
  show Seg _ A0 _ _ _ s0 _ ((compStart (.GeneratorExp elt [⟨tg, iter, ifs, 0⟩] scope pos) 0 (.ref it) .none cenv).onRaise (leaving cenv)) [] s1
  unfold compStart
  rw [Sem.onRaise_eq_wrap]
  show Seg _ A0 _ _ _ s0 _ ((ask >>= _).wrap _ _ _ _) [] s1
  refine seg_bind_wrap (wpAny_askSetting ?_)
  split
  · exact seg_again rfl loop
  · first
      | exact seg_bind_wrap (wpAny_rule (seg_bind_wrap (wpAny_standAt (seg_bind_wrap (self _ _ _ (seg_again rfl loop))))))
      | (refine seg_bind_wrap (wpAny_rule ?_); show Seg _ A0 _ _ _ s0 _ ((standAt iter.pos >>= _).wrap _ _ _ _) [] s1; exact seg_bind_wrap (wpAny_standAt (seg_bind_wrap (self _ _ _ (seg_again rfl loop)))))
/-- all(elt for tg in iter if ..), any(..): st is the truth at which it stops; P the table of the def's code -/
def tAG (P : Addr) (st : Bool) (wi : TI) (g : TG) (tt : TT) (te : TE) (vs : List Nat) : TE := fun σ H Q => wi σ H fun J H1 => GxR.TabG H1 P ∧ ∀ H2, GxR.Tabbed P H1 H2 →
  ∃ W : Nat → Nat → Hp → Prop, (∃ m, W 0 m H2) ∧ ∀ i m H', W i m H' → Step J g tt te vs σ st (Q (.bl (!st))) (Q (.bl st)) W i m H'
/-- a generator that stands ready -/
def Made (X : Cx) (pins : List (Addr × Obj)) (σ : L2.St) (st : Bool) (Qt Qs : Hp → Prop) (u : Value) (s5 : Shared) : Prop :=
  ∃ (a : Addr) (Y : Cx) (pn : List (Addr × Obj)) (go : Obj) (g n : Nat) (gs : GenState), u = .ref a ∧ Y.prog = X.prog ∧ Y.w = X.w ∧ (a, go) ∈ pn ∧ (∀ h : Heap, h.get? a = some go → h.IsGen a g) ∧ s5.heap.IsGen a g ∧ s5.heap.NoLimit ∧ s5.gens[g]? = some gs ∧
    gs.Goes (model X.prog X.w) X.A.in1.in1 (GR Y pn Qt) (GY Y pn st Qs) n (.send .none) (s5.setGen g .running) ∧ ∀ σ' H' s', Inv Y pn σ' H' s' → Inv X pins σ H' s'
structure GSc (N : List Str) (sc scope : Scope) (own : List (Str × Nat)) : Prop where
  blk : BlkOk N sc scope own
  co : scope.isCoroutine = false
  cell : ∀ y ∈ scope.names, y.2 ≠ .cell
  dot : scope.names.lookup (".0" : Str) = some NameKind.local
theorem gen_make {c P : Addr} {elt tg iter : Expr} {ifs : List Expr} {gpos : Pos} {scope : Scope} {own : List (Str × Nat)} {st : Bool} {wi : TI} {g : TG} {tt : TT} {te : TE} {k : Nat} {Q : VK}
    (hc : X.calm = true) (hN : X.N.Nodup) (hr : Room (k + 1) X.A) (TB : GxR.TabB X.base X.mg c P) (hcode : X.env.code = .ref c) (S : GSc X.N X.env.scope scope own) (hi : PI X tg iter wi)
    (hg : ∀ (A : Around) (s : Shared) (H : Hp) (C : Addr) (code : Value) (fp : List Addr), Room k A → PG (gctx X A s H scope (genEnv scope (cloFrom X.env.cells scope.names []) C code builtinsNs X.env) fp) tg g)
    (ht : ∀ (A : Around) (s : Shared) (H : Hp) (C : Addr) (code : Value) (fp : List Addr), Room k A → PTs (gctx X A s H scope (genEnv scope (cloFrom X.env.cells scope.names []) C code builtinsNs X.env) fp) ifs tt)
    (he : ∀ (A : Around) (s : Shared) (H : Hp) (C : Addr) (code : Value) (fp : List Addr), Room k A → PE (gctx X A s H scope (genEnv scope (cloFrom X.env.cells scope.names []) C code builtinsNs X.env) fp) elt te)
    (hs : ∀ v, genFold iter X.env v = pure v) (I : Inv X pins σ H s) (h : tAG P st wi g tt te (own.map (·.2)) σ H Q) :
    wpAny (model X.prog X.w) X.A (eval (.GeneratorExp elt [⟨tg, iter, ifs, 0⟩] scope gpos) X.env) (Made X pins σ st (Q (.bl (!st))) (Q (.bl st))) X.xe s := by
  have hfree : ∀ y ∈ scope.names, y.2 = .free → ∃ c, X.env.cells.lookup y.1 = some c := fun y hy e => by
    rcases S.blk.free y hy e with z | z
    · exact I.ok.has _ (.inl z)
    · exact I.ok.has _ (.inr z)
  refine wpAny_GeneratorExp_make S.co (closure_ok hfree) S.cell S.dot S.blk.kind (by have := hr.dp; omega) ?_ hs
  refine thn (hi.run pins s σ H _ I h) fun xv s1 hx => thn hx fun itv s2 h2 => ?_
  obtain ⟨it, fp, tn, J, H1, rfl, I2, T, t2, f2, ⟨ps, hP, htr⟩, q⟩ := h2
  have oP : s2.heap.get? P = some { cls := .none, data := .fields ps } := I2.hok P _ hP
  have cd : PySem.W.CodeHd s2.heap c P := TB.code.keeps I2.bk
  refine ⟨I2.nolimit, ?_⟩
  have nP : ∀ b ∈ fp, b ≠ P := fun b hb z => by
    have q := (f2 b hb).1
    rw [z, hP] at q
    cases q
  have rest : ∀ (code : Value) (h3 : Heap) (tk : Nat) (ps' : Array Value), Heap.ExtBut P s2.heap h3 → h3.get? P = some { cls := .none, data := .fields ps' } → (∃ more, ps' = ps ++ more) → TriplesOk ps'.toList →
      wpAny (model X.prog X.w) X.A (builtinsFor X.env.globals X.env.builtins) (fun bi s4 =>
        ∀ h', h'.Ns s4.heap.objs.size (fun y => if y = ".0" then some (.ref it) else none) → Heap.SameBut s4.heap.objs.size (s4.heap.push { cls := .type "frame", data := .dict #[] }) h' →
          Made X pins σ st (Q (.bl (!st))) (Q (.bl st)) (.ref h'.objs.size) { s4 with
            gens := s4.gens.push (.fresh (.compStart (.GeneratorExp elt [⟨tg, iter, ifs, 0⟩] scope gpos) 0 (.ref it) .none (genEnv scope (cloFrom X.env.cells scope.names []) s4.heap.objs.size code bi X.env))),
            toks := s4.toks + 1 + 1 + 1,
            heap := h'.push { cls := .type "generator", data := .fields #[.int s4.gens.size 0, .str "<genexpr>" (s4.toks + 1), .str (X.env.qual ++ "<genexpr>") (s4.toks + 1 + 1)] } }) X.xe { s2 with heap := h3, toks := tk } := by
    intro code h3 tk ps' hx hP3 hmore htr3
    obtain ⟨bm, ob, b1, b2, b3, b4, b5, b6, b7, b8⟩ := TB.bm
    refine wpAny_builtinsFor (m := X.mg) ?_ b1 b2 (hx _ _ b4 (I2.bk _ _ b5)) b6 b7 b8 ?_
    · rw [I2.ok.glob]
      exact (I2.mod.glob.keeps I2.bk).extBut hx TB.gP
    obtain ⟨more, rfl⟩ := hmore
    have I3 : Inv X pins σ (upd H1 P (.tbl (ps ++ more))) { s2 with heap := h3, toks := tk } := GxR.inv_tab (more := more) (h' := h3) (g' := s2.gens) (d' := s2.drawn) (t' := tk) I2 hP hx hP3 I2.bare
    have tab : GxR.Tabbed P H1 (upd H1 P (.tbl (ps ++ more))) := ⟨⟨_, upd_same, htr3⟩, fun b hb => upd_ne hb⟩
    obtain ⟨W, ⟨m0, w0⟩, turn⟩ := q _ tab
    have t3 : tn 0 h3 := T.keep _ _ _ t2 fun b hb o e => hx b o (nP b hb) e
    have f3 : ∀ b ∈ fp, FpOk X pins (upd H1 P (.tbl (ps ++ more))) b ∧ b < h3.objs.size := fun b hb => by
      refine ⟨⟨?_, (f2 b hb).2⟩, ?_⟩
      · rw [upd_ne (nP b hb)]
        exact (f2 b hb).1
      · obtain ⟨o, e, _⟩ := T.obj _ _ t3 b hb
        exact Heap.lt_size e
    generalize upd H1 P (.tbl (ps ++ more)) = H3 at I3 w0 f3
    intro h' hn' hs'
    generalize hs4 : ({ s2 with heap := h3, toks := tk } : Shared) = s4 at I3 hn' hs' ⊢
    have e4 : s4.heap = h3 := by rw [← hs4]
    rw [← e4] at t3 f3
    have hsz : h'.objs.size = s4.heap.objs.size + 1 := by rw [hs'.1, Heap.size_push]
    have hk : ∀ b o, s4.heap.get? b = some o → h'.get? b = some o := fun b o e => by
      rw [hs'.2 b (Nat.ne_of_lt (Heap.lt_size e))]
      exact Heap.get?_push_of_some _ e
    generalize hgo : ({ cls := .type "generator", data := .fields #[.int s4.gens.size 0, .str "<genexpr>" (s4.toks + 1), .str (X.env.qual ++ "<genexpr>") (s4.toks + 1 + 1)] } : Obj) = go
    have isg : ∀ hh : Heap, hh.get? h'.objs.size = some go → hh.IsGen h'.objs.size s4.gens.size := fun hh e => ⟨go, _, _, e, by rw [← hgo], by rw [← hgo], by rw [← hgo]⟩
    have hga : (h'.push go).get? h'.objs.size = some go := Heap.get?_push_size _ (by rw [← hgo]; rfl)
    have rmA : Room k (X.A.in1.in1.deeper (genEnv scope (cloFrom X.env.cells scope.names []) s4.heap.objs.size code builtinsNs X.env)) := by
      refine ⟨hr.hd, ?_, ?_⟩
      · have := hr.dp
        show X.A.depth + 1 + 3 * k + 5 < _
        omega
      · have := hr.un
        show X.A.units + 1 + 1 + 3 + 16 * k + 200 < _
        omega
    have bare : AllBare (s4.gens.push (.fresh (.compStart (.GeneratorExp elt [⟨tg, iter, ifs, 0⟩] scope gpos) 0 (.ref it) .none (genEnv scope (cloFrom X.env.cells scope.names []) s4.heap.objs.size code builtinsNs X.env)))) := I3.bare.push rfl
    have J := gen_start (A := X.A.in1.in1.deeper (genEnv scope (cloFrom X.env.cells scope.names []) s4.heap.objs.size code builtinsNs X.env)) (code := code) (go := go) (tk := s4.toks + 1 + 1 + 1) I3 S.blk hN S.cell f3 hr.hd
      (by show X.A.frames.map _ = _; rw [I3.ok.frames]; rfl) hn' hk (fun v z => by rw [← hgo] at z; cases z) hga hsz bare
    have pg := hg _ s4 H3 s4.heap.objs.size code fp rmA
    have pt := ht _ s4 H3 s4.heap.objs.size code fp rmA
    have pe := he _ s4 H3 s4.heap.objs.size code fp rmA
    have hco : (genEnv scope (cloFrom X.env.cells scope.names []) s4.heap.objs.size code builtinsNs X.env).scope.isCoroutine = false := S.co
    generalize genEnv scope (cloFrom X.env.cells scope.names []) s4.heap.objs.size code builtinsNs X.env = cenv at J pg pt pe rmA bare hco ⊢
    have out : ∀ p ∈ [(h'.objs.size, go)], p.1 ∉ fp := fun p hp z => by
      rw [List.mem_singleton.mp hp] at z
      have := (f3 _ z).2
      have z3 : h'.objs.size < s4.heap.objs.size := this
      omega
    have kp5 : ∀ b o, s4.heap.get? b = some o → (h'.push go).get? b = some o := fun b o e => Heap.get?_push_of_some _ (hk b o e)
    refine ⟨h'.objs.size, gctx X (X.A.in1.in1.deeper cenv) s4 H3 scope cenv fp, [(h'.objs.size, go)], go, s4.gens.size, m0 + 1, _, rfl, rfl, rfl, List.mem_singleton.mpr rfl, isg, isg _ hga, I3.nolimit.keeps kp5, Array.getElem?_push_size .., ⟨rfl, ?_⟩, fun σ' H' s' I' => ?_⟩
    · refine seg_first (fun A Q E hq => T.self A 0 _ Q E (T.keep _ _ _ t3 fun b _ o e => kp5 b o e) hq) ?_
      exact seg_turns hc hco out T pg pt pe turn m0 (m0 + 1) (Nat.lt_succ_self _) 0 _ _ H3 (inv_heap J rfl rfl (allBare_setGen (s := { s4 with gens := _, toks := _, heap := _ }) bare rfl)) (T.keep _ _ _ t3 fun b _ o e => kp5 b o e) (fun b hb => (f3 b hb).1.1) w0
    · exact I3.call' (ch := fp) I'.os I'.base I'.hok I'.bare fun b hb => ⟨(f3 b hb).1.2.2.2.1, (f3 b hb).1.2.1, (f3 b hb).1.2.2.2.2.1, (f3 b hb).1.2.2.2.2.2⟩
  cases hf : codeAmong gpos ps.toList with
  | none =>
    refine wpAny_genexprCodeX hcode (cd.code oP htr) (cd.tab oP) hf fun c' h' tk hx hge hlt hco' _ htab' _ => ?_
    obtain ⟨o1, v1, f1, tf, fl, t1, inF, tx, t0, op, _, _, _, _, _, _, _, _, _, htr', _⟩ := hco'
    exact rest _ h' tk _ hx htab'.2 ⟨_, rfl⟩ htr'
  | some cv =>
    refine wpAny_genexprCode_hit hcode (cd.code oP htr) hf ?_
    exact rest cv s2.heap s2.toks ps (Heap.ExtBut.refl _ _) oP ⟨#[], by simp⟩ htr
/-- THE RULE: all(elt for tg in iter if ..) -/
theorem pe_allG {c P : Addr} {elt tg iter : Expr} {ifs : List Expr} {p pos gpos : Pos} {scope : Scope} {own : List (Str × Nat)} {wi : TI} {g : TG} {tt : TT} {te : TE} {k : Nat}
    (hc : X.calm = true) (hN : X.N.Nodup) (hr : Room (k + 1) X.A) (hgl : Gl X "all") (hm : X.mg "all" = none) (TB : GxR.TabB X.base X.mg c P) (hcode : X.env.code = .ref c) (S : GSc X.N X.env.scope scope own) (hi : PI X tg iter wi)
    (hg : ∀ (A : Around) (s : Shared) (H : Hp) (C : Addr) (code : Value) (fp : List Addr), Room k A → PG (gctx X A s H scope (genEnv scope (cloFrom X.env.cells scope.names []) C code builtinsNs X.env) fp) tg g)
    (ht : ∀ (A : Around) (s : Shared) (H : Hp) (C : Addr) (code : Value) (fp : List Addr), Room k A → PTs (gctx X A s H scope (genEnv scope (cloFrom X.env.cells scope.names []) C code builtinsNs X.env) fp) ifs tt)
    (he : ∀ (A : Around) (s : Shared) (H : Hp) (C : Addr) (code : Value) (fp : List Addr), Room k A → PE (gctx X A s H scope (genEnv scope (cloFrom X.env.cells scope.names []) C code builtinsNs X.env) fp) elt te)
    (hs : ∀ v, genFold iter X.env v = pure v := by intro _; rfl) (hb : bootBuiltins "all" = some (.builtin "all") := by decide +kernel)
    (hse : starEach [.GeneratorExp elt [⟨tg, iter, ifs, 0⟩] scope gpos] X.env = (false, eval (.GeneratorExp elt [⟨tg, iter, ifs, 0⟩] scope gpos) X.env) :: starEach [] X.env := by rfl) :
    PE X (.Call (.Name "all" p) [.GeneratorExp elt [⟨tg, iter, ifs, 0⟩] scope gpos] [] pos) (tAG P false wi g tt te (own.map (·.2))) := by
  refine ⟨fun pins s σ H Q I h => ?_⟩
  refine wpAny_Call_Name_kw (ld_blt I hgl hm hb (PyProof.Rows.callWith_builtin1 ?_ hse (by rfl)))
  rw [hse]
  show wpAny _ _ (spliced ((false, eval (.GeneratorExp elt [⟨tg, iter, ifs, 0⟩] scope gpos) X.env) :: backTo pos (starEach [] X.env))) _ _ s
  refine Calls.spliced_cons (thn (gen_make hc hN hr TB hcode S hi hg ht he hs I h) fun u s5 hu => ?_)
  obtain ⟨a, Y, pn, go, gi, n, gs, rfl, eP, eW, hpa, hgen, isg, lim, hgs, goes, back⟩ := hu
  refine Calls.spliced_nil (PySem.call_function_tree F.kind_all F.plain_all F.entry_all (F.args_all1 _) ?_)
  unfold Builtin.«all»
  refine wpAny_bind (m := oneArg "all" _) (wpAny_pure (wpAny_bind (wpAny_pyIter_gen isg ?_)))
  rw [← eP, ← eW] at goes ⊢
  exact wpAny_pure ⟨plainId_quiet F.plain_all_loop _, all_walk hr.hd (by have := hr.dp; omega) hpa hgen
    (fun σ' H' s' J q => ⟨.bl true, H', back σ' H' s' J, rfl, q⟩) (fun σ' H' s' J q => ⟨.bl false, H', back σ' H' s' J, rfl, q⟩) n s5 gs isg lim hgs goes⟩
/-- THE RULE: any(elt for tg in iter if ..) -/
theorem pe_anyG {c P : Addr} {elt tg iter : Expr} {ifs : List Expr} {p pos gpos : Pos} {scope : Scope} {own : List (Str × Nat)} {wi : TI} {g : TG} {tt : TT} {te : TE} {k : Nat}
    (hc : X.calm = true) (hN : X.N.Nodup) (hr : Room (k + 1) X.A) (hgl : Gl X "any") (hm : X.mg "any" = none) (TB : GxR.TabB X.base X.mg c P) (hcode : X.env.code = .ref c) (S : GSc X.N X.env.scope scope own) (hi : PI X tg iter wi)
    (hg : ∀ (A : Around) (s : Shared) (H : Hp) (C : Addr) (code : Value) (fp : List Addr), Room k A → PG (gctx X A s H scope (genEnv scope (cloFrom X.env.cells scope.names []) C code builtinsNs X.env) fp) tg g)
    (ht : ∀ (A : Around) (s : Shared) (H : Hp) (C : Addr) (code : Value) (fp : List Addr), Room k A → PTs (gctx X A s H scope (genEnv scope (cloFrom X.env.cells scope.names []) C code builtinsNs X.env) fp) ifs tt)
    (he : ∀ (A : Around) (s : Shared) (H : Hp) (C : Addr) (code : Value) (fp : List Addr), Room k A → PE (gctx X A s H scope (genEnv scope (cloFrom X.env.cells scope.names []) C code builtinsNs X.env) fp) elt te)
    (hs : ∀ v, genFold iter X.env v = pure v := by intro _; rfl) (hb : bootBuiltins "any" = some (.builtin "any") := by decide +kernel)
    (hse : starEach [.GeneratorExp elt [⟨tg, iter, ifs, 0⟩] scope gpos] X.env = (false, eval (.GeneratorExp elt [⟨tg, iter, ifs, 0⟩] scope gpos) X.env) :: starEach [] X.env := by rfl) :
    PE X (.Call (.Name "any" p) [.GeneratorExp elt [⟨tg, iter, ifs, 0⟩] scope gpos] [] pos) (tAG P true wi g tt te (own.map (·.2))) := by
  refine ⟨fun pins s σ H Q I h => ?_⟩
  refine wpAny_Call_Name_kw (ld_blt I hgl hm hb (PyProof.Rows.callWith_builtin1 ?_ hse (by rfl)))
  rw [hse]
  show wpAny _ _ (spliced ((false, eval (.GeneratorExp elt [⟨tg, iter, ifs, 0⟩] scope gpos) X.env) :: backTo pos (starEach [] X.env))) _ _ s
  refine Calls.spliced_cons (thn (gen_make hc hN hr TB hcode S hi hg ht he hs I h) fun u s5 hu => ?_)
  obtain ⟨a, Y, pn, go, gi, n, gs, rfl, eP, eW, hpa, hgen, isg, lim, hgs, goes, back⟩ := hu
  refine Calls.spliced_nil (PySem.call_function_tree F.kind_any F.plain_any F.entry_any (F.args_any1 _) ?_)
  unfold Builtin.«any»
  refine wpAny_bind (m := oneArg "any" _) (wpAny_pure (wpAny_bind (wpAny_pyIter_gen isg ?_)))
  rw [← eP, ← eW] at goes ⊢
  exact wpAny_pure ⟨plainId_quiet F.plain_any_loop _, any_walk hr.hd (by have := hr.dp; omega) hpa hgen
    (fun σ' H' s' J q => ⟨.bl false, H', back σ' H' s' J, rfl, q⟩) (fun σ' H' s' J q => ⟨.bl true, H', back σ' H' s' J, rfl, q⟩) n s5 gs isg lim hgs goes⟩
end
section
variable {J : It} {n : Nat} {G : Hp → Prop} {Y : Nat → Hp → V → Hp → Prop}
/-- a walk's turns, by what holds between two of them -/
theorem ag_it (w : Walk J n G Y) {g : TG} {tt : TT} {te : TE} {vs : List Nat} {σ : L2.St} {H2 : Hp} {st : Bool} {Qt Qs : Hp → Prop} (Pv : Nat → Hp → Prop) (h0 : Pv 0 H2) (hG : ∀ i H, i ≤ n → Pv i H → G H)
    (hs : ∀ i x H H', i < n → Pv i H → Y i H x H' → g x (wipe σ vs) H' fun σ2 H2 => wipe σ2 vs = wipe σ vs ∧ tt σ2 H2 fun b H3 =>
      if b = true then te σ2 H3 fun y H4 => ∃ c, y = .bl c ∧ (c = st → Qs H4) ∧ (c ≠ st → Pv (i + 1) H4) else Pv (i + 1) H3) (hd : ∀ H, Pv n H → Qt H) :
    ∃ W : Nat → Nat → Hp → Prop, (∃ m, W 0 m H2) ∧ ∀ i m H', W i m H' → Step J g tt te vs σ st Qt Qs W i m H' := by
  refine ⟨fun i m H => m = n - i ∧ i ≤ n ∧ Pv i H, ⟨n, by simp, Nat.zero_le _, h0⟩, ?_⟩
  rintro i m H ⟨rfl, hi, p⟩
  have q := hG i H hi p
  by_cases hlt : i < n
  · exact .inr ⟨w.goes i H hlt q, Pv (i + 1), fun H' p' => ⟨n - (i + 1), by omega, rfl, hlt, p'⟩, fun x H' y => hs i x H H' hlt p (w.yields i H x H' hlt q y)⟩
  · have e : i = n := by omega
    subst e
    exact .inl ⟨w.stops H q, hd H p⟩
end
/-! ### a def whose code has a table; the end -/
structure FunC (K : PySem.W.Frag) (x qual : Str) (st : Stmt) (f : Addr) (fd : FuncData) (c : Addr) : Prop where
  ex : ∃ (oc : Value) (od : Option Addr) (kV doc pm : Value) (an : Option Addr) (ct : Value) (osl : Array (Option Value)),
    fd = PySem.W.fnOf x qual (defArgs st) (defBody st) (defScope st) .none kV doc pm an (.ref c) ct ∧ K.lookup f = some ⟨oc, od, .func fd, osl⟩ ∧ PySem.W.codeIn K (.ref c) qual = true
  kp : PySem.W.keepIn K (.ref f) = true
theorem FunC.toFun {K : PySem.W.Frag} {x qual : Str} {st : Stmt} {f : Addr} {fd : FuncData} {c : Addr} (F : FunC K x qual st f fd c) : Fun K x qual st f fd := by
  obtain ⟨oc, od, kV, doc, pm, an, ct, osl, h1, h2, h3⟩ := F.ex
  exact ⟨⟨oc, od, kV, doc, pm, an, _, ct, osl, h1, h2, h3⟩, F.kp⟩
theorem FunC.ok {P : Program} {w : World} {K : PySem.W.Frag} {mg : Str → Option Value} {base : Heap} {x qual : Str} {st : Stmt} {f : Addr} {fd : FuncData} {c : Addr} {N ps : List Str} {k : Nat} {sp : Sp} (F : FunC K x qual st f fd c) (S : FnScope N ps (defScope st))
    (len : ∀ vs H Q E, sp vs H Q E → vs.length = ps.length)
    (hbody : ∀ (A : Around) (outer : List Env) (s : Shared) (H : Hp) (vs : List V) (Q : VK) (E : XK), Room k (A.deeper (envOfC qual (defScope st) s.heap.objs.size f (.ref c))) → sp vs H Q E →
      ∃ t, PSs (cxOf CX0 P w K mg base N qual (defScope st) f (.ref c) A outer s H E).nox (defBody st) t ∧ t { nx := fun _ H' => Q .non H', rt := Q } (start N vs) H) : FnOk P w K mg base CX0 (k + 1) f fd ps sp := by
  obtain ⟨oc, od, kV, doc, pm, an, ct, osl, rfl, lk, hcd⟩ := F.ex
  refine fn_of lk hcd S len fun A outer s H vs Q E hr hsp => ?_
  obtain ⟨t, h, q⟩ := hbody A outer s H vs Q E hr hsp
  exact ⟨t, h.nox, q⟩
theorem funC_mk {K : PySem.W.Frag} {x qual : Str} {st : Stmt} {f c : Addr} {oc : Value} {od an : Option Addr} {osl : Array (Option Value)} {kV doc pm cdv ct : Value} (l : K.lookup f = some ⟨oc, od, .func (PySem.W.fnOf x qual (defArgs st) (defBody st) (defScope st) .none kV doc pm an cdv ct), osl⟩)
    (e : cdv = .ref c) (h : PySem.W.codeIn K cdv qual = true) (k : PySem.W.keepIn K (.ref f) = true) : FunC K x qual st f (PySem.W.fnOf x qual (defArgs st) (defBody st) (defScope st) .none kV doc pm an (.ref c) ct) c := by
  subst e
  exact ⟨⟨oc, od, kV, doc, pm, an, ct, osl, rfl, l, h⟩, k⟩
/-- what the top tells of the tables of its defs -/
def TabsIn (q : Program) (K : PySem.W.Frag) (h : Heap) : Prop := ∀ (x : Str) (d : DefRec) (c P : Addr), (recsOf q).find? (fun e => e.name == x) = some d → PySem.W.tabIn K x = some (c, P) →
  PySem.W.CodeHd h c P ∧ h.get? P = some { cls := .none, data := .fields #[] }
theorem walk_tabs {l : PySem.W.OpenLaw} {n k : Nat} {q : Program} {loose : List Str} {XP : (Str → Option Value) → Heap → Prop} {YP : World → Heap → Prop} {d : DefRec} {K : Params → PySem.W.Frag} {CX : World → CXT} {x : Str}
    (hn : l.most = some n) (hn2 : n ≤ sizeLine) (hdf : d.params.defaults = []) (hr : Room k callerA) (hY : ∀ (w : World) (h : Heap), YP w h → (K w.params).In h)
    (F : ∀ (w : World) (mg : Str → Option Value) (fa : Addr) (h : Heap), (K w.params).In h → h.Ns mainGlobals mg → mg d.name = some (.ref fa) → TabsIn q (K w.params) h → LamX.LawAtS l w (K w.params) (CX w) k n x mg fa h)
    (hCX : ∀ (w : World) (H : Hp) (s : Shared) (e : Value) (s' : Shared), CX w [] H s (fun _ _ _ => False) e s' → False) :
    PySem.W.WalkO q loose XP YP l.row.toRowW d [] (fun f vs => PySem.call f vs) := by
  refine Att.attach_callB hn hdf fun w s0 s1 mg mb fa o pm cd doc a vs ns G Y ho hd hcd hmg hobj hints hlen hbits hg => ?_
  have KX := hY w _ Y
  obtain ⟨fd, cs, sp, hT, nT, C, hb, hsp, hF⟩ := F w mg fa _ KX G.T.g hmg fun x d c P h1 h2 => PySem.W.tab_of G.T KX h1 h2
  exact LamX.law_callTs KX G.T.g G.T.b G.T.builtins G.T.nolimit hg hT nT C G.T.bmain hobj hints (Nat.le_trans hlen hn2) hr hF hb (fun H hH hS => hsp H a ns hlen hbits hH hS) fun H e s' => hCX w H s1 e s'
theorem tabIn_of {K : PySem.W.Frag} {x : Str} {f c P : Addr} {oc e1 : Value} {od dd : Option Addr} {fd : FuncData} {sl s2 : Array (Option Value)} {vs : Array Value} (a : PySem.W.nsIn K mainGlobals x = some (some (.ref f)))
    (l : K.lookup f = some ⟨oc, od, .func fd, sl⟩) (e : fd.code = .ref c) (k : K.lookup c = some ⟨e1, dd, .fields vs, s2⟩) (v : vs[11]? = some (.ref P)) : PySem.W.tabIn K x = some (c, P) := by
  unfold PySem.W.tabIn
  rw [a]
  simp only [l, e, k, v]
theorem tabB {base : Heap} {mg : Str → Option Value} {c P : Addr} (h : LamX.TabB base mg c P) : GxR.TabB base mg c P := ⟨h.code, h.bm, h.gP⟩
end GE

set_option Elab.async false
set_option linter.all false
set_option maxRecDepth 100000
set_option maxHeartbeats 2000000
namespace My
open PySem PySem.Spec PyProof.Rows L2
/-! ### tables -/
def Tbs (Ts : List Addr) (H : Hp) : Prop := ∀ P ∈ Ts, GxR.TabG H P
def Tk (Ts : List Addr) (H H' : Hp) : Prop := (∀ b, b ∉ Ts → H' b = H b) ∧ Tbs Ts H'
theorem Tk.refl {Ts : List Addr} {H : Hp} (h : Tbs Ts H) : Tk Ts H H := ⟨fun _ _ => rfl, h⟩
theorem Tk.trans {Ts : List Addr} {H H1 H2 : Hp} (a : Tk Ts H H1) (b : Tk Ts H1 H2) : Tk Ts H H2 := ⟨fun x hx => (b.1 x hx).trans (a.1 x hx), b.2⟩
theorem Tk.of {Ts : List Addr} {H H1 : Hp} {P : Addr} (h : Tbs Ts H) (hP : P ∈ Ts) (t : GxR.Tabbed P H H1) : Tk Ts H H1 := by
  refine ⟨fun b hb => t.2 b fun z => hb (by rw [z]; exact hP), fun b hb => ?_⟩
  by_cases z : b = P
  · rw [z]; exact t.1
  · obtain ⟨ps, e, q⟩ := h b hb
    exact ⟨ps, by rw [t.2 b z]; exact e, q⟩
theorem Tbs.out {Ts : List Addr} {H : Hp} {b : Addr} {o : HO} (h : Tbs Ts H) (e : H b = some o) (n : ∀ ps, o ≠ .tbl ps) : b ∉ Ts := fun hb => by
  obtain ⟨ps, q, _⟩ := h b hb
  rw [e] at q
  exact n ps (Option.some.inj q)
theorem Tk.at {Ts : List Addr} {H H' : Hp} {b : Addr} {o : HO} (t : Tk Ts H H') (h : Tbs Ts H) (e : H b = some o) (n : ∀ ps, o ≠ .tbl ps) : H' b = some o := by
  rw [t.1 b (h.out e n)]; exact e
theorem Tk.tup {Ts : List Addr} {H H' : Hp} {b : Addr} {xs : List V} (t : Tk Ts H H') (h : Tbs Ts H) (e : H b = some (.tup xs)) : H' b = some (.tup xs) := t.at h e fun ps z => by cases z
theorem Tbs.same {Ts : List Addr} {H H' : Hp} (h : Tbs Ts H) (s : Same H H') : Tbs Ts H' := fun b hb => let ⟨ps, e, q⟩ := h b hb; ⟨ps, s _ _ e, q⟩
theorem Tbs.new {Ts : List Addr} {H : Hp} {p : Addr} {o : HO} (h : Tbs Ts H) (hp : H p = none) : Tbs Ts (upd H p o) := h.same (same_upd hp)
theorem Tbs.kp {Ts : List Addr} {H H' : Hp} {t : Addr} {n : Nat} (h : Tbs Ts H) (hT : Tap H t n) (k : Kp t H H') : Tbs Ts H' := fun b hb => by
  obtain ⟨ps, e, q⟩ := h b hb
  refine ⟨ps, k _ _ (fun z => ?_) e, q⟩
  obtain ⟨_, _, _, _, _, e1, _⟩ := hT
  rw [z, e1] at e
  cases e
theorem Tap.tk {Ts : List Addr} {H H' : Hp} {t : Addr} {n : Nat} (hT : Tap H t n) (h : Tbs Ts H) (k : Tk Ts H H') : Tap H' t n := by
  obtain ⟨c, ns, sp, re, ca, h1, h2, h3⟩ := hT
  exact ⟨c, ns, sp, re, ca, k.at h h1 (fun ps z => by cases z), k.at h h2 (fun ps z => by cases z), h3⟩
/-! ### kinds of things -/
def Typed (H : Hp) : V → Prop
  | .non => True
  | .bl _ => True
  | .int _ => True
  | .str _ => True
  | .ref a => (∃ xs, H a = some (.tup xs)) ∨ (∃ xs, H a = some (.lst xs)) ∨ (∃ kvs, H a = some (.dK kvs))
  | _ => False
theorem Typed.of {H H' : Hp} {v : V} (h : Typed H v) (s : ∀ b o, H b = some o → (∀ ps, o ≠ .tbl ps) → v = .ref b → H' b = some o) : Typed H' v := by
  cases v with
  | ref a =>
    rcases h with ⟨xs, h⟩ | ⟨xs, h⟩ | ⟨xs, h⟩
    · exact .inl ⟨xs, s _ _ h (fun ps z => by cases z) rfl⟩
    · exact .inr (.inl ⟨xs, s _ _ h (fun ps z => by cases z) rfl⟩)
    · exact .inr (.inr ⟨xs, s _ _ h (fun ps z => by cases z) rfl⟩)
  | _ => exact h
theorem Typed.same {H H' : Hp} {v : V} (h : Typed H v) (s : Same H H') : Typed H' v := h.of fun b o e _ _ => s b o e
theorem Typed.tk {Ts : List Addr} {H H' : Hp} {v : V} (h : Typed H v) (t : Tk Ts H H') (hb : Tbs Ts H) : Typed H' v := h.of fun b o e n _ => t.at hb e n
/-- whether a thing is of a built-in kind -/
def kindB (H : Hp) (n : String) : V → Bool
  | .non => false
  | .bl _ => n == "bool" || n == "int"
  | .int _ => n == "int"
  | .str _ => n == "str"
  | .ref a => match H a with
    | some (.tup _) => n == "tuple"
    | some (.lst _) => n == "list"
    | some (.dK _) => n == "dict"
    | _ => false
  | _ => false
theorem ty_kind {K : PySem.W.Frag} {H : Hp} {v : V} {n : String} (hn : n = "int" ∨ n = "bool" ∨ n = "str" ∨ n = "tuple") (h : Typed H v) : ∃ t, TyX K H v t ∧ PySem.W.kitOne K t (.type n) = some (kindB H n v) := by
  cases v with
  | non => rcases hn with rfl | rfl | rfl | rfl <;> exact ⟨_, .base .non, kit_ty (r := false) (by decide +kernel)⟩
  | bl b =>
    rcases hn with rfl | rfl | rfl | rfl
    · exact ⟨_, .base (.bl b), kit_ty (r := true) (by decide +kernel)⟩
    · exact ⟨_, .base (.bl b), kit_ty (r := true) (by decide +kernel)⟩
    · exact ⟨_, .base (.bl b), kit_ty (r := false) (by decide +kernel)⟩
    · exact ⟨_, .base (.bl b), kit_ty (r := false) (by decide +kernel)⟩
  | int i =>
    rcases hn with rfl | rfl | rfl | rfl
    · exact ⟨_, .base (.int i), kit_ty (r := true) (by decide +kernel)⟩
    · exact ⟨_, .base (.int i), kit_ty (r := false) (by decide +kernel)⟩
    · exact ⟨_, .base (.int i), kit_ty (r := false) (by decide +kernel)⟩
    · exact ⟨_, .base (.int i), kit_ty (r := false) (by decide +kernel)⟩
  | str x =>
    rcases hn with rfl | rfl | rfl | rfl
    · exact ⟨_, .base (.str x), kit_ty (r := false) (by decide +kernel)⟩
    · exact ⟨_, .base (.str x), kit_ty (r := false) (by decide +kernel)⟩
    · exact ⟨_, .base (.str x), kit_ty (r := true) (by decide +kernel)⟩
    · exact ⟨_, .base (.str x), kit_ty (r := false) (by decide +kernel)⟩
  | ref a =>
    rcases h with ⟨xs, h⟩ | ⟨xs, h⟩ | ⟨xs, h⟩
    · refine ⟨_, .base (.tup h), ?_⟩
      have e : kindB H n (.ref a) = (n == "tuple") := by simp only [kindB, h]
      rw [e]
      rcases hn with rfl | rfl | rfl | rfl <;> exact kit_ty (by decide +kernel)
    · refine ⟨_, .base (.lst h), ?_⟩
      have e : kindB H n (.ref a) = (n == "list") := by simp only [kindB, h]
      rw [e]
      rcases hn with rfl | rfl | rfl | rfl <;> exact kit_ty (by decide +kernel)
    · refine ⟨_, .base (.dK h), ?_⟩
      have e : kindB H n (.ref a) = (n == "dict") := by simp only [kindB, h]
      rw [e]
      rcases hn with rfl | rfl | rfl | rfl <;> exact kit_ty (by decide +kernel)
  | _ => exact h.elim
def isN : V → Bool
  | .int _ => true
  | _ => false
theorem isN_int {v : V} (h : isN v = true) : ∃ i, v = .int i := by
  cases v <;> first | exact ⟨_, rfl⟩ | exact Bool.noConfusion (show false = true from h)
theorem isN_kind {H : Hp} {v : V} (h : Typed H v) : isN v = (kindB H "int" v && !kindB H "bool" v) := by
  cases v with
  | ref a => rcases h with ⟨xs, h⟩ | ⟨xs, h⟩ | ⟨xs, h⟩ <;> simp [isN, kindB, h]
  | bl b => simp [isN, kindB]
  | int i => simp [isN, kindB]
  | _ => simp [isN, kindB]
def inW (v : V) (a b : Int) : Bool := match v with
  | .int i => decide (a ≤ i) && decide (i ≤ b)
  | _ => false
theorem inW_not {v : V} {a b : Int} (h : ¬ isN v = true) : inW v a b = false := by
  cases v <;> first | rfl | exact absurd rfl h
def spNum : Sp := fun vs H Q _ => ∃ v, vs = [v] ∧ Typed H v ∧ Q (.bl (isN v)) H
def spWithin : Sp := fun vs H Q _ => ∃ v a b, vs = [v, .int a, .int b] ∧ Typed H v ∧ Q (.bl (inW v a b)) H
/-- each is below the next -/
def risB : List Int → Bool
  | a :: b :: r => decide (a < b) && risB (b :: r)
  | _ => true
theorem ris_iff : ∀ ws : List Int, risB ws = true ↔ ∀ (k : Nat) (x y : Int), ws[k]? = some x → ws[k + 1]? = some y → x < y
  | [] => by simp [risB]
  | [a] => by simp [risB]
  | a :: b :: r => by
    rw [risB, Bool.and_eq_true, decide_eq_true_eq, ris_iff (b :: r)]
    constructor
    · rintro ⟨h, t⟩ k x y h1 h2
      cases k with
      | zero =>
        have e1 : a = x := Option.some.inj h1
        have e2 : b = y := Option.some.inj h2
        rw [← e1, ← e2]; exact h
      | succ k => exact t k x y h1 h2
    · intro t
      exact ⟨t 0 a b rfl rfl, fun k x y h1 h2 => t (k + 1) x y h1 h2⟩
/-! ### homes and names -/
def unI : V → Int
  | .int i => i
  | _ => 0
def homeV (xs : List V) : Bool := xs.all (fun x => inW x 0 6) && risB (xs.map unI)
def homeB (H : Hp) : V → Bool
  | .ref a => match H a with
    | some (.tup xs) => homeV xs
    | _ => false
  | _ => false
theorem map_unI : ∀ {xs : List V}, (∀ x ∈ xs, inW x 0 6 = true) → xs = (xs.map unI).map V.int
  | [], _ => rfl
  | x :: r, h => by
    have hx := h x List.mem_cons_self
    obtain ⟨i, rfl⟩ : ∃ i, x = .int i := by
      cases x <;> first | exact ⟨_, rfl⟩ | exact Bool.noConfusion (show false = true from hx)
    rw [List.map_cons, List.map_cons, ← map_unI fun y hy => h y (List.mem_cons_of_mem _ hy)]
    rfl
/-- a thing, and what is in it where it is a tuple -/
def Deep (H : Hp) (v : V) : Prop := Typed H v ∧ ∀ a xs, v = .ref a → H a = some (.tup xs) → xs.length ≤ 1000 ∧ ∀ x ∈ xs, Typed H x
theorem kind_tup {H : Hp} {v : V} (h : Typed H v) (k : kindB H "tuple" v = true) : ∃ a xs, v = .ref a ∧ H a = some (.tup xs) := by
  cases v with
  | ref a =>
    rcases h with ⟨xs, e⟩ | ⟨xs, e⟩ | ⟨xs, e⟩
    · exact ⟨a, xs, rfl, e⟩
    · simp [kindB, e] at k
    · simp [kindB, e] at k
  | _ => simp [kindB] at k
theorem not_tup {H : Hp} {v : V} (k : ¬ kindB H "tuple" v = true) : homeB H v = false := by
  cases v with
  | ref a =>
    show (match H a with | some (.tup xs) => homeV xs | _ => false) = false
    cases e : H a with
    | none => rfl
    | some o =>
      cases o with
      | tup xs => exact absurd (by simp [kindB, e]) k
      | _ => rfl
  | _ => rfl
def signOk (c : Nat) : Bool := decide (97 ≤ c) && decide (c ≤ 122)
theorem le_a (c : Nat) : (!decide (([c] : List Nat) < [97])) = decide (97 ≤ c) := by
  by_cases h : 97 ≤ c
  · simp [List.cons_lt_cons_iff, h]
  · simp [List.cons_lt_cons_iff, h]; omega
theorem le_z (c : Nat) : (!decide (([122] : List Nat) < [c])) = decide (c ≤ 122) := by
  by_cases h : c ≤ 122
  · simp [List.cons_lt_cons_iff, h]
  · simp [List.cons_lt_cons_iff, h]; omega
def nameB : V → Bool
  | .str z => (decide (1 ≤ z.length) && decide (z.length ≤ 8)) && z.cps.toList.all signOk
  | _ => false
/-- a text of few plain signs -/
def Plain (z : Str) : Prop := z.length ≤ 100 ∧ ∀ c ∈ z.cps.toList, c < 128
def PlainV : V → Prop
  | .str z => Plain z
  | _ => True
theorem kind_str {H : Hp} {v : V} (h : Typed H v) (k : kindB H "str" v = true) : ∃ z, v = .str z := by
  cases v with
  | str z => exact ⟨z, rfl⟩
  | ref a => rcases h with ⟨xs, e⟩ | ⟨xs, e⟩ | ⟨xs, e⟩ <;> simp [kindB, e] at k
  | _ => simp [kindB] at k
theorem not_str {H : Hp} {v : V} (k : ¬ kindB H "str" v = true) : nameB v = false := by
  cases v with
  | str z => exact absurd (by simp [kindB]) k
  | _ => rfl
theorem all_get {α : Type} {l : List α} {f : α → Bool} (h : ∀ (k : Nat) (x : α), l[k]? = some x → f x = true) : l.all f = true := by
  rw [List.all_eq_true]
  intro x hx
  obtain ⟨k, hk, e⟩ := List.getElem_of_mem hx
  exact h k x (by rw [List.getElem?_eq_getElem hk, e])
theorem all_not {α : Type} {l : List α} {f : α → Bool} {k : Nat} {x : α} (h : l[k]? = some x) (e : f x = false) : l.all f = false := by
  cases z : l.all f
  · rfl
  · rw [List.all_eq_true] at z
    rw [z x (List.mem_of_getElem? h)] at e
    cases e
/-! ### lists of signs compared -/
def sg (c : Nat) : Str := ⟨#[c]⟩
theorem dp_signs {K : PySem.W.Frag} {H : Hp} : ∀ cs : List Nat, DpAll K H (cs.map fun c => V.str (sg c)) (cs.map fun c => PyData.str (sg c))
  | [] => .nil
  | c :: r => .cons (.str _) (dp_signs r)
theorem lay_signs : ∀ {cs : List Nat}, (∀ c ∈ cs, c < 128) → PyData.canLayAll0 (cs.map fun c => PyData.str (sg c)) = true
  | [], _ => by simp [PyData.canLayAll0]
  | c :: r, h => by
    have h1 := h c List.mem_cons_self
    have h2 := lay_signs fun d hd => h d (List.mem_cons_of_mem _ hd)
    rw [List.map_cons, PyData.canLayAll0, h2, PyData.canLay0, Bool.and_true]
    simp [sg, PyData.strOk]
    omega
theorem depth_signs : ∀ cs : List Nat, PyData.depthAll (cs.map fun c => PyData.str (sg c)) = 0
  | [] => by simp [PyData.depthAll]
  | c :: r => by
    rw [List.map_cons, PyData.depthAll, depth_signs r]
    simp [PyData.depth]
theorem shaped_signs {cs : List Nat} (h : ∀ c ∈ cs, c < 128) : SeqAt.shaped (.list (cs.map fun c => PyData.str (sg c))) = true := by
  unfold SeqAt.shaped
  rw [Bool.and_eq_true, PyData.canLay0, PyData.depth, depth_signs]
  exact ⟨lay_signs h, by decide⟩
theorem eqv_signs (cs : List Nat) : PyData.eqv (.list (cs.map fun c => PyData.str (sg c))) (.list []) = cs.isEmpty := by
  cases cs with
  | nil => simp [PyData.eqv, PyData.eqvAll]
  | cons c r => simp [PyData.eqv, PyData.eqvAll]
def homeFrom (f : Int) : List V → Bool
  | [] => true
  | .int i :: r => if i ≤ f ∨ 6 < i then false else homeFrom i r
  | _ :: _ => false
theorem homeFrom_eq : ∀ (xs : List V) (f : Int), -1 ≤ f → homeFrom f xs = (xs.all (fun x => inW x 0 6) && risB (f :: xs.map unI))
  | [], f, _ => rfl
  | x :: r, f, hf => by
    rw [List.all_cons, List.map_cons]
    cases x with
    | int i =>
      rw [homeFrom, risB]
      by_cases h : i ≤ f ∨ 6 < i
      · rw [if_pos h]
        rcases h with h | h
        · have : decide (f < unI (.int i)) = false := decide_eq_false (show ¬ f < i by omega)
          rw [this]
          simp
        · have : inW (.int i) 0 6 = false := by
            show (decide (0 ≤ i) && decide (i ≤ 6)) = false
            rw [decide_eq_false (show ¬ i ≤ 6 by omega), Bool.and_false]
          rw [this]
          simp
      · rw [if_neg h, homeFrom_eq r i (by omega)]
        have h1 : inW (.int i) 0 6 = true := by
          show (decide (0 ≤ i) && decide (i ≤ 6)) = true
          rw [decide_eq_true (show 0 ≤ i by omega), decide_eq_true (show i ≤ 6 by omega)]
          rfl
        have h2 : decide (f < unI (.int i)) = true := decide_eq_true (show f < i by omega)
        rw [h1, h2, Bool.true_and, Bool.true_and]
        rfl
    | _ => rfl
theorem homeV_from (xs : List V) : homeV xs = homeFrom (-1) xs := by
  rw [homeFrom_eq xs (-1) (by omega), homeV]
  cases xs with
  | nil => rfl
  | cons x r =>
    rw [List.all_cons, List.map_cons, risB]
    cases h : inW x 0 6
    · simp
    · have : decide ((-1 : Int) < unI x) = true := by
        cases x <;> first | exact Bool.noConfusion (show false = true from h) | skip
        rename_i i
        have h : (decide (0 ≤ i) && decide (i ≤ 6)) = true := h
        rw [Bool.and_eq_true, decide_eq_true_eq] at h
        exact decide_eq_true (show -1 < i by omega)
      simp [this]
theorem letters_eq : (Str.ofString "abcdefghijklmnopqrstuvwxyz").cps.toList = List.range' 97 26 := by decide +kernel
theorem in_letters (c : Nat) : decide (c ∈ (Str.ofString "abcdefghijklmnopqrstuvwxyz").cps.toList) = signOk c := by
  rw [letters_eq, signOk, ← Bool.decide_and]
  refine decide_eq_decide.mpr ?_
  rw [List.mem_range'_1]
  omega
theorem take_filter {α : Type} {l : List α} {i : Nat} {c : α} (f : α → Bool) (h : l[i]? = some c) : (l.take (i + 1)).filter f = (l.take i).filter f ++ (if f c = true then [c] else []) := by
  rw [List.take_add_one, h, List.filter_append]
  congr 1
  by_cases e : f c = true
  · simp [e]
  · simp [e]
theorem filter_empty {l : List Nat} : (l.filter fun c => !signOk c).isEmpty = l.all signOk := by
  induction l with
  | nil => rfl
  | cons c r ih =>
    rw [List.filter_cons, List.all_cons]
    cases e : signOk c
    · simp
    · simpa using ih
/-! ### plain texts -/
theorem Plain.app {a b : Str} {n m : Nat} (ha : a.length ≤ n) (hb : b.length ≤ m) (h : n + m ≤ 100) (ca : ∀ c ∈ a.cps.toList, c < 128) (cb : ∀ c ∈ b.cps.toList, c < 128) : Plain (a ++ b) := by
  refine ⟨?_, fun c hc => ?_⟩
  · rw [PySem.Str.length_append]; omega
  · rw [PySem.Str.cps_append, Array.toList_append] at hc
    rcases List.mem_append.mp hc with z | z
    · exact ca c z
    · exact cb c z
theorem app_chars {a b : Str} (ca : ∀ c ∈ a.cps.toList, c < 128) (cb : ∀ c ∈ b.cps.toList, c < 128) : ∀ c ∈ (a ++ b).cps.toList, c < 128 := fun c hc => by
  rw [PySem.Str.cps_append, Array.toList_append] at hc
  rcases List.mem_append.mp hc with z | z
  · exact ca c z
  · exact cb c z
theorem cut_chars {z : Str} (h : ∀ c ∈ z.cps.toList, c < 128) (lo hi : Option Int) : ∀ c ∈ (cutS z lo hi).cps.toList, c < 128 := fun c hc => by
  unfold cutS at hc
  rw [List.toList_toArray] at hc
  exact h c (List.mem_of_mem_drop (List.mem_of_mem_take hc))
theorem one_sign {c : Nat} (h : c < 128) : ∀ d ∈ (⟨#[c]⟩ : Str).cps.toList, d < 128 := fun d hd => by
  have hd : d ∈ [c] := hd
  rw [List.mem_singleton.mp hd]
  exact h
/-! ### tuples put together, cut -/
theorem cat_in {K : PySem.W.Frag} {a b : Addr} {xs ys : List V} {H : Hp} {Q : VK} (ha : H a = some (.tup xs)) (hb : H b = some (.tup ys)) (hl : xs.length + ys.length ≤ 1000)
    (k : ∀ r H', Same H H' → H' r = some (.tup (xs ++ ys)) → Q (.ref r) H') : rCatA K (.ref a) (.ref b) H Q := by
  refine ⟨a, b, xs, ys, rfl, rfl, .inl (.inl ha), .inl (.inl hb), sz hl, fun e => ?_, fun _ e => ?_, fun _ _ p np => ?_⟩
  · subst e
    exact k b H (Same.refl _) hb
  · subst e
    exact k a H (Same.refl _) (by rw [List.append_nil]; exact ha)
  · exact k p _ (same_upd np) upd_same
theorem cut_all (xs : List V) {lo hi : Option Int} (h1 : HT.sIx xs.length 0 lo = 0) (h2 : HT.sIx xs.length xs.length hi = xs.length) : cutV xs lo hi = xs := by
  unfold cutV
  rw [h1, h2, List.drop_zero, Nat.sub_zero, List.take_length]
theorem sl_in {K : PySem.W.Frag} {a : Addr} {xs : List V} {lo hi : Option Int} {H : Hp} {Q : VK} (ha : H a = some (.tup xs)) (k : ∀ r H', Same H H' → H' r = some (.tup (cutV xs lo hi)) → Q (.ref r) H') : rSlA K (.ref a) lo hi H Q := by
  refine ⟨a, xs, rfl, .inl (.inl ha), fun e => k a H (Same.refl _) ?_, fun _ p np => k p _ (same_upd np) upd_same⟩
  rw [cut_all xs e.1 e.2]
  exact ha
theorem cut_mem {xs : List V} {lo hi : Option Int} {x : V} (h : x ∈ cutV xs lo hi) : x ∈ xs := List.mem_of_mem_drop (List.mem_of_mem_take h)
theorem cut_len (xs : List V) (lo hi : Option Int) : (cutV xs lo hi).length ≤ xs.length := by
  unfold cutV
  rw [List.length_take, List.length_drop]
  omega
theorem deep_tup {H : Hp} {r : Addr} {xs : List V} (e : H r = some (.tup xs)) (hl : xs.length ≤ 1000) (hx : ∀ x ∈ xs, Typed H x) : Deep H (.ref r) := by
  refine ⟨.inl ⟨xs, e⟩, fun a ys h1 h2 => ?_⟩
  cases h1
  rw [e] at h2
  cases h2
  exact ⟨hl, hx⟩
theorem deep_flat {H : Hp} {v : V} (h : Typed H v) (n : ∀ a, v ≠ .ref a) : Deep H v := ⟨h, fun a _ e => absurd e (n a)⟩
theorem deep_lst {H : Hp} {r : Addr} {xs : List V} (e : H r = some (.lst xs)) : Deep H (.ref r) := ⟨.inr (.inl ⟨xs, e⟩), fun a ys h1 h2 => by
  cases h1
  rw [e] at h2
  cases h2⟩
theorem deep_dic {H : Hp} {r : Addr} {kvs : List (Key × V)} (e : H r = some (.dK kvs)) : Deep H (.ref r) := ⟨.inr (.inr ⟨kvs, e⟩), fun a ys h1 h2 => by
  cases h1
  rw [e] at h2
  cases h2⟩
theorem Deep.of {H H' : Hp} {v : V} (h : Deep H v) (s : ∀ b o, H b = some o → (∀ ps, o ≠ .tbl ps) → H' b = some o) : Deep H' v := by
  refine ⟨h.1.of fun b o e n _ => s b o e n, fun a xs e1 e2 => ?_⟩
  subst e1
  rcases h.1 with ⟨ys, e⟩ | ⟨ys, e⟩ | ⟨ys, e⟩
  · have e3 := s a _ e fun ps z => by cases z
    rw [e2] at e3
    cases e3
    exact ⟨(h.2 a _ rfl e).1, fun x hx => ((h.2 a _ rfl e).2 x hx).of fun b o e n _ => s b o e n⟩
  · have e3 := s a _ e fun ps z => by cases z
    rw [e2] at e3
    cases e3
  · have e3 := s a _ e fun ps z => by cases z
    rw [e2] at e3
    cases e3
theorem ty_ints {H : Hp} {ws : List Int} : ∀ x ∈ ws.map V.int, Typed H x := fun x hx => by
  obtain ⟨i, _, rfl⟩ := List.mem_map.mp hx
  exact True.intro
theorem dp_ints {K : PySem.W.Frag} {H : Hp} : ∀ ns : List Int, DpAll K H (ns.map V.int) (ns.map PyData.int)
  | [] => .nil
  | n :: r => .cons (.int n) (dp_ints r)
theorem shaped_tints (ns : List Int) : SeqAt.shaped (.tuple (ns.map PyData.int)) = true := by
  have h1 := PySem.W.depthAll_ints ns
  unfold SeqAt.shaped
  rw [Bool.and_eq_true]
  refine ⟨by simp only [PyData.canLay0]; exact PySem.W.canLayAll0_ints ns, decide_eq_true ?_⟩
  simp only [PyData.depth]
  omega
theorem eqv_tints (ns : List Int) : PyData.eqv (.tuple (ns.map PyData.int)) (.tuple []) = ns.isEmpty := by
  cases ns with
  | nil => simp [PyData.eqv, PyData.eqvAll]
  | cons n r => simp [PyData.eqv, PyData.eqvAll]
theorem atI_int {α : Type} {xs : List α} {i : Int} {v : α} (h0 : 0 ≤ i) (h : xs[i.toNat]? = some v) : atI xs i = some v := by
  obtain ⟨j, rfl⟩ := Int.eq_ofNat_of_zero_le h0
  exact atI_nat h
theorem np_in {σ : L2.St} {H : Hp} {Q : Option Int → Hp → Prop} (h : Q none H) : tNoPart σ H Q := h
/-- a tuple that the top has written -/
def KT (K : PySem.W.Frag) (a : Addr) (xs : List V) : Prop := ∃ (o : Obj) (its : Array Value) (n : Nat), K.lookup a = some o ∧ o.cls = .type "tuple" ∧ o.data = .seq its n ∧ its.size ≤ sizeLine ∧ Vals xs its.toList
end My

set_option Elab.async false
set_option linter.all false
set_option maxRecDepth 100000
set_option maxHeartbeats 2000000
/-! x in a tuple of texts, whatever x is -/
namespace My
open PySem PySem.Spec PyProof.Rows L2 PySem.SeqAt
theorem str_declines_dict (b : Str) (u : Tok) (l : Addr) (o : Obj) (es : Array DictEntry) (n : Nat) (hd : o.data = .dict es n) :
    Meets (Builtin.«str.__eq__» ⟨[.str b u, .ref l], []⟩) (fun _ R s => s.heap.get? l = some o ∧ R (.ok (.ret .notImplemented)) s) := by
  obtain ⟨cls, dd, data, sl⟩ := o
  simp only at hd
  subst hd
  refine .of_wp fun prog w A R s h => ?_
  obtain ⟨hp, g, d, tk, os⟩ := s
  obtain ⟨hl, h⟩ := h
  wp_walk using wpAny_loadPart' hl, wpAny_load hl
  exact ⟨_, rfl, h⟩
theorem dict_declines_str (b : Str) (u : Tok) (l : Addr) (o : Obj) (es : Array DictEntry) (n : Nat) (hc : o.cls = .type "dict") (hd : o.data = .dict es n) :
    Meets (Builtin.«dict.__eq__» ⟨[.ref l, .str b u], []⟩) (fun _ R s => s.heap.get? l = some o ∧ R (.ok (.ret .notImplemented)) s) := by
  obtain ⟨cls, dd, data, sl⟩ := o
  simp only at hd hc
  subst hd hc
  refine .of_wp fun prog w A R s h => ?_
  obtain ⟨hp, g, d, tk, os⟩ := s
  obtain ⟨hl, h⟩ := h
  wp_walk using wpAny_loadPart' hl, wpAny_load hl
  refine wpAny_of_eq (show isSubtype (.type "str") (.type "dict") = pure false by rw [isSubtype_type]; kernel_rfl) ?_
  rw [if_pos (by decide)]
  exact wpAny_bind (wpAny_rule (wpAny_pure ⟨_, rfl, h⟩))
section
variable {A : Around} {s : Shared}
theorem eq_str_dict {l : Addr} {o : Obj} {es : Array DictEntry} {n : Nat} (b : Str) (u : Tok) (ho : s.heap.get? l = some o) (hc : o.cls = .type "dict") (hd : o.data = .dict es n) (hu : A.units < cLine) : EqAt A s (.str b u) (.ref l) false := fun prog w E Q h => by
  unfold eqBool
  refine wpAny_holding (wpAny_ite_split (fun hab => absurd (eq_of_beq hab) nofun) fun _ => ?_)
  refine wpAny_bind (rc_eq_decline_or (k := false) (typeIs_str s b u) ⟨_, ho, hc⟩ (by decide) F.sub_dict_str F.slot_str_eq F.slot_dict_eq_refl
    (fun _ hq => call_meets F.slot_str_eq (typeIs_str s b u) F.entry_str_eq (F.args_str_eq_2 _ _) (str_declines_dict b u l o es n hd) ⟨ho, hq⟩)
    (fun _ hq => call_meets F.slot_dict_eq_refl ⟨_, ho, hc⟩ F.entry_dict_eq (F.args_dict_eq_2 _ _) (dict_declines_str b u l o es n hc hd) ⟨ho, hq⟩)
    (fun _ hq => wpAny_of_eq (rfl : isSame (.str b u) (.ref l) = pure false) hq) (.inr hu) (wpAny_truthy_bool h))
end
def strIn (zs : List Str) : V → Bool
  | .str z => zs.any (fun y => y == z)
  | _ => false
def eqS (x : V) : Value → Bool
  | .str y _ => (match x with | .str z => y == z | _ => false)
  | _ => false
section
variable {X : Cx}
theorem eqAt_typed {pins : List (Addr × Obj)} {σ : L2.St} {H : Hp} {s : Shared} {x : V} {v : Value} {A : Around} (I : Inv X pins σ H s) (hx : Typed H x) (rx : RelV x v) (hu : A.units < cLine) (y : Str) (t : Tok) : EqAt A s (.str y t) v (eqS x (.str y t)) := by
  cases x with
  | non => cases rx; exact EqAt.str_none y t
  | bl b => cases rx; exact EqAt.str_bool y t b
  | int i => obtain ⟨u, rfl⟩ := rx; exact EqAt.str_int y t i u
  | str z => obtain ⟨u, rfl⟩ := rx; exact EqAt.str_str y t z u
  | ref a =>
    obtain rfl : v = Value.ref a := rx
    rcases hx with ⟨xs, e⟩ | ⟨xs, e⟩ | ⟨kvs, e⟩
    · obtain ⟨_, its, _, p⟩ := (show ObjOk X.prog X.w H s.heap a (.tup xs) from I.hok a _ e)
      exact EqAt.str_tuple y t p hu
    · obtain ⟨_, its, n, _, p⟩ := (show ObjOk X.prog X.w H s.heap a (.lst xs) from I.hok a _ e)
      exact EqAt.str_list (items := its.toArray) y t ⟨_, p, rfl, n, rfl⟩ hu
    · obtain ⟨_, _, ws, _, o, es, ep, ho, hex, hd, _⟩ := (show ObjOk X.prog X.w H s.heap a (.dK kvs) from I.hok a _ e)
      exact eq_str_dict y t ho hex.1 hd hu
  | _ => exact hx.elim
theorem any_eqS {x : V} : ∀ {zs : List Str} {us : List Value}, Vals (zs.map V.str) us → us.any (eqS x) = strIn zs x
  | [], _, .nil => by cases x <;> rfl
  | z :: zs, _, .cons r t => by
    obtain ⟨k, rfl⟩ := (show ∃ k, _ = Value.str z k from r)
    rw [List.any_cons, any_eqS t]
    cases x with
    | str y => simp [eqS, strIn]
    | _ => simp [eqS, strIn]
def rInS (K : PySem.W.Frag) (neg : Bool) : R2 := fun x y H Q => ∃ (p : Addr) (zs : List Str), y = .ref p ∧ SqT K H p (zs.map V.str) ∧ Typed H x ∧ Q (.bl (if neg then !strIn zs x else strIn zs x)) H
theorem op_notIn_strs (hu : X.A.units + 1 < cLine) : OpR X (compareOp .NotIn) (rInS X.K true) := by
  intro pins s σ H x y v u Q I rx ry h
  obtain ⟨p, zs, rfl, hq, hx, q⟩ := h
  cases ry
  obtain ⟨its, r, pl, hz⟩ := I.tuple hq
  refine notIn_tupleAt (eqS x) pl (fun w hw => ?_) ⟨.bl _, H, I, rfl, ?_⟩
  · have hw : w ∈ its := by simpa using hw
    obtain ⟨z, t, rfl⟩ : ∃ z t, w = Value.str z t := by
      clear q hx rx pl hz
      have key : ∀ {zs : List Str} {us : List Value}, Vals (zs.map V.str) us → w ∈ us → ∃ z t, w = Value.str z t := by
        intro zs
        induction zs with
        | nil => intro us r hw; cases r; cases hw
        | cons z zs ih =>
          intro us r hw
          cases r with
          | cons r t =>
            rcases List.mem_cons.mp hw with e | e
            · obtain ⟨k, e2⟩ := (show ∃ k, _ = Value.str z k from r)
              exact ⟨z, k, e.trans e2⟩
            · exact ih t e
      exact key r hw
    exact eqAt_typed I hx rx hu z t
  · rw [show its.toArray.any (eqS x) = its.any (eqS x) by simp, any_eqS r]
    exact q
end
end My

set_option Elab.async false
set_option linter.all false
set_option maxRecDepth 100000
set_option maxHeartbeats 2000000
/-! PAGES: their forms, told by lists; heaps that grow beside tables -/
namespace My
open PySem PySem.Spec PyProof.Rows L2
/-! ### heaps that grow -/
def Gk (Ts : List Addr) (H H' : Hp) : Prop := (∀ b o, H b = some o → (∀ ps, o ≠ .tbl ps) → H' b = some o) ∧ Tbs Ts H'
theorem Gk.refl {Ts : List Addr} {H : Hp} (h : Tbs Ts H) : Gk Ts H H := ⟨fun _ _ e _ => e, h⟩
theorem Gk.trans {Ts : List Addr} {H H1 H2 : Hp} (a : Gk Ts H H1) (b : Gk Ts H1 H2) : Gk Ts H H2 := ⟨fun x o e n => b.1 x o (a.1 x o e n) n, b.2⟩
theorem Tk.gk {Ts : List Addr} {H H' : Hp} (t : Tk Ts H H') (h : Tbs Ts H) : Gk Ts H H' := ⟨fun _ _ e n => t.at h e n, t.2⟩
theorem Gk.of_same {Ts : List Addr} {H H' : Hp} (s : Same H H') (h : Tbs Ts H) : Gk Ts H H' := ⟨fun _ _ e _ => s _ _ e, h.same s⟩
theorem Gk.new {Ts : List Addr} {H : Hp} {p : Addr} {o : HO} (h : Tbs Ts H) (hp : H p = none) : Gk Ts H (upd H p o) := .of_same (same_upd hp) h
theorem Gk.tup {Ts : List Addr} {H H' : Hp} {b : Addr} {xs : List V} (t : Gk Ts H H') (e : H b = some (.tup xs)) : H' b = some (.tup xs) := t.1 _ _ e fun ps z => by cases z
theorem Deep.gk {Ts : List Addr} {H H' : Hp} {v : V} (h : Deep H v) (g : Gk Ts H H') : Deep H' v := h.of g.1
theorem Typed.gk {Ts : List Addr} {H H' : Hp} {v : V} (h : Typed H v) (g : Gk Ts H H') : Typed H' v := h.of fun b o e n _ => g.1 b o e n
theorem Tap.gk {Ts : List Addr} {H H' : Hp} {t : Addr} {n : Nat} (hT : Tap H t n) (k : Gk Ts H H') : Tap H' t n := by
  obtain ⟨c, ns, sp, re, ca, h1, h2, h3⟩ := hT
  exact ⟨c, ns, sp, re, ca, k.1 _ _ h1 (fun ps z => by cases z), k.1 _ _ h2 (fun ps z => by cases z), h3⟩
theorem homeB_gk {Ts : List Addr} {H H' : Hp} {v : V} (h : Typed H v) (g : Gk Ts H H') : homeB H' v = homeB H v := by
  cases v with
  | ref a =>
    rcases h with ⟨xs, e⟩ | ⟨xs, e⟩ | ⟨xs, e⟩
    · simp only [homeB, e, g.1 _ _ e (fun ps z => by cases z)]
    · simp only [homeB, e, g.1 _ _ e (fun ps z => by cases z)]
    · simp only [homeB, e, g.1 _ _ e (fun ps z => by cases z)]
  | _ => rfl
/-! ### the walk of a zip of two tuples -/
theorem walk_zipT {K : PySem.W.Frag} {a b : Addr} {xs ys : List V} {n : Nat} (hn : n = min xs.length ys.length) : Walk (RZ.ItzT K a b) n (fun H => SqT K H a xs ∧ SqT K H b ys) (YPair (fun i => xs[i]?) (fun i => ys[i]?)) := by
  subst hn
  refine ⟨fun i _ hi q => ?_, fun _ q => ⟨xs, ys, q.1, q.2, by omega⟩, fun i H v H' _ q y => ?_⟩
  · have h1 : i < xs.length := by omega
    have h2 : i < ys.length := by omega
    exact ⟨xs, ys, xs[i], ys[i], q.1, q.2, by simp [h1], by simp [h2]⟩
  · obtain ⟨T, x, z, h1, h2, h3, h4, h5⟩ := y
    exact ⟨T, x, z, h1, h2, h3, h4 xs q.1, h5 ys q.2⟩
/-! ### forms -/
def kinds : List Str := ["house", "part", "join", "home", "mourn", "ahead", "card", "visit"]
def formsOf (k : Str) : Option (List Str) :=
  if k = "house" then some ["name", "home"] else if k = "part" then some ["name", "name", "home"] else if k = "join" then some ["name", "name"]
  else if k = "home" then some ["name", "home"] else if k = "mourn" then some ["name", "many"] else if k = "ahead" then some ["name", "name"]
  else if k = "card" then some ["name", "name"] else if k = "visit" then some ["name", "name"] else none
def fitB (H : Hp) (f : Str) (v : V) : Bool := if f = "name" then nameB v else if f = "home" then homeB H v else inW v 1 60
theorem fitB_gk {Ts : List Addr} {H H' : Hp} {f : Str} {v : V} (h : Typed H v) (g : Gk Ts H H') : fitB H' f v = fitB H f v := by
  unfold fitB
  rw [homeB_gk h g]
/-- all parts fit their forms -/
def fitsB (H : Hp) (fs : List Str) (r : List V) : Bool := (fs.zip r).all fun p => fitB H p.1 p.2
/-- the parts whose form is a name -/
def namesB (fs : List Str) (r : List V) : List V := ((fs.zip r).filter fun p => decide (p.1 = ("name" : Str))).map (·.2)
def formV (H : Hp) : List V → Bool
  | .str k :: d :: r => match formsOf k with
    | some fs => inW d 0 9999 && (decide (r.length = fs.length) && fitsB H fs r)
    | none => false
  | _ => false
def formB (H : Hp) : V → Bool
  | .ref a => match H a with
    | some (.tup xs) => formV H xs
    | _ => false
  | _ => false
def namesV : List V → List V
  | .str k :: _ :: r => namesB ((formsOf k).getD []) r
  | _ => []
def unlike : List V → Bool
  | [_] => true
  | a :: b :: _ => !decide (a = b)
  | _ => true
def pageB (H : Hp) : V → Bool
  | .ref a => match H a with
    | some (.tup xs) => formV H xs && unlike (namesV xs)
    | _ => false
  | _ => false
/-- a thing, what is in it where it is a tuple, and in these -/
def Pgd (H : Hp) (v : V) : Prop := Typed H v ∧ ∀ a xs, v = .ref a → H a = some (.tup xs) → xs.length ≤ 100 ∧ ∀ x ∈ xs, Deep H x ∧ PlainV x
theorem not_tupF {H : Hp} {v : V} (k : ¬ kindB H "tuple" v = true) : formB H v = false ∧ pageB H v = false := by
  cases v with
  | ref a =>
    constructor
    · show (match H a with | some (.tup xs) => formV H xs | _ => false) = false
      cases e : H a with
      | none => rfl
      | some o =>
        cases o with
        | tup xs => exact absurd (by simp [kindB, e]) k
        | _ => rfl
    · show (match H a with | some (.tup xs) => formV H xs && unlike (namesV xs) | _ => false) = false
      cases e : H a with
      | none => rfl
      | some o =>
        cases o with
        | tup xs => exact absurd (by simp [kindB, e]) k
        | _ => rfl
  | _ => exact ⟨rfl, rfl⟩
theorem form_short {H : Hp} {xs : List V} (h : xs.length < 2) : formV H xs = false := by
  match xs, h with
  | [], _ => rfl
  | [x], _ => cases x <;> rfl
theorem kinds_iff {k : Str} : kinds.any (fun y => y == k) = (formsOf k).isSome := by
  unfold kinds formsOf
  by_cases h1 : k = "house"
  · subst h1; decide
  by_cases h2 : k = "part"
  · subst h2; decide
  by_cases h3 : k = "join"
  · subst h3; decide
  by_cases h4 : k = "home"
  · subst h4; decide
  by_cases h5 : k = "mourn"
  · subst h5; decide
  by_cases h6 : k = "ahead"
  · subst h6; decide
  by_cases h7 : k = "card"
  · subst h7; decide
  by_cases h8 : k = "visit"
  · subst h8; decide
  have f : ∀ {a : Str}, ¬ k = a → (a == k) = false := fun h => beq_eq_false_iff_ne.mpr fun z => h z.symm
  simp only [List.any_cons, List.any_nil, f h1, f h2, f h3, f h4, f h5, f h6, f h7, f h8, if_neg h1, if_neg h2, if_neg h3, if_neg h4, if_neg h5, if_neg h6, if_neg h7, if_neg h8]
  rfl
theorem form_kind {H : Hp} {x d : V} {r : List V} (h : strIn kinds x = false) : formV H (x :: d :: r) = false := by
  cases x with
  | str k =>
    have h : kinds.any (fun y => y == k) = false := h
    rw [kinds_iff] at h
    show (match formsOf k with | some fs => _ | none => false) = false
    cases e : formsOf k with
    | none => rfl
    | some fs => rw [e] at h; cases h
  | _ => rfl
theorem kind_in {x : V} (h : strIn kinds x = true) : ∃ k fs, x = .str k ∧ formsOf k = some fs := by
  cases x with
  | str k =>
    have h : kinds.any (fun y => y == k) = true := h
    rw [kinds_iff] at h
    cases e : formsOf k with
    | none => rw [e] at h; cases h
    | some fs => exact ⟨k, fs, rfl, e⟩
  | _ => cases h
theorem forms_len {k : Str} {fs : List Str} (h : formsOf k = some fs) : 2 ≤ fs.length ∧ fs.length ≤ 3 := by
  unfold formsOf at h
  repeat (split at h; · cases h; decide)
  cases h
theorem cut2 (x d : V) (r : List V) : cutV (x :: d :: r) (some 2) none = r := by
  unfold cutV
  rw [show HT.sIx (x :: d :: r).length 0 (some 2) = min 2 (x :: d :: r).length from HT.sIx_nat _ _ 2, HT.sIx_none]
  have : min 2 (x :: d :: r).length = 2 := by simp
  rw [this]
  simp
theorem Pgd.of {H H' : Hp} {v : V} (h : Pgd H v) (s : ∀ b o, H b = some o → (∀ ps, o ≠ .tbl ps) → H' b = some o) : Pgd H' v := by
  refine ⟨h.1.of fun b o e n _ => s b o e n, fun a xs e1 e2 => ?_⟩
  subst e1
  rcases h.1 with ⟨ys, e⟩ | ⟨ys, e⟩ | ⟨ys, e⟩
  · have e3 := s a _ e fun ps z => by cases z
    rw [e2] at e3
    cases e3
    exact ⟨(h.2 a _ rfl e).1, fun x hx => ⟨((h.2 a _ rfl e).2 x hx).1.of s, ((h.2 a _ rfl e).2 x hx).2⟩⟩
  · have e3 := s a _ e fun ps z => by cases z
    rw [e2] at e3
    cases e3
  · have e3 := s a _ e fun ps z => by cases z
    rw [e2] at e3
    cases e3
theorem Pgd.gk {Ts : List Addr} {H H' : Hp} {v : V} (h : Pgd H v) (g : Gk Ts H H') : Pgd H' v := h.of g.1
theorem fits_get {H : Hp} {fs : List Str} {r : List V} (h : ∀ (k : Nat) (f : Str) (x : V), fs[k]? = some f → r[k]? = some x → fitB H f x = true) : fitsB H fs r = true :=
  all_get fun k p e => by
    rw [List.getElem?_zip_eq_some] at e
    exact h k p.1 p.2 e.1 e.2
theorem fits_not {H : Hp} {fs : List Str} {r : List V} {k : Nat} {f : Str} {x : V} (h1 : fs[k]? = some f) (h2 : r[k]? = some x) (e : fitB H f x = false) : fitsB H fs r = false :=
  all_not (k := k) (x := (f, x)) (List.getElem?_zip_eq_some.mpr ⟨h1, h2⟩) e
theorem str_at {fs : List Str} {i : Nat} {x : V} (h : (fs.map V.str)[i]? = some x) : ∃ f, x = .str f ∧ fs[i]? = some f := by
  rw [List.getElem?_map] at h
  cases e : fs[i]? with
  | none => rw [e] at h; cases h
  | some f => rw [e] at h; cases h; exact ⟨f, rfl, rfl⟩
theorem names_take {fs : List Str} {r : List V} {i : Nat} {f : Str} {x : V} (h1 : fs[i]? = some f) (h2 : r[i]? = some x) :
    ((((fs.zip r).take (i + 1)).filter fun p => decide (p.1 = ("name" : Str))).map (·.2)) = ((((fs.zip r).take i).filter fun p => decide (p.1 = ("name" : Str))).map (·.2)) ++ (if f = "name" then [x] else []) := by
  rw [take_filter (c := (f, x)) _ (List.getElem?_zip_eq_some.mpr ⟨h1, h2⟩), List.map_append]
  congr 1
  by_cases e : f = "name"
  · subst e; simp
  · simp [e]
theorem sz' {n : Nat} (h : n ≤ 3) : n < sizeLine := small1000 (by omega)
theorem page_form {H : Hp} {v : V} (h : formB H v = false) : pageB H v = false := by
  cases v with
  | ref a =>
    have h : (match H a with | some (.tup xs) => formV H xs | _ => false) = false := h
    show (match H a with | some (.tup xs) => formV H xs && unlike (namesV xs) | _ => false) = false
    cases e : H a with
    | none => rfl
    | some o =>
      rw [e] at h
      cases o with
      | tup xs =>
        have h : formV H xs = false := h
        show (formV H xs && _) = false
        rw [h, Bool.false_and]
      | _ => rfl
  | _ => rfl
theorem form_inv {H : Hp} {v : V} (h : formB H v = true) : ∃ a k d r fs, v = .ref a ∧ H a = some (.tup (.str k :: d :: r)) ∧ formsOf k = some fs ∧ r.length = fs.length ∧ fitsB H fs r = true := by
  cases v with
  | ref a =>
    have h : (match H a with | some (.tup xs) => formV H xs | _ => false) = true := h
    cases e : H a with
    | none => rw [e] at h; cases h
    | some o =>
      rw [e] at h
      cases o with
      | tup xs =>
        have h : formV H xs = true := h
        match xs, h with
        | .str k :: d :: r, h =>
          have h : (match formsOf k with | some fs => inW d 0 9999 && (decide (r.length = fs.length) && fitsB H fs r) | none => false) = true := h
          cases e2 : formsOf k with
          | none => rw [e2] at h; cases h
          | some fs =>
            rw [e2] at h
            have h : (inW d 0 9999 && (decide (r.length = fs.length) && fitsB H fs r)) = true := h
            rw [Bool.and_eq_true, Bool.and_eq_true, decide_eq_true_eq] at h
            exact ⟨a, k, d, r, fs, rfl, e, e2, h.2.1, h.2.2⟩
      | _ => cases h
  | _ => cases h
theorem forms_cases {k : Str} {fs : List Str} (h : formsOf k = some fs) : fs = [("name" : Str), "home"] ∨ fs = [("name" : Str), "name", "home"] ∨ fs = [("name" : Str), "name"] ∨ fs = [("name" : Str), "many"] := by
  unfold formsOf at h
  repeat' split at h
  all_goals first | (cases h; simp; done) | cases h
theorem fit_name {H : Hp} {v : V} (h : fitB H "name" v = true) : nameB v = true := h
theorem name_str {v : V} (h : nameB v = true) : ∃ z, v = .str z := by
  cases v <;> first | exact ⟨_, rfl⟩ | cases h
theorem names_cases {H : Hp} {k : Str} {fs : List Str} {r : List V} (h : formsOf k = some fs) (hl : r.length = fs.length) (hf : fitsB H fs r = true) : (∃ x, namesB fs r = [.str x]) ∨ (∃ x y, namesB fs r = [.str x, .str y]) := by
  rcases forms_cases h with rfl | rfl | rfl | rfl
  · match r, hl with
    | [x, y], _ =>
      have hf : (fitB H "name" x && (fitB H "home" y && true)) = true := hf
      rw [Bool.and_eq_true] at hf
      obtain ⟨z, rfl⟩ := name_str (fit_name hf.1)
      exact .inl ⟨z, rfl⟩
  · match r, hl with
    | [x, y, u], _ =>
      have hf : (fitB H "name" x && (fitB H "name" y && (fitB H "home" u && true))) = true := hf
      rw [Bool.and_eq_true, Bool.and_eq_true] at hf
      obtain ⟨z, rfl⟩ := name_str (fit_name hf.1)
      obtain ⟨z2, rfl⟩ := name_str (fit_name hf.2.1)
      exact .inr ⟨z, z2, rfl⟩
  · match r, hl with
    | [x, y], _ =>
      have hf : (fitB H "name" x && (fitB H "name" y && true)) = true := hf
      rw [Bool.and_eq_true, Bool.and_eq_true] at hf
      obtain ⟨z, rfl⟩ := name_str (fit_name hf.1)
      obtain ⟨z2, rfl⟩ := name_str (fit_name hf.2.1)
      exact .inr ⟨z, z2, rfl⟩
  · match r, hl with
    | [x, y], _ =>
      have hf : (fitB H "name" x && (fitB H "many" y && true)) = true := hf
      rw [Bool.and_eq_true] at hf
      obtain ⟨z, rfl⟩ := name_str (fit_name hf.1)
      exact .inl ⟨z, rfl⟩
end My

set_option Elab.async false
set_option linter.all false
set_option maxRecDepth 100000
set_option maxHeartbeats 2000000
/-! Promises of defs that are called while nothing is being shown (no repr is under way): the text that repr tells is then the thing's own. -/
namespace GU
open PySem PySem.Spec PyProof.Rows L2
/-- as FnOk, where no repr is under way -/
structure FnG (P : Program) (w : World) (K : PySem.W.Frag) (mg : Str → Option Value) (base : Heap) (CX : CXT) (k : Nat) (f : Addr) (fd : FuncData) (ps : List Str) (sp : Sp) : Prop where
  len : ∀ vs H Q E, sp vs H Q E → vs.length = ps.length
  go : ∀ (A : Around), A.guards = some [] → ∀ (outer : List Env) (s : Shared) (H : Hp) (args : Args) (us : List Value) (vs : List V) (Q : VK) (E : XK),
    Room k A → Env0 P w K mg base A outer s H → BindsTo s fd args (ps.zip us) → Vals vs us → sp vs H Q E → codeAny (model P w) A (.call (.ref f) args) (CR CX outer P w H s Q E) s
section
variable {P : Program} {w : World} {K : PySem.W.Frag} {mg : Str → Option Value} {base : Heap} {CX : CXT} {k : Nat} {f : Addr} {fd : FuncData} {ps : List Str} {sp : Sp}
theorem FnG.of (F : FnOk P w K mg base CX k f fd ps sp) : FnG P w K mg base CX k f fd ps sp :=
  ⟨F.len, fun A _ outer s H args us vs Q E => F.run A outer s H args us vs Q E⟩
/-- a def by its body -/
theorem fnG_of {N : List Str} {name qual : Str} {params : Arguments} {body : List Stmt} {scope : Scope} {dV kV doc pm cdv ct oc : Value} {an od : Option Addr} {osl : Array (Option Value)}
    (look : K.lookup f = some ⟨oc, od, .func (PySem.W.fnOf name qual params body scope dV kV doc pm an cdv ct), osl⟩) (code : PySem.W.codeIn K cdv qual = true) (S : FnScope N ps scope)
    (len : ∀ vs H Q E, sp vs H Q E → vs.length = ps.length)
    (hbody : ∀ (A : Around) (outer : List Env) (s : Shared) (H : Hp) (vs : List V) (Q : VK) (E : XK), A.guards = some [] → Room k (A.deeper (envOfC qual scope s.heap.objs.size f cdv)) → sp vs H Q E →
      ∃ t, PSs (cxOf CX P w K mg base N qual scope f cdv A outer s H E) body t ∧ t { nx := fun _ H' => Q .non H', rt := Q } (start N vs) H) :
    FnG P w K mg base CX (k + 1) f (PySem.W.fnOf name qual params body scope dV kV doc pm an cdv ct) ps sp := by
  refine ⟨len, ?_⟩
  intro A gd outer s H args us vs Q E room env bind rel want
  obtain ⟨t, runs, reads⟩ := hbody A outer s H vs Q E gd (room.deeper _) want
  have stays : ∀ b o, base.get? b = some o → s.heap.get? b = some o := fun b o e => (env.bs b o e).1
  have inK := env.mod.kin.keeps stays
  have kinds : ∀ y ∈ ps.zip us, scope.names.lookup y.1 = some .local ∨ (scope.names.lookup y.1 = some .cell ∧ ((cellsFrom (s.heap.objs.size + 1) scope.names []).lookup y.1).isSome = true) := by
    rintro ⟨n, v⟩ hy
    refine (S.par n (List.of_mem_zip hy).1).imp id fun c => ⟨c, PySem.W.cellsFrom_some _ _ _ (.inl c)⟩
  refine codeAny_call_function room.depth (inK _ _ look) rfl S.co S.gen rfl (PySem.W.codeRec_of inK code) (bind _ _ _ _ ?_)
  refine wpAny_newFunctionEnv_cells S.kind kinds ?_
  rintro env2 rfl s1 x
  refine ⟨(env.mod.nolimit.keeps stays).keeps x.toInCall.keep, codeAny_func ?_⟩
  refine wpAny_mono (runs.run [] s1 (start N vs) H _ (inv_start S room.hd env (len _ _ _ _ want) rel x) reads) ?_ fun _ _ h => h
  intro fl s' hs
  cases fl with
  | brk => exact let ⟨_, _, _, q⟩ := hs; q.elim
  | cont => exact let ⟨_, _, _, q⟩ := hs; q.elim
  | next => exact let ⟨_, H', J, q⟩ := hs; ⟨V.non, H', J.os, J.bare, J.base, J.hok, rfl, q⟩
  | ret u => exact let ⟨v, _, H', J, rv, q⟩ := hs; ⟨v, H', J.os, J.bare, J.base, J.hok, rv, q⟩
end
section
variable {P : Program} {w : World} {K : PySem.W.Frag} {mg : Str → Option Value} {base : Heap} {k : Nat} {f : Addr} {fd : FuncData} {ps N : List Str} {sp : Sp} {x qual : Str} {st : Stmt}
theorem okG (F : Fun K x qual st f fd) (S : FnScope N ps (defScope st)) (len : ∀ vs H Q E, sp vs H Q E → vs.length = ps.length)
    (hbody : ∀ (cdv : Value) (A : Around) (outer : List Env) (s : Shared) (H : Hp) (vs : List V) (Q : VK) (E : XK), A.guards = some [] → Room k (A.deeper (envOfC qual (defScope st) s.heap.objs.size f cdv)) → sp vs H Q E →
      ∃ t, PSs (cxOf CX0 P w K mg base N qual (defScope st) f cdv A outer s H E).nox (defBody st) t ∧ t { nx := fun _ H' => Q .non H', rt := Q } (start N vs) H) : FnG P w K mg base CX0 (k + 1) f fd ps sp := by
  obtain ⟨oc, od, kV, doc, pm, an, cdv, ct, osl, rfl, lk, hcd⟩ := F.ex
  refine fnG_of lk hcd S len fun A outer s H vs Q E gd hr hsp => ?_
  obtain ⟨t, h, q⟩ := hbody cdv A outer s H vs Q E gd hr hsp
  exact ⟨t, h.nox, q⟩
theorem okGC {c : Addr} (F : GE.FunC K x qual st f fd c) (S : FnScope N ps (defScope st)) (len : ∀ vs H Q E, sp vs H Q E → vs.length = ps.length)
    (hbody : ∀ (A : Around) (outer : List Env) (s : Shared) (H : Hp) (vs : List V) (Q : VK) (E : XK), A.guards = some [] → Room k (A.deeper (envOfC qual (defScope st) s.heap.objs.size f (.ref c))) → sp vs H Q E →
      ∃ t, PSs (cxOf CX0 P w K mg base N qual (defScope st) f (.ref c) A outer s H E).nox (defBody st) t ∧ t { nx := fun _ H' => Q .non H', rt := Q } (start N vs) H) : FnG P w K mg base CX0 (k + 1) f fd ps sp := by
  obtain ⟨oc, od, kV, doc, pm, an, ct, osl, rfl, lk, hcd⟩ := F.ex
  refine fnG_of lk hcd S len fun A outer s H vs Q E gd hr hsp => ?_
  obtain ⟨t, h, q⟩ := hbody A outer s H vs Q E gd hr hsp
  exact ⟨t, h.nox, q⟩
end
section
variable {X : Cx} {CX : CXT} {k : Nat} {f : Addr} {fd : FuncData} {ps : List Str} {sp : Sp} {dvs : List V} {ds : List Value} {E : XK} {x : Str} {p pos : Pos} {e : Expr} {es : List Expr} {t : TA}
/-- f(..) -/
theorem pe_callG (F : FnG X.prog X.w X.K X.mg X.base CX k f fd ps sp) (gd : X.A.guards = some []) (hr : Room k X.A) (hg : Gl X x) (hm : X.mg x = some (.ref f)) (hk : PySem.W.keepIn X.K (.ref f) = true) (hb : Binds X.K fd ps ds) (hd : Vals dvs ds) (hx : Passes CX X E)
    (ha : PA X (e :: es) t) (hdb : (x == ("__debug__" : Str)) = false := by decide) (he : starEach (e :: es) X.env = (false, eval e X.env) :: starEach es X.env := by rfl) (hpl : (backTo pos (starEach es X.env)).any (·.1) = false := by rfl) :
    PE X (.Call (.Name x p) (e :: es) [] pos) (tCall sp dvs E t) := by
  constructor
  intro pins s σ H Q I h
  have args := ha.run pos pins s σ H _ I h
  refine wpAny_Call_Name_kw (ld_glob I hg hm (PySem.W.callWith_K (h₀ := X.base) I.ok.mod.kin hk (thn args ?_) he hpl) hdb)
  rintro us s1 ⟨vs, H1, J, r, q⟩
  refine ⟨J.kIn, wpAny_call (codeAny_mono (F.go X.A gd X.stack s1 H1 ⟨us, []⟩ (us ++ ds) (vs ++ dvs) Q E hr J.env0 (hb s1 us J.kIn ?_) (r.append hd) q) ?_)⟩
  · rw [← (r.append hd).length]
    exact F.len _ _ _ _ q
  · intro res s2 hq
    match res, hq with
    | .error e, hq => exact hx pins σ H1 s1 e s2 J hq
    | .ok (.ret u), hq => exact J.after hq
end
end GU
/-! ### repr of things -/
namespace GU
open PySem PySem.Spec PyProof.Rows L2
mutual
def Sh : PyData → Prop
  | .none => True
  | .bool _ => True
  | .int i => i.natAbs.log2 < 1920
  | .str x => ∀ c ∈ x.cps.toList, c < 16 ^ 8
  | .list xs => ShAll xs
  | .tuple xs => ShAll xs
  | .dict _ => False
def ShAll : List PyData → Prop
  | [] => True
  | x :: xs => Sh x ∧ ShAll xs
end
mutual
def cost : PyData → Nat
  | .none => 4
  | .bool _ => 5
  | .int _ => 1921
  | .str x => 10 * x.length + 4
  | .list xs => costAll xs + 3
  | .tuple xs => costAll xs + 3
  | .dict _ => 0
def costAll : List PyData → Nat
  | [] => 0
  | x :: xs => cost x + 2 + costAll xs
end
mutual
theorem sh_ok : ∀ {d : PyData}, Sh d → d.showable = true ∧ d.hasDict = false ∧ d.shown.length ≤ cost d
  | .none, _ => ⟨rfl, rfl, by decide +kernel⟩
  | .bool b, _ => ⟨rfl, rfl, by cases b <;> decide +kernel⟩
  | .int i, h => ⟨decide_eq_true h, rfl, int_text_len_1921 h⟩
  | .str x, h => ⟨rfl, rfl, Nat.le_trans (StrLaws.reprText_len x h) (Nat.add_le_add_left (by decide) _)⟩
  | .list xs, h => by
    obtain ⟨a, b, c⟩ := shAll_ok (xs := xs) h
    refine ⟨by rw [PyData.showable]; exact a, by rw [PyData.hasDict]; exact b, ?_⟩
    rw [PyData.shown, cost]
    exact Nat.le_trans (listText_len_le _) (by omega)
  | .tuple xs, h => by
    obtain ⟨a, b, c⟩ := shAll_ok (xs := xs) h
    refine ⟨by rw [PyData.showable]; exact a, by rw [PyData.hasDict]; exact b, ?_⟩
    rw [PyData.shown, cost]
    exact Nat.le_trans (tupleText_len_le _) (by omega)
  | .dict _, h => h.elim
theorem shAll_ok : ∀ {xs : List PyData}, ShAll xs → PyData.showableAll xs = true ∧ PyData.hasDictAll xs = false ∧ ((PyData.shownAll xs).map (·.length)).sum + 2 * (PyData.shownAll xs).length ≤ costAll xs
  | [], _ => ⟨rfl, rfl, Nat.le_refl _⟩
  | x :: xs, h => by
    obtain ⟨a1, b1, c1⟩ := sh_ok h.1
    obtain ⟨a2, b2, c2⟩ := shAll_ok h.2
    refine ⟨by rw [PyData.showableAll, a1, a2]; rfl, by rw [PyData.hasDictAll, b1, b2]; rfl, ?_⟩
    rw [PyData.shownAll, costAll, List.map_cons, List.sum_cons, List.length_cons]
    omega
end
section
variable {X : Cx} {k : Nat}
/-- repr of any thing of numbers, truths, texts, None, lists and tuples -/
theorem call_reprD (gd : X.A.guards = some []) (hr : Room k X.A) : CallR X (.builtin "repr") (fun xs H Q => ∃ v d, xs = [v] ∧ Dp X.K H v d ∧ Sh d ∧ d.depth ≤ 50 ∧ cost d ≤ sizeLine ∧ Q (.str d.shown) H) := by
  intro pins s σ H xs us Q I r h
  obtain ⟨v, d, rfl, dp, sh, deep, fits, q⟩ := h
  obtain ⟨u, rfl, ru⟩ := vals1 r
  obtain ⟨a, b, c⟩ := sh_ok sh
  have hu := hr.un
  cases dp with
  | non => cases ru; exact PySem.P.repr_of_none ⟨.str _, H, I.tok _, ⟨_, rfl⟩, q⟩
  | bl x => cases ru; exact PySem.P.repr_of_bool ⟨.str _, H, I.tok _, ⟨_, rfl⟩, q⟩
  | int i =>
    obtain ⟨t, rfl⟩ := ru
    exact PySem.P.repr_of_int sh ⟨.str _, H, I.tok _, ⟨_, rfl⟩, q⟩
  | str x =>
    obtain ⟨t, rfl⟩ := ru
    exact PySem.P.repr_of_str ⟨.str _, H, I.tok _, ⟨_, rfl⟩, q⟩ (Nat.le_trans c fits)
  | lst h1 h2 =>
    obtain ⟨as, rd⟩ := Dp.reads I _ _ _ (.lst h1 h2) ru
    cases ru
    exact repr_of_reads' rd a (PyData.noDict_hsm b) gd (by omega) (fun _ _ e => e) (fun h' u tk kp => ⟨.str _, H, I.turnedL (ch := []) (h' := h') (t' := tk) (fun b o _ e => kp b o e) (fun b hb => by cases hb), ⟨_, rfl⟩, q⟩) (Nat.le_trans c fits)
  | tup h1 h2 =>
    obtain ⟨as, rd⟩ := Dp.reads I _ _ _ (.tup h1 h2) ru
    cases ru
    exact repr_of_reads' rd a (PyData.noDict_hsm b) gd (by omega) (fun _ _ e => e) (fun h' u tk kp => ⟨.str _, H, I.turnedL (ch := []) (h' := h') (t' := tk) (fun b o _ e => kp b o e) (fun b hb => by cases hb), ⟨_, rfl⟩, q⟩) (Nat.le_trans c fits)
end
end GU

set_option Elab.async false
set_option linter.all false
set_option maxRecDepth 100000
set_option maxHeartbeats 2000000
/-! Numbers, texts, None and tuples of these, to any depth, as data (NestedKey): what stays, ==, in, <. -/
namespace My
open PySem PySem.Spec PyProof.Rows L2 PySem.SeqAt
mutual
inductive Nk (H : Hp) : V → NestedKey → Prop
  | non : Nk H .non .none
  | int (i : Int) : Nk H (.int i) (.num i)
  | str (z : Str) : Nk H (.str z) (.text z)
  | tup {a : Addr} {xs : List V} {ks : List NestedKey} : H a = some (.tup xs) → NkAll H xs ks → Nk H (.ref a) (.tup ks)
inductive NkAll (H : Hp) : List V → List NestedKey → Prop
  | nil : NkAll H [] []
  | cons {x : V} {k : NestedKey} {xs : List V} {ks : List NestedKey} : Nk H x k → NkAll H xs ks → NkAll H (x :: xs) (k :: ks)
end
/-- all tuples stay -/
def Tups (H H' : Hp) : Prop := ∀ b xs, H b = some (.tup xs) → H' b = some (.tup xs)
theorem Tups.refl (H : Hp) : Tups H H := fun _ _ e => e
theorem Tups.trans {H H1 H2 : Hp} (a : Tups H H1) (b : Tups H1 H2) : Tups H H2 := fun c xs e => b c xs (a c xs e)
theorem Tups.same {H H' : Hp} (s : Same H H') : Tups H H' := fun b xs e => s b _ e
theorem Tups.gk {Ts : List Addr} {H H' : Hp} (g : Gk Ts H H') : Tups H H' := fun b xs e => g.tup e
theorem Tups.kp {t : Addr} {H H' : Hp} {n : Nat} (hT : Tap H t n) (k : Kp t H H') : Tups H H' := fun b xs e => k b _ (fun z => by
  obtain ⟨_, _, _, _, _, e1, _⟩ := hT
  rw [z, e1] at e
  cases e) e
mutual
theorem Nk.at {H H' : Hp} (t : Tups H H') : ∀ {k : NestedKey} {v : V}, Nk H v k → Nk H' v k
  | .none, _, .non => .non
  | .num _, _, .int i => .int i
  | .text _, _, .str z => .str z
  | .tup _, _, .tup e h => .tup (t _ _ e) (NkAll.at t h)
theorem NkAll.at {H H' : Hp} (t : Tups H H') : ∀ {ks : List NestedKey} {xs : List V}, NkAll H xs ks → NkAll H' xs ks
  | [], _, .nil => .nil
  | _ :: _, _, .cons h r => .cons (h.at t) (r.at t)
end
mutual
theorem Nk.inj {H : Hp} : ∀ {k k' : NestedKey} {v : V}, Nk H v k → Nk H v k' → k = k'
  | .none, _, _, .non, h => by cases h; rfl
  | .num _, _, _, .int i, h => by cases h; rfl
  | .text _, _, _, .str z, h => by cases h; rfl
  | .tup _, _, _, .tup e a, h => by
    cases h with
    | tup e2 b =>
      rw [e] at e2
      cases e2
      rw [NkAll.inj a b]
theorem NkAll.inj {H : Hp} : ∀ {ks ks' : List NestedKey} {xs : List V}, NkAll H xs ks → NkAll H xs ks' → ks = ks'
  | [], _, _, .nil, h => by cases h; rfl
  | _ :: _, _, _, .cons a r, h => by
    cases h with
    | cons b t => rw [Nk.inj a b, NkAll.inj r t]
end
mutual
theorem Nk.dp {K : PySem.W.Frag} {H : Hp} : ∀ {k : NestedKey} {v : V}, Nk H v k → Dp K H v k.data
  | .none, _, .non => .non
  | .num _, _, .int i => .int i
  | .text _, _, .str z => .str z
  | .tup _, _, .tup e h => .tup (.inl (.inl e)) (NkAll.dp h)
theorem NkAll.dp {K : PySem.W.Frag} {H : Hp} : ∀ {ks : List NestedKey} {xs : List V}, NkAll H xs ks → DpAll K H xs (NestedKey.datas ks)
  | [], _, .nil => .nil
  | _ :: _, _, .cons h r => .cons h.dp r.dp
end
theorem NkAll.length {H : Hp} : ∀ {ks : List NestedKey} {xs : List V}, NkAll H xs ks → xs.length = ks.length
  | [], _, .nil => rfl
  | _ :: _, _, .cons _ r => congrArg (· + 1) r.length
theorem NkAll.get {H : Hp} : ∀ {ks : List NestedKey} {xs : List V} {i : Nat} {x : V}, NkAll H xs ks → xs[i]? = some x → ∃ k, ks[i]? = some k ∧ Nk H x k
  | [], _, _, _, .nil, e => by simp at e
  | k :: _, _, 0, _, .cons h _, e => ⟨k, rfl, by cases e; exact h⟩
  | _ :: _, _, i + 1, _, .cons _ r, e => r.get (i := i) (by simpa using e)
theorem NkAll.get' {H : Hp} : ∀ {ks : List NestedKey} {xs : List V} {i : Nat} {k : NestedKey}, NkAll H xs ks → ks[i]? = some k → ∃ x, xs[i]? = some x ∧ Nk H x k
  | [], _, _, _, .nil, e => by simp at e
  | _ :: _, x :: _, 0, _, .cons h _, e => ⟨x, rfl, by cases e; exact h⟩
  | _ :: _, _, i + 1, _, .cons _ r, e => r.get' (i := i) (by simpa using e)
theorem NkAll.app {H : Hp} : ∀ {ks ls : List NestedKey} {xs ys : List V}, NkAll H xs ks → NkAll H ys ls → NkAll H (xs ++ ys) (ks ++ ls)
  | [], _, _, _, .nil, h => h
  | _ :: _, _, _, _, .cons a r, h => .cons a (r.app h)
section
variable {X : Cx} {pins : List (Addr × Obj)} {σ : L2.St} {H : Hp} {s : Shared}
mutual
theorem Nk.is (I : Inv X pins σ H s) : ∀ {k : NestedKey} {v : V} {u : Value}, Nk H v k → RelV v u → NestedIs s.heap k u
  | .none, _, _, .non, r => by cases r; exact .none
  | .num _, _, _, .int i, r => by obtain ⟨t, rfl⟩ := r; exact .int i t
  | .text _, _, _, .str z, r => by obtain ⟨t, rfl⟩ := r; exact .text z t
  | .tup _, _, _, .tup e h, r => by
    cases r
    obtain ⟨_, its, rv, ⟨o, ho, hc, n, hd⟩⟩ := I.hok _ _ e
    exact .tup ho hc hd (NkAll.is I h (by simpa using rv))
theorem NkAll.is (I : Inv X pins σ H s) : ∀ {ks : List NestedKey} {xs : List V} {us : List Value}, NkAll H xs ks → Vals xs us → NestedAll s.heap ks us
  | [], _, _, .nil, r => by cases r; exact .nil
  | _ :: _, _, _, .cons a h, r => by
    cases r with
    | cons r1 r2 => exact .cons (a.is I r1) (h.is I r2)
end
end
/-! ### in -/
open Classical in
noncomputable def eqK (h : Heap) (k : NestedKey) (y : Value) : Bool := decide (NestedIs h k y)
theorem eqK_is {h : Heap} {k k' : NestedKey} {y : Value} (hy : NestedIs h k' y) : eqK h k y = decide (k' = k) := by
  unfold eqK
  by_cases e : k' = k
  · subst e
    rw [@decide_eq_true _ (Classical.propDecidable _) hy, decide_eq_true rfl]
  · rw [decide_eq_false e]
    exact @decide_eq_false _ (Classical.propDecidable _) fun z => e (NestedIs.inj _ _ _ hy z)
theorem any_eqK {h : Heap} {k : NestedKey} : ∀ {ks : List NestedKey} {us : List Value}, NestedAll h ks us → us.any (eqK h k) = decide (k ∈ ks)
  | [], _, .nil => rfl
  | k' :: ks, _, .cons a r => by
    rw [List.any_cons, any_eqK r, eqK_is a, Bool.eq_iff_iff]
    simp only [Bool.or_eq_true, decide_eq_true_eq, List.mem_cons]
    exact or_congr ⟨Eq.symm, Eq.symm⟩ Iff.rfl
theorem all_is {h : Heap} : ∀ {ks : List NestedKey} {us : List Value} {y : Value}, NestedAll h ks us → y ∈ us → ∃ k, k ∈ ks ∧ NestedIs h k y
  | [], _, _, .nil, e => by cases e
  | k :: _, _, _, .cons a r, e => by
    rcases List.mem_cons.mp e with e | e
    · exact ⟨k, .head _, e ▸ a⟩
    · obtain ⟨k2, h2, h3⟩ := all_is r e
      exact ⟨k2, .tail _ h2, h3⟩
def rInN (K : PySem.W.Frag) (neg : Bool) : R2 := fun x y H Q => ∃ (p : Addr) (xs : List V) (k : NestedKey) (ks : List NestedKey), y = .ref p ∧ (SqL K H p xs ∨ SqT K H p xs) ∧ Nk H x k ∧ NkAll H xs ks ∧ k.depth ≤ 50 ∧
  Q (.bl (if neg then !decide (k ∈ ks) else decide (k ∈ ks))) H
section
variable {X : Cx}
theorem in_run {pins : List (Addr × Obj)} {σ : L2.St} {H : Hp} {s : Shared} {its : List Value} {xs : List V} {ks : List NestedKey} {k : NestedKey} {x : V} {v : Value} (I : Inv X pins σ H s) (hu : X.A.units + 64 < cLine) (r : Vals xs its) (hx : Nk H x k) (rx : RelV x v) (hk : NkAll H xs ks) (hd : k.depth ≤ 50) :
    its.toArray.any (eqK s.heap k) = decide (k ∈ ks) ∧ ∀ y, y ∈ its.toArray → EqAt X.A.in1 s y v (eqK s.heap k y) := by
  have ha := hk.is I r
  refine ⟨by rw [show its.toArray.any (eqK s.heap k) = its.any (eqK s.heap k) by simp, any_eqK ha], fun y hy => ?_⟩
  obtain ⟨k', _, h'⟩ := all_is ha (by simpa using hy)
  rw [eqK_is h', NestedKey.decide_eq]
  exact eqAt_key k' k X.A.in1 s y v h' (hx.is I rx) (by show X.A.units + 1 + _ < _; omega)
theorem op_notInN (hu : X.A.units + 64 < cLine) : OpR X (compareOp .NotIn) (rInN X.K true) := by
  intro pins s σ H x y v u Q I rx ry h
  obtain ⟨p, xs, k, ks, rfl, hq, hx, hk, hd, q⟩ := h
  cases ry
  rcases hq with hq | hq
  · obtain ⟨its, r, pl, hz⟩ := I.list hq
    obtain ⟨e1, e2⟩ := in_run I hu r hx rx hk hd
    refine notIn_listAt (eqK s.heap k) pl.isList e2 ⟨.bl _, H, I, rfl, ?_⟩
    rw [e1]
    exact q
  · obtain ⟨its, r, pl, hz⟩ := I.tuple hq
    obtain ⟨e1, e2⟩ := in_run I hu r hx rx hk hd
    refine notIn_tupleAt (eqK s.heap k) pl e2 ⟨.bl _, H, I, rfl, ?_⟩
    rw [e1]
    exact q
theorem op_inN (hu : X.A.units + 64 < cLine) : OpR X (compareOp .In) (rInN X.K false) := by
  intro pins s σ H x y v u Q I rx ry h
  obtain ⟨p, xs, k, ks, rfl, hq, hx, hk, hd, q⟩ := h
  cases ry
  rcases hq with hq | hq
  · obtain ⟨its, r, pl, hz⟩ := I.list hq
    obtain ⟨e1, e2⟩ := in_run I hu r hx rx hk hd
    refine in_listAt (eqK s.heap k) pl.isList e2 ⟨.bl _, H, I, rfl, ?_⟩
    rw [e1]
    exact q
  · obtain ⟨its, r, pl, hz⟩ := I.tuple hq
    obtain ⟨e1, e2⟩ := in_run I hu r hx rx hk hd
    refine in_tupleAt (eqK s.heap k) pl e2 ⟨.bl _, H, I, rfl, ?_⟩
    rw [e1]
    exact q
end
end My

set_option Elab.async false
set_option linter.all false
set_option maxRecDepth 100000
set_option maxHeartbeats 2000000
/-! x < y of numbers, texts and tuples of these: the first place that differs decides, what stands behind it may be of any kinds. -/
namespace My
open PySem PySem.Spec PyProof.Rows L2 PySem.SeqAt
mutual
/-- what Python's x < y tells, where it tells anything -/
def ltK : NestedKey → NestedKey → Option Bool
  | .num a, .num b => some (decide (a < b))
  | .text x, .text y => some (decide (x.cps.toList < y.cps.toList))
  | .tup xs, .tup ys => ltAll xs ys
  | _, _ => none
def ltAll : List NestedKey → List NestedKey → Option Bool
  | [], [] => some false
  | [], _ :: _ => some true
  | _ :: _, [] => some false
  | x :: xs, y :: ys => if x = y then ltAll xs ys else ltK x y
end
mutual
/-- a value that is such a thing (a truth is none) -/
inductive Ns (h : Heap) : NestedKey → Value → Prop
  | none : Ns h .none .none
  | int (i : Int) (t : Tok) : Ns h (.num i) (.int i t)
  | text (x : Str) (t : Tok) : Ns h (.text x) (.str x t)
  | tup {a : Addr} {o : Obj} {vs : Array Value} {n : Nat} {ks : List NestedKey} : h.get? a = some o → o.cls = .type "tuple" → o.data = .seq vs n → NsAll h ks vs.toList → Ns h (.tup ks) (.ref a)
inductive NsAll (h : Heap) : List NestedKey → List Value → Prop
  | nil : NsAll h [] []
  | cons {k : NestedKey} {v : Value} {ks : List NestedKey} {vs : List Value} : Ns h k v → NsAll h ks vs → NsAll h (k :: ks) (v :: vs)
end
mutual
theorem Ns.is {h : Heap} : ∀ {k : NestedKey} {v : Value}, Ns h k v → NestedIs h k v
  | .none, _, .none => .none
  | .num _, _, .int i t => .int i t
  | .text _, _, .text x t => .text x t
  | .tup _, _, .tup e c d r => .tup e c d (NsAll.is r)
theorem NsAll.is {h : Heap} : ∀ {ks : List NestedKey} {vs : List Value}, NsAll h ks vs → NestedAll h ks vs
  | [], _, .nil => .nil
  | _ :: _, _, .cons a r => .cons a.is r.is
end
section
variable {X : Cx} {pins : List (Addr × Obj)} {σ : L2.St} {H : Hp} {s : Shared}
mutual
theorem Nk.ns (I : Inv X pins σ H s) : ∀ {k : NestedKey} {v : V} {u : Value}, Nk H v k → RelV v u → Ns s.heap k u
  | .none, _, _, .non, r => by cases r; exact .none
  | .num _, _, _, .int i, r => by obtain ⟨t, rfl⟩ := r; exact .int i t
  | .text _, _, _, .str z, r => by obtain ⟨t, rfl⟩ := r; exact .text z t
  | .tup _, _, _, .tup e h, r => by
    cases r
    obtain ⟨_, its, rv, ⟨o, ho, hc, n, hd⟩⟩ := I.hok _ _ e
    exact .tup ho hc hd (NkAll.ns I h (by simpa using rv))
theorem NkAll.ns (I : Inv X pins σ H s) : ∀ {ks : List NestedKey} {xs : List V} {us : List Value}, NkAll H xs ks → Vals xs us → NsAll s.heap ks us
  | [], _, _, .nil, r => by cases r; exact .nil
  | _ :: _, _, _, .cons a h, r => by
    cases r with
    | cons r1 r2 => exact .cons (a.ns I r1) (h.ns I r2)
end
end
theorem depth_mem : ∀ {xs : List NestedKey} {x : NestedKey}, x ∈ xs → x.depth ≤ NestedKey.depthAll xs
  | _ :: _, _, .head _ => by rw [NestedKey.depthAll]; omega
  | _ :: _, _, .tail _ h => by have := depth_mem h; rw [NestedKey.depthAll]; omega
section
open AutoSeq1 (wpAny_loadPart')
open MeetsSeq MeetsSeq2 MeetsSeq3 SeqRoads2
theorem tuple_ltK (l b : Addr) (items items2 : Array Value) (n n2 : Nat) (dd dd2 : Option Addr) (sl sl2 : Array (Option Value)) (xs ys : List NestedKey) (k : Bool) :
    Meets (Builtin.«tuple.__lt__» ⟨[.ref l, .ref b], []⟩) (fun A R s => s.heap.get? l = some ⟨.type "tuple", dd, .seq items n, sl⟩ ∧ s.heap.get? b = some ⟨.type "tuple", dd2, .seq items2 n2, sl2⟩ ∧
      NsAll s.heap xs items.toList ∧ NsAll s.heap ys items2.toList ∧ ltAll xs ys = some k ∧
      (∀ x ∈ xs, ∀ y u v, Ns s.heap x u → Ns s.heap y v → EqAt A.in1 s u v (decide (x = y))) ∧
      (∀ x ∈ xs, ∀ y u v c, Ns s.heap x u → Ns s.heap y v → ltK x y = some c → RcLt A.in1 s u v c) ∧ R (.ok (.ret (.bool k))) s) := by
  refine .of_wp fun prog w A R s h => ?_
  obtain ⟨hp, g, d, tk, os⟩ := s
  obtain ⟨hl, hb, h1, h2, hk, heq, hlt, h⟩ := h
  have f2 := AutoSeq1.sub_tuple_tuple
  wp_walk using wpAny_loadPart' hl, wpAny_loadPart' hb, wpAny_forIn_list _ (fun rest c s' => c.1 = none ∧ s' = ⟨hp, g, d, tk, os⟩ ∧ ∃ xs' ys' us vs, rest = List.zip us vs ∧ NsAll hp xs' us ∧ NsAll hp ys' vs ∧ (∀ x ∈ xs', x ∈ xs) ∧
    ltAll xs' ys' = some k ∧ us.length + items2.size = vs.length + items.size) _
  case turn =>
    rintro ⟨u, v⟩ rest c s' ⟨hc, rfl, xs', ys', us, vs, hz, a1, a2, sub, hk', hn⟩
    cases a1 with
    | nil => simp at hz
    | @cons x _ xs2 us2 p1 q1 =>
      cases a2 with
      | nil => simp at hz
      | @cons y _ ys2 vs2 p2 q2 =>
        rw [List.zip_cons_cons] at hz
        cases hz
        refine wpAny_bind (heq x (sub x (.head _)) y _ _ p1 p2 prog w _ _ ?_)
        by_cases e : x = y
        · rw [ltAll, if_pos e] at hk'
          rw [decide_eq_true e]
          wp_walk
          exact ⟨rfl, rfl, xs2, ys2, us2, vs2, rfl, q1, q2, fun z hz => sub z (.tail _ hz), hk', by simp only [List.length_cons] at hn; omega⟩
        · rw [ltAll, if_neg e] at hk'
          rw [decide_eq_false e, if_pos (by decide)]
          dsimp only
          refine wpAny_bind (wpAny_rule ?_)
          refine wpAny_bind (hlt x (sub x (.head _)) y _ _ k p1 p2 hk' prog w _ _ ?_)
          wp_walk
          exact ⟨_, rfl, h⟩
  case fin =>
    rintro ⟨c1, c2⟩ s' ⟨hc, rfl, xs', ys', us, vs, hz, a1, a2, sub, hk', hn⟩
    simp only at hc
    subst hc
    have fin : decide (items.size < items2.size) = k := by
      cases a1 with
      | nil =>
        cases a2 with
        | nil =>
          rw [ltAll] at hk'
          cases hk'
          simp only [List.length_nil] at hn
          exact decide_eq_false (by omega)
        | cons _ _ =>
          rw [ltAll] at hk'
          cases hk'
          simp only [List.length_nil, List.length_cons] at hn
          exact decide_eq_true (by omega)
      | cons _ _ =>
        cases a2 with
        | nil =>
          rw [ltAll] at hk'
          cases hk'
          simp only [List.length_nil, List.length_cons] at hn
          exact decide_eq_false (by omega)
        | cons _ _ => simp at hz
    wp_walk
    refine ⟨_, rfl, ?_⟩
    rw [← fin] at h
    simpa [Builtin.Tuple.tupleCompareSizes] using h
  case h => exact ⟨rfl, rfl, xs, ys, _, _, rfl, h1, h2, fun _ h => h, hk, by simp; omega⟩
theorem rcLt_num {A : Around} {s : Shared} {i j : Int} {t u : Tok} {k : Bool} (e : ltK (.num i) (.num j) = some k) : RcLt A s (.int i t) (.int j u) k := by
  rw [ltK] at e
  cases e
  exact fun prog w E Q h => PyProof.Rows.lt_int h
theorem rcLt_text {A : Around} {s : Shared} {x y : Str} {t u : Tok} {k : Bool} (e : ltK (.text x) (.text y) = some k) : RcLt A s (.str x t) (.str y u) k := by
  rw [ltK] at e
  cases e
  exact fun prog w E Q h => PySem.P.lt_str h
theorem rcLt_tup {A : Around} {s : Shared} {l b : Addr} {o o2 : Obj} {items items2 : Array Value} {n n2 : Nat} {xs ys : List NestedKey} {k : Bool} (ho : s.heap.get? l = some o) (hc : o.cls = .type "tuple") (hd : o.data = .seq items n) (r : NsAll s.heap xs items.toList)
    (ho2 : s.heap.get? b = some o2) (hc2 : o2.cls = .type "tuple") (hd2 : o2.data = .seq items2 n2) (r2 : NsAll s.heap ys items2.toList) (e : ltAll xs ys = some k) (hu : A.units + (NestedKey.depthAll xs + 1) < cLine)
    (ih : ∀ x ∈ xs, ∀ y u v c, Ns s.heap x u → Ns s.heap y v → ltK x y = some c → RcLt A.in1 s u v c) : RcLt A s (.ref l) (.ref b) k := fun prog w E Q h => by
  obtain ⟨cls, dd, data, sl⟩ := o
  obtain ⟨cls2, dd2, data2, sl2⟩ := o2
  simp only at hc hd hc2 hd2
  subst hc hd hc2 hd2
  refine richCompare_meets_room (op := .Lt) ⟨_, ho, rfl⟩ ⟨_, ho2, rfl⟩ F.slot_tuple_lt F.entry_tuple_lt (F.args_tuple_lt_2 _ _) (tuple_ltK l b items items2 n n2 dd dd2 sl sl2 xs ys k)
    ⟨ho, ho2, r, r2, e, fun x hx y u v p q => ?_, ih, (fun x => nomatch x), h⟩ (by omega)
  rw [NestedKey.decide_eq]
  have := depth_mem hx
  exact eqAt_key x y A.in1 s u v p.is q.is (by show A.units + 1 + min x.depth y.depth < cLine; omega)
end
end My

set_option Elab.async false
set_option linter.all false
set_option maxRecDepth 100000
set_option maxHeartbeats 2000000
namespace My
open PySem PySem.Spec PyProof.Rows L2 PySem.SeqAt
theorem depth_tup (xs : List NestedKey) : (NestedKey.tup xs).depth = NestedKey.depthAll xs + 1 := by rw [NestedKey.depth]
theorem rcLtN : ∀ (n : Nat) {x y : NestedKey} {A : Around} {s : Shared} {a b : Value} {k : Bool}, x.depth ≤ n → Ns s.heap x a → Ns s.heap y b → ltK x y = some k → A.units + n < cLine → RcLt A s a b k := by
  intro n
  induction n with
  | zero =>
    intro x y A s a b k hd p q e hu
    cases p with
    | none => cases q <;> simp [ltK] at e
    | int i t => cases q with
      | int j u => exact rcLt_num e
      | _ => simp [ltK] at e
    | text i t => cases q with
      | text j u => exact rcLt_text e
      | _ => simp [ltK] at e
    | tup _ _ _ _ => rw [depth_tup] at hd; omega
  | succ n ih =>
    intro x y A s a b k hd p q e hu
    cases p with
    | none => cases q <;> simp [ltK] at e
    | int i t => cases q with
      | int j u => exact rcLt_num e
      | _ => simp [ltK] at e
    | text i t => cases q with
      | text j u => exact rcLt_text e
      | _ => simp [ltK] at e
    | tup ho hc hdd r => cases q with
      | tup ho2 hc2 hd2 r2 =>
        rw [ltK] at e
        rw [depth_tup] at hd
        refine rcLt_tup ho hc hdd r ho2 hc2 hd2 r2 e (by omega) fun x hx y u v c p q ec => ?_
        have := depth_mem hx
        exact ih (by omega) p q ec (by show A.units + 1 + n < cLine; omega)
      | _ => simp [ltK] at e
def rLtN : R2 := fun x y H Q => ∃ (a b : NestedKey) (k : Bool), Nk H x a ∧ Nk H y b ∧ a.depth ≤ 50 ∧ ltK a b = some k ∧ Q (.bl k) H
theorem op_ltN {X : Cx} (hu : X.A.units + 64 < cLine) : OpR X (compareOp .Lt) rLtN := by
  intro pins s σ H x y v u Q I rx ry h
  obtain ⟨a, b, k, ha, hb, hd, e, q⟩ := h
  exact rcLtN 50 hd (ha.ns I rx) (hb.ns I ry) e (by omega) X.prog X.w _ _ ⟨.bl _, H, I, rfl, q⟩
end My

set_option Elab.async false
set_option linter.all false
set_option maxRecDepth 100000
set_option maxHeartbeats 2000000
/-! Sorting by keys that are tuples with a number first, the first place that differs decides. -/
namespace My
open PySem PySem.Spec PyProof.Rows L2 PySem.SeqAt PySem.W
abbrev toks (k : NestedKey) : List (Int ⊕ List Nat) := keyToks k.data
abbrev toksAll (ks : List NestedKey) : List (Int ⊕ List Nat) := keyToksAll (NestedKey.datas ks)
abbrev lexT (a b : List (Int ⊕ List Nat)) : Bool := PyProof.Rows.lexLt itemOrd a b
theorem toks_num (i : Int) : toks (.num i) = [.inl i] := by unfold toks; rw [NestedKey.data, keyToks]
theorem toks_text (x : Str) : toks (.text x) = [.inr x.cps.toList] := by unfold toks; rw [NestedKey.data, keyToks]
theorem toks_tup (ks : List NestedKey) : toks (.tup ks) = toksAll ks := by unfold toks toksAll; rw [NestedKey.data, keyToks]
theorem toksAll_nil : toksAll [] = [.inl 0] := by unfold toksAll; rw [NestedKey.datas, keyToksAll]
theorem toksAll_cons (k : NestedKey) (ks : List NestedKey) : toksAll (k :: ks) = .inl 1 :: (toks k ++ toksAll ks) := by unfold toks toksAll; rw [NestedKey.datas, keyToksAll]
theorem lexT_int {i j : Int} (ne : i ≠ j) (l m : List (Int ⊕ List Nat)) : lexT (.inl i :: l) (.inl j :: m) = decide (i < j) := by
  unfold lexT
  rw [lex_diff (O := itemOrd) (by intro z; cases z; exact ne rfl)]
  rfl
theorem lexT_str {x y : Str} (ne : x ≠ y) (l m : List (Int ⊕ List Nat)) : lexT (.inr x.cps.toList :: l) (.inr y.cps.toList :: m) = decide (x.cps.toList < y.cps.toList) := by
  have h1 := lex_atom (p := .inr x.cps.toList) (q := .inr y.cps.toList) (fun z => ne (str_of_cps (Sum.inr.inj z))) l m
  have h2 := dataLt_str x y
  unfold dataLt at h2
  simp only [keyToks] at h2
  exact h1.trans h2
mutual
theorem lex_key : ∀ (x y : NestedKey) (c : Bool) (l m : List (Int ⊕ List Nat)), x ≠ y → ltK x y = some c → lexT (toks x ++ l) (toks y ++ m) = c
  | .num i, .num j, c, l, m, ne, e => by
    rw [ltK] at e
    cases e
    rw [toks_num, toks_num]
    exact lexT_int (fun z => ne (by rw [z])) _ _
  | .text x, .text y, c, l, m, ne, e => by
    rw [ltK] at e
    cases e
    rw [toks_text, toks_text]
    exact lexT_str (fun z => ne (by rw [z])) _ _
  | .tup xs, .tup ys, c, l, m, ne, e => by
    rw [ltK] at e
    rw [toks_tup, toks_tup]
    exact lex_keys xs ys c l m (fun z => ne (by rw [z])) e
  | .none, y, c, l, m, ne, e => by cases y <;> simp [ltK] at e
  | .num i, .none, c, l, m, ne, e => by simp [ltK] at e
  | .num i, .text _, c, l, m, ne, e => by simp [ltK] at e
  | .num i, .tup _, c, l, m, ne, e => by simp [ltK] at e
  | .text i, .none, c, l, m, ne, e => by simp [ltK] at e
  | .text i, .num _, c, l, m, ne, e => by simp [ltK] at e
  | .text i, .tup _, c, l, m, ne, e => by simp [ltK] at e
  | .tup i, .none, c, l, m, ne, e => by simp [ltK] at e
  | .tup i, .num _, c, l, m, ne, e => by simp [ltK] at e
  | .tup i, .text _, c, l, m, ne, e => by simp [ltK] at e
theorem lex_keys : ∀ (xs ys : List NestedKey) (c : Bool) (l m : List (Int ⊕ List Nat)), xs ≠ ys → ltAll xs ys = some c → lexT (toksAll xs ++ l) (toksAll ys ++ m) = c
  | [], [], c, l, m, ne, e => absurd rfl ne
  | [], y :: ys, c, l, m, ne, e => by
    rw [ltAll] at e
    cases e
    rw [toksAll_nil, toksAll_cons]
    exact lexT_int (by decide) _ _
  | x :: xs, [], c, l, m, ne, e => by
    rw [ltAll] at e
    cases e
    rw [toksAll_nil, toksAll_cons]
    exact lexT_int (by decide) _ _
  | x :: xs, y :: ys, c, l, m, ne, e => by
    rw [ltAll] at e
    rw [toksAll_cons, toksAll_cons]
    show lexT (.inl 1 :: (toks x ++ toksAll xs ++ l)) (.inl 1 :: (toks y ++ toksAll ys ++ m)) = c
    unfold lexT
    rw [lex_self (O := itemOrd), List.append_assoc, List.append_assoc]
    by_cases h : x = y
    · rw [if_pos h] at e
      subst h
      rw [lex_pre]
      exact lex_keys xs ys c l m (fun z => ne (by rw [z])) e
    · rw [if_neg h] at e
      exact lex_key x y c _ _ h e
end
theorem ltAll_self : ∀ xs : List NestedKey, ltAll xs xs = some false
  | [] => by rw [ltAll]
  | x :: xs => by rw [ltAll, if_pos rfl, ltAll_self xs]
theorem lex_tup {xs ys : List NestedKey} {c : Bool} (e : ltAll xs ys = some c) : lexT (toks (.tup xs)) (toks (.tup ys)) = c := by
  rw [toks_tup, toks_tup]
  by_cases h : xs = ys
  · subst h
    rw [ltAll_self] at e
    cases e
    exact lex_irrefl _
  · have := lex_keys xs ys c [] [] h e
    rwa [List.append_nil, List.append_nil] at this
open Classical in
/-- the kind of keys that such things make in a heap -/
noncomputable def nkKind (h : Heap) (ks : List NestedKey) : PyProof.Rows.KeyKind where
  toKeyOrd := listOrd itemOrd
  keyOf v := if q : ∃ k, k ∈ ks ∧ Ns h k v then some (toks q.choose) else none
  dflt := ([] : List (Int ⊕ List Nat))
theorem nk_some {h : Heap} {ks : List NestedKey} {k : NestedKey} {v : Value} (hk : k ∈ ks) (hv : Ns h k v) : (nkKind h ks).keyOf v = some (toks k) := by
  have q : ∃ k, k ∈ ks ∧ Ns h k v := ⟨k, hk, hv⟩
  have e : (nkKind h ks).keyOf v = some (toks q.choose) := dif_pos q
  rw [e, NestedIs.inj _ _ _ q.choose_spec.2.is hv.is]
theorem nk_inv {h : Heap} {ks : List NestedKey} {v : Value} {t : List (Int ⊕ List Nat)} (e : (nkKind h ks).keyOf v = some t) : ∃ k, k ∈ ks ∧ Ns h k v ∧ t = toks k := by
  by_cases q : ∃ k, k ∈ ks ∧ Ns h k v
  · have e2 : (nkKind h ks).keyOf v = some (toks q.choose) := dif_pos q
    rw [e2] at e
    exact ⟨_, q.choose_spec.1, q.choose_spec.2, (Option.some.inj e).symm⟩
  · have e2 : (nkKind h ks).keyOf v = none := dif_neg q
    rw [e2] at e
    cases e
end My

set_option Elab.async false
set_option linter.all false
set_option maxRecDepth 100000
set_option maxHeartbeats 2000000
namespace My
open PySem PySem.Spec PyProof.Rows L2 PySem.SeqAt PySem.W
section
variable {prog : Program} {w : World} {A : Around} {E : Value → Shared → Prop} {s : Shared}
theorem one_ltN {f : Bool} {x y : NestedKey} {a b : Value} {c : Bool} {n : Nat} {Q : Bool → Shared → Prop} (hf : f = true → ∃ i, x = .num i) (p : Ns s.heap x a) (q : Ns s.heap y b) (e : ltK x y = some c) (hd : x.depth ≤ n) (hu : A.units + n < cLine) (hq : Q c s) :
    wpAny (model prog w) A (oneLt' f a b) Q E s := by
  cases f with
  | false =>
    rw [oneLt'_eq]
    simp only [Bool.false_eq_true, if_false]
    exact wpAny_bind (rcLtN n hd p q e hu prog w E _ (wpAny_truthy_bool hq))
  | true =>
    obtain ⟨i, rfl⟩ := hf rfl
    cases p
    cases q with
    | int j u =>
      rw [ltK] at e
      cases e
      exact oneLt_int hq
    | _ => simp [ltK] at e
theorem katLexN {b fin : Bool} {n : Nat} {Q : Bool → Shared → Prop} : ∀ (xs ys : List NestedKey) (i : Nat) (us vs : List Value) (c : Bool), NsAll s.heap xs us → NsAll s.heap ys vs → ltAll xs ys = some c → (∀ x ∈ xs, x.depth ≤ n) → A.units + n < cLine →
    (b = true → i = 0 → ∀ x r, xs = x :: r → ∃ j, x = .num j) → fin = decide (us.length < vs.length) → Q c s → KatLex prog w A b fin Q (us.zip vs) i s
  | [], [], i, _, _, c, .nil, .nil, e, _, _, _, hf, hq => by
    rw [ltAll] at e
    cases e
    subst hf
    exact kat_nil hq
  | [], y :: ys, i, _, _, c, .nil, .cons q qs, e, _, _, _, hf, hq => by
    rw [ltAll] at e
    cases e
    subst hf
    exact kat_nil (by simpa using hq)
  | x :: xs, [], i, _, _, c, .cons p ps, .nil, e, _, _, _, hf, hq => by
    rw [ltAll] at e
    cases e
    subst hf
    exact kat_nil (by simpa using hq)
  | x :: xs, y :: ys, i, _, _, c, .cons p ps, .cons q qs, e, hd, hu, hb, hf, hq => by
    rw [List.zip_cons_cons]
    have dx := hd x (.head _)
    refine kat_cons (eqAt_key x y A s _ _ p.is q.is (by omega) prog w _ _ ?_)
    rw [← NestedKey.decide_eq]
    rw [ltAll] at e
    by_cases h : x = y
    · rw [if_pos h] at e
      rw [decide_eq_true h]
      exact kat_yes (katLexN xs ys (i + 1) _ _ c ps qs e (fun z hz => hd z (.tail _ hz)) hu (fun _ hi => absurd hi (Nat.succ_ne_zero i)) (by rw [hf]; simp) hq)
    · rw [if_neg h] at e
      rw [decide_eq_false h]
      refine kat_no (one_ltN (n := n) (fun hb2 => ?_) p q e dx hu hq)
      rw [Bool.and_eq_true, beq_iff_eq] at hb2
      exact hb hb2.1 hb2.2 x xs rfl
theorem each_tups {h : Heap} : ∀ {vs : List Value} {ks : List NestedKey}, EachIs (fun v k => Ns h k v) vs ks → (∀ k ∈ ks, ∃ i r, k = .tup (.num i :: r)) → ∃ fs, KatTups h vs fs ∧ fs.length = vs.length ∧ ∀ f ∈ fs, ∃ i t, f = Value.int i t
  | _, _, .nil, _ => ⟨[], KatTups.nil, rfl, fun f hf => by cases hf⟩
  | _, _, .cons (b := k) p t, hk => by
    obtain ⟨fs, h1, h2, h3⟩ := each_tups t fun k hk2 => hk k (.tail _ hk2)
    obtain ⟨i, r, rfl⟩ := hk k (.head _)
    cases p with
    | @tup a o vs n _ ho hc hd hr =>
      cases q : vs.toList with
      | nil => rw [q] at hr; cases hr
      | cons f fr =>
        rw [q] at hr
        cases hr with
        | cons p1 p2 =>
          obtain ⟨u, rfl⟩ : ∃ u, f = Value.int i u := by cases p1; exact ⟨_, rfl⟩
          refine ⟨_ :: fs, KatTups.cons ho hc hd (by rw [← Array.getElem?_toList, q]; rfl) h1, by rw [List.length_cons, List.length_cons, h2], fun g hg => ?_⟩
          rcases List.mem_cons.mp hg with rfl | hg
          · exact ⟨_, _, rfl⟩
          · exact h3 g hg
theorem sortsN {vs : List Value} {ks : List NestedKey} {n : Nat} (e : EachIs (fun v k => Ns s.heap k v) vs ks) (hh : ∀ k ∈ ks, ∃ i r, k = .tup (.num i :: r)) (hc : ∀ k ∈ ks, ∀ k' ∈ ks, ∃ c, ltK k k' = some c) (hd : ∀ k ∈ ks, k.depth ≤ n) (hu : A.units + n < cLine) :
    SortsAt prog w A s (nkKind s.heap ks) vs := by
  refine ⟨fun v hv => ?_, tuples' ((Value.type "int") != Value.type "tuple"), ?_, fun h2 E Q hq => ?_⟩
  · obtain ⟨k, hk, p⟩ := e.left v hv
    exact ⟨_, nk_some hk p⟩
  · intro E x y a b Q ha hb hq
    obtain ⟨k, hk, p, rfl⟩ := nk_inv ha
    obtain ⟨k', hk', p', rfl⟩ := nk_inv hb
    obtain ⟨c, ec⟩ := hc k hk k' hk'
    have dk := hd k hk
    obtain ⟨i, r, rfl⟩ := hh k hk
    obtain ⟨i', r', rfl⟩ := hh k' hk'
    rw [depth_tup] at dk
    rw [ltK] at ec
    have hq : Q (lexT (toks (.tup (.num i :: r))) (toks (.tup (.num i' :: r')))) s := hq
    rw [lex_tup ec] at hq
    cases p with
    | tup h1 h2 h3 h4 =>
      cases p' with
      | tup k1 k2 k3 k4 =>
        refine kat_lt h1 h3 k1 k3 (katLexN (n := n) _ _ 0 _ _ c h4 k4 ec (fun x hx => ?_) hu (fun _ _ x r ex => ?_) (by simp) hq)
        · have := depth_mem hx
          omega
        · obtain ⟨rfl, rfl⟩ := List.cons.inj ex
          exact ⟨_, rfl⟩
  · obtain ⟨fs, t1, t2, t3⟩ := each_tups e hh
    refine kat_kind (T := Value.type "int") t1 (by omega) (fun f hf => ?_) (beq_self_eq_true _) hq
    obtain ⟨i, t, rfl⟩ := t3 f hf
    exact looks_reads (Reads.int i t)
end
end My

set_option Elab.async false
set_option linter.all false
set_option maxRecDepth 100000
set_option maxHeartbeats 2000000
/-! sorted(.., key=f), f a def of the text that tells a tuple of each item. -/
namespace My
open PySem PySem.Spec PyProof.Rows L2 PySem.SeqAt PySem.W
/-- a key's promise: F of the item's data, all else stays -/
def spKey (F : NestedKey → NestedKey) (C : NestedKey → Prop) : Sp := fun vs H Q _ => ∃ x k, vs = [x] ∧ Nk H x k ∧ C k ∧ ∀ v H', Same H H' → Nk H' v (F k) → Q v H'
/-- items with their data, by their keys -/
def leF (F : NestedKey → NestedKey) : V × NestedKey → V × NestedKey → Bool := sortLe (listOrd itemOrd) false fun b => toks (F b.2)
theorem zip_each : ∀ {xs : List V} {ks : List NestedKey} {vs : List Value}, Vals xs vs → xs.length = ks.length → EachIs (fun (v : Value) (b : V × NestedKey) => RelV b.1 v) vs (xs.zip ks)
  | [], [], _, .nil, _ => .nil
  | _ :: _, k :: ks, _, .cons r t, h => .cons r (zip_each t (by simpa using h))
theorem each_vals : ∀ {vs : List Value} {bs : List (V × NestedKey)}, EachIs (fun (v : Value) (b : V × NestedKey) => RelV b.1 v) vs bs → Vals (bs.map Prod.fst) vs
  | _, _, .nil => .nil
  | _, _, .cons r t => .cons r (each_vals t)
theorem each_snd {R : Value → NestedKey → Prop} : ∀ {vs : List Value} {xs : List V} {ks : List NestedKey}, EachIs R vs ks → xs.length = ks.length → EachIs (fun v (b : V × NestedKey) => R v b.2) vs (xs.zip ks)
  | _, [], [], .nil, _ => .nil
  | _, x :: xs, _ :: _, .cons r t, h => .cons r (each_snd t (by simpa using h))
section
variable {X : Cx} {pins : List (Addr × Obj)} {σ : L2.St} {H : Hp} {s : Shared} {f a : Addr} {fd : FuncData} {ps : List Str} {j n : Nat} {F : NestedKey → NestedKey} {C : NestedKey → Prop}
theorem Room.in2 {A : Around} (r : Room (j + 1) A) : Room j A.in1.in1 := ⟨r.hd, by have := r.dp; show A.depth + 3 * j + 5 < _; omega, by have := r.un; show A.units + 1 + 1 + 16 * j + 200 < _; omega⟩
/-- one call of the key, some objects of the sort's own pinned -/
theorem key_call (G : FnOk X.prog X.w X.K X.mg X.base CX0 j f fd ps (spKey F C)) (hr : Room (j + 1) X.A) (hb : Binds X.K fd ps []) (I : Inv X pins σ H s) {x : V} {v : Value} {k : NestedKey} (rv : RelV x v) (hx : Nk H x k) (hC : C k) {Q : Value → Shared → Prop} {E : Value → Shared → Prop}
    (h : ∀ u s' y H', Inv X pins σ H' s' → RelV y u → Same H H' → Nk H' y (F k) → Q u s') : wpAny (model X.prog X.w) X.A.in1.in1 (call (.ref f) [v]) Q E s := by
  have sp : spKey F C [x] H (fun y H' => Same H H' ∧ Nk H' y (F k)) E0 := ⟨x, k, rfl, hx, hC, fun y H' s1 n1 => ⟨s1, n1⟩⟩
  have hl : ([v] ++ ([] : List Value)).length = ps.length := by
    have := G.len _ _ _ _ sp
    simpa using this
  refine wpAny_call (codeAny_mono (G.run X.A.in1.in1 X.stack s H ⟨[v], []⟩ [v] [x] _ E0 (Room.in2 hr) I.env0.in1.in1 (hb s [v] I.kIn hl) (.cons rv .nil) sp) fun r s' hq => ?_)
  match r, hq with
  | .error e, hq => exact hq.elim
  | .ok (.ret u), hq =>
    obtain ⟨y, H', I', ry, s1, n1⟩ := I.after hq
    exact h u s' y H' I' ry s1 n1
end
end My

set_option Elab.async false
set_option linter.all false
set_option maxRecDepth 100000
set_option maxHeartbeats 2000000
namespace My
open PySem PySem.Spec PyProof.Rows L2 PySem.SeqAt PySem.W
theorem each_snocN {R : Value → NestedKey → Prop} {v : Value} {k : NestedKey} (h : R v k) : ∀ {vs : List Value} {ks : List NestedKey}, EachIs R vs ks → EachIs R (vs ++ [v]) (ks ++ [k])
  | _, _, .nil => .cons h .nil
  | _, _, .cons a t => .cons a (each_snocN h t)
section
variable {X : Cx} {pins : List (Addr × Obj)} {σ : L2.St} {H : Hp} {s : Shared} {f a : Addr} {fd : FuncData} {ps : List Str} {j n : Nat} {F : NestedKey → NestedKey} {C : NestedKey → Prop}
/-- a key's value, as it is known to the sort -/
def IsKey (H : Hp) (v : Value) (k : NestedKey) : Prop := ∃ x, Nk H x k ∧ RelV x v
theorem IsKey.at {H H' : Hp} {v : Value} {k : NestedKey} (h : IsKey H v k) (t : Tups H H') : IsKey H' v k := let ⟨x, a, b⟩ := h; ⟨x, a.at t, b⟩
theorem sort_key {xs : List V} {vs : List Value} {ks : List NestedKey} {P : PySem.Fin → Shared → Prop} {E : Value → Shared → Prop} (G : FnOk X.prog X.w X.K X.mg X.base CX0 j f fd ps (spKey F C)) (hr : Room (j + 1) X.A) (hb : Binds X.K fd ps [])
    (I : Inv X pins σ H s) (fa : FpOk X pins H a) (ho : s.heap.get? a = some (seqObj "list" vs.toArray n)) (rv : Vals xs vs) (hk : NkAll H xs ks) (hC : ∀ k ∈ ks, C k) (hh : ∀ k ∈ ks, ∃ i r, F k = .tup (.num i :: r))
    (hc : ∀ k ∈ ks, ∀ k' ∈ ks, ∃ c, ltK (F k) (F k') = some c) (hd : ∀ k ∈ ks, (F k).depth ≤ 50) (hz : vs.length ≤ sizeLine)
    (h : ∀ H' s', Same H H' → H' a = none → Inv X pins σ (upd H' a (.lst (((xs.zip ks).mergeSort (leF F)).map Prod.fst))) s' → P (.done (.ret .none)) s') :
    wpAny (model X.prog X.w) X.A.in1.in1 (ksk_tree a (.ref f) false) P E s := by
  have lk : xs.length = ks.length := hk.length
  have lv : xs.length = vs.length := rv.length
  unfold ksk_tree
  refine wpAny_bind (listItems_at ho rfl ?_)
  refine wpAny_bind (listUpdate_at ho rfl ?_ (by rw [List.size_toArray]; exact hz) (Nat.zero_le _))
  obtain ⟨e1, ho1⟩ : ∃ e1, (s.heap.update a (Obj.mapSeq fun _ => (#[] : Array Value))).get? a = some (seqObj "list" #[] e1) := ⟨_, get?_update_seq ho fun _ => #[]⟩
  have s1 := Heap.SameBut.update s.heap a (Obj.mapSeq fun _ => (#[] : Array Value))
  have I1 : Inv X pins σ H { s with heap := s.heap.update a (Obj.mapSeq fun _ => (#[] : Array Value)) } := I.turnedL (ch := [a]) (t' := s.toks) (fun b o hb e => (s1.2 b (fun z => hb (by simp [z]))).trans e) (fun b hb => by rw [List.mem_singleton.mp hb]; exact fa)
  generalize s.heap.update a (Obj.mapSeq fun _ => (#[] : Array Value)) = h1 at ho1 I1 ⊢
  refine wpAny_bind (seqEpoch_at ho1 rfl ?_)
  refine wpAny_bind (wpAny_newTuple ?_ (by show vs.length ≤ _; exact hz))
  refine wpAny_bind (wpAny_newList ?_ (Nat.zero_le _))
  refine wpAny_holding ?_
  show wpAny _ _ (ksk_rest a (.ref f) false vs.toArray e1 (.ref _)) _ _ { s with heap := (h1.push (seqObj "tuple" vs.toArray 0)).push (seqObj "list" #[] 0) }
  have I2 : Inv X pins σ H { s with heap := h1.push (seqObj "tuple" vs.toArray 0) } := I1.kept (t' := s.toks) fun b u e => Heap.get?_push_of_some _ e
  have I3 : Inv X pins σ H { s with heap := (h1.push (seqObj "tuple" vs.toArray 0)).push (seqObj "list" #[] 0) } := I2.kept (t' := s.toks) fun b u e => Heap.get?_push_of_some _ e
  have ho3 : ((h1.push (seqObj "tuple" vs.toArray 0)).push (seqObj "list" #[] 0)).get? a = some (seqObj "list" #[] e1) := Heap.get?_push_of_some _ (Heap.get?_push_of_some _ ho1)
  have hk3 : ((h1.push (seqObj "tuple" vs.toArray 0)).push (seqObj "list" #[] 0)).get? (h1.push (seqObj "tuple" vs.toArray 0)).objs.size = some (seqObj "list" #[] 0) := Heap.get?_push_size _ rfl
  have fk : FpOk X pins H (h1.push (seqObj "tuple" vs.toArray 0)).objs.size := I2.fpOk (Nat.le_refl _) (I2.hok.fresh (Nat.le_refl _))
  have hka : (h1.push (seqObj "tuple" vs.toArray 0)).objs.size ≠ a := fun z => by
    have := Heap.lt_size (Heap.get?_push_of_some (seqObj "tuple" vs.toArray 0) ho1)
    rw [← z] at this
    exact Nat.lt_irrefl _ this
  generalize (h1.push (seqObj "tuple" vs.toArray 0)).push (seqObj "list" #[] 0) = h3 at I3 ho3 hk3 ⊢
  generalize (h1.push (seqObj "tuple" vs.toArray 0)).objs.size = kS at hk3 fk hka ⊢
  clear I1 I2 ho1 s1
  unfold ksk_rest
  refine wpAny_bind (wpAny_rule ?_)
  rw [List.forIn_toArray]
  refine wpAny_bind (ksk_fold (fun i s' => ∃ H' kA e, Inv X pins σ H' s' ∧ Same H H' ∧ H' a = none ∧ H' kS = none ∧ s'.heap.get? kS = some (seqObj "list" kA e) ∧ s'.heap.get? a = some (seqObj "list" #[] e1) ∧ EachIs (IsKey H') kA.toList ((ks.map F).take i)) vs 0 _
    ⟨H, #[], 0, I3, Same.refl _, fa.1, fk.1, hk3, ho3, by rw [List.take_zero]; exact EachIs.nil⟩ ?step ?done)
  case step =>
    rintro i v s' hv ⟨H', kA, e, I', sm, na, nk, gk, ga, ek⟩
    simp only [Nat.zero_add] at ek ⊢
    have hi : i < vs.length := (List.getElem?_eq_some_iff.mp hv).1
    have hxi : xs[i]? = some xs[i] := List.getElem?_eq_getElem (by omega)
    obtain ⟨k, hki, nkx⟩ := hk.get hxi
    obtain ⟨v2, hv2, rx⟩ := rv.get hxi
    obtain rfl : v2 = v := Option.some.inj (hv2.symm.trans hv)
    have szA : kA.size ≤ vs.length := by
      have h1 := ek.length
      rw [Array.length_toList, List.length_take, List.length_map] at h1
      omega
    have Ip := I'.pinned (fp := [a, kS]) (fun b hb => by
      rcases List.mem_cons.mp hb with rfl | hb
      · exact ⟨na, fa.2⟩
      · rw [List.mem_singleton.mp hb]; exact ⟨nk, fk.2⟩) (fun b hb => by
      rcases List.mem_cons.mp hb with rfl | hb
      · exact ⟨_, ga, fun v z => by cases z⟩
      · rw [List.mem_singleton.mp hb]; exact ⟨_, gk, fun v z => by cases z⟩)
    refine wpAny_bind (wpAny_attempt (key_call G hr hb Ip rx (nkx.at (.same sm)) (hC k (List.mem_of_getElem? hki)) fun u s2 y H2 I2 ry sm2 ny => ?_))
    have pa := I2.pin (a, seqObj "list" #[] e1) (List.mem_append_right _ (List.mem_append_right _ (mem_pinsAt (by simp) ga)))
    have pk := I2.pin (kS, seqObj "list" kA e) (List.mem_append_right _ (List.mem_append_right _ (mem_pinsAt (by simp) gk)))
    have I2 := I2.unpinned
    try dsimp only
    have s3 := Heap.SameBut.update s2.heap kS (Obj.mapSeq (·.push u))
    obtain ⟨c2, hc2⟩ : ∃ c2, (s2.heap.update kS (Obj.mapSeq (·.push u))).get? kS = some (seqObj "list" (kA.push u) c2) := ⟨_, get?_update_seq pk.1 (·.push u)⟩
    refine wpAny_bind (listUpdate_at pk.1 rfl ?_ (Nat.le_trans szA hz) (by rw [Array.size_push]; omega))
    refine wpAny_pure ⟨rfl, H2, kA.push u, c2, ?_, sm.trans sm2, pa.2.1, pk.2.1, hc2, (s3.2 a hka.symm).trans pa.1, ?_⟩
    · exact I2.turnedL (ch := [kS]) (t' := s2.toks) (fun b o hb e => (s3.2 b (fun z => hb (by simp [z]))).trans e) (fun b hb => by rw [List.mem_singleton.mp hb]; exact ⟨pk.2.1, fk.2⟩)
    · have e2 : (ks.map F).take (i + 1) = (ks.map F).take i ++ [F k] := by
        rw [List.take_add_one, List.getElem?_map, hki]
        rfl
      rw [e2, Array.toList_push]
      exact each_snocN ⟨y, ny, ry⟩ (ek.mono fun v k q => q.at (.same sm2))
  case done =>
    rintro s' ⟨H', kA, e, I', sm, na, nk, gk, ga, ek⟩
    rw [List.take_of_length_le (by rw [List.length_map]; omega)] at ek
    have szA : kA.size = vs.length := by
      have h1 := ek.length
      rw [Array.length_toList, List.length_map] at h1
      omega
    refine wpAny_bind (listItems_at gk rfl ?_)
    have en : EachIs (fun v k => Ns s'.heap k v) kA.toList (ks.map F) := ek.mono fun v k q => let ⟨x, a, b⟩ := q; a.ns I' b
    have mem : ∀ {k : NestedKey}, k ∈ ks.map F → ∃ k0, k0 ∈ ks ∧ F k0 = k := fun h => List.mem_map.mp h
    have S : SortsAt X.prog X.w X.A.in1.in1 s' (nkKind s'.heap (ks.map F)) kA.toList := sortsN (n := 50) en
      (fun k hk => by obtain ⟨k0, h0, rfl⟩ := mem hk; exact hh k0 h0)
      (fun k hk k' hk' => by obtain ⟨k0, h0, rfl⟩ := mem hk; obtain ⟨k1, h1, rfl⟩ := mem hk'; exact hc k0 h0 k1 h1)
      (fun k hk => by obtain ⟨k0, h0, rfl⟩ := mem hk; exact hd k0 h0) (by have := hr.un; show X.A.units + 1 + 1 + 50 < cLine; omega)
    have hid : (hideAll s'.heap [kS]).get? kS = none := hideAll_none _ (by simp)
    have kp : KeepsBut a (hideAll s'.heap [kS]) s'.heap := fun b o _ q => of_hideAll _ q
    refine keyH_end (κ := nkKind s'.heap (ks.map F)) (b := false) (vs := vs) (h₁ := hideAll s'.heap [kS]) kp hid gk ga hka S szA hz fun h4 tk c k4 n4 => ?_
    have out := sortVals_each (κ := nkKind s'.heap (ks.map F)) (rev := false) (R := fun (v : Value) (b : V × NestedKey) => RelV b.1 v) (ks := kA.toList) (vs := vs) (bs := xs.zip ks) (fun b => toks (F b.2)) (zip_each rv lk) (by
      have e3 : EachIs (fun v k => (nkKind s'.heap (ks.map F)).keyOf v = some (toks (F k))) kA.toList ks := each_of_map F ((each_mem en).mono fun v k q => nk_some q.2 q.1)
      exact each_snd e3 lk)
    have keep : ∀ b o, b ∉ [a, kS] → s'.heap.get? b = some o → h4.get? b = some o := fun b o nb q => k4 b o (fun z => nb (by simp [z])) (hideAll_get _ q fun z => nb (by simp [List.mem_singleton.mp z]))
    have I4 : Inv X pins σ H' { s' with heap := hideAll s'.heap [], toks := s'.toks } := I'
    refine h H' _ sm na ?_
    have rel : Vals (((xs.zip ks).mergeSort (leF F)).map Prod.fst) (sortVals (nkKind s'.heap (ks.map F)) false kA.toList vs) := each_vals out
    have lo : (((xs.zip ks).mergeSort (leF F)).map Prod.fst).length ≤ sizeLine := by
      rw [List.length_map, List.length_mergeSort, List.length_zip]
      omega
    have I5 : Inv X pins σ H' { s' with heap := h4, toks := tk } := by
      refine I'.turnedL (ch := [a, kS]) (t' := tk) keep fun b hb => ?_
      rcases List.mem_cons.mp hb with rfl | hb
      · exact ⟨na, fa.2⟩
      · rw [List.mem_singleton.mp hb]; exact ⟨nk, fk.2⟩
    exact I5.take (t' := tk) (fun b ob _ e => e) ⟨na, fa.2⟩ ⟨lo, _, c, rel, n4⟩
end
end My

set_option Elab.async false
set_option linter.all false
set_option maxRecDepth 100000
set_option maxHeartbeats 2000000
/-! Dicts whose keys are tuples of numbers, texts and such tuples, all values True. -/
namespace My
open PySem PySem.Spec PyProof.Rows L2 PySem.SeqAt PySem.W
def tri (xs : List (NestedKey × Addr)) : List (NestedKey × Addr × Value) := xs.map fun p => (p.1, p.2, Value.bool true)
def NDraw (P : Program) (w : World) (d : Addr) (xs : List (NestedKey × Addr)) (h : Heap) : Prop :=
  ∃ o es ep, h.get? d = some o ∧ o.ExactDict ∧ o.data = .dict es ep ∧ es.toList = (tri xs).map (entryOfKey (nestedKind P w)) ∧ ((tri xs).map (·.1)).Nodup ∧ (d == sysModules) = false
/-- such a dict -/
def ND (P : Program) (w : World) (d : Addr) (xs : List (NestedKey × Addr)) : HO := .ext (NDraw P w d xs)
/-- such a dict (of none, too), its keys there -/
def NdAt (P : Program) (w : World) (H : Hp) (d : Addr) (xs : List (NestedKey × Addr)) : Prop := (H d = some (ND P w d xs) ∨ (xs = [] ∧ H d = some (.dK []))) ∧ ∀ p ∈ xs, Nk H (.ref p.2) p.1 ∧ p.1.depth ≤ 8
def putN (xs : List (NestedKey × Addr)) (k : NestedKey) (a : Addr) : List (NestedKey × Addr) := if k ∈ xs.map (·.1) then xs else xs ++ [(k, a)]
theorem tri_keys (xs : List (NestedKey × Addr)) : (tri xs).map (·.1) = xs.map (·.1) := by
  unfold tri
  rw [List.map_map]
  rfl
theorem atKey_some {xs : List (NestedKey × Addr)} {k : NestedKey} : (atKey (tri xs) k).isSome = decide (k ∈ xs.map (·.1)) := by
  induction xs with
  | nil => rfl
  | cons p xs ih =>
    unfold tri atKey at *
    rw [List.map_cons, List.find?_cons]
    by_cases e : p.1 = k
    · subst e
      simp
    · have e2 : ¬ k = p.1 := fun z => e z.symm
      simp only [decide_eq_false e]
      rw [ih, List.map_cons]
      simp [List.mem_cons, e2]
theorem stored_tri (xs : List (NestedKey × Addr)) (k : NestedKey) (a : Addr) : storedH (tri xs) k a (.bool true) = tri (putN xs k a) := by
  unfold storedH putN
  rw [atKey_some]
  by_cases e : k ∈ xs.map (·.1)
  · rw [decide_eq_true e, if_pos rfl, if_pos e]
    unfold tri
    rw [List.map_map]
    refine List.map_congr_left fun p _ => ?_
    show putAt k (Value.bool true) (p.1, p.2, Value.bool true) = _
    unfold putAt
    split <;> rfl
  · rw [decide_eq_false e, if_neg Bool.false_ne_true, if_neg e]
    unfold tri
    rw [List.map_append]
    rfl
section
variable {X : Cx} {pins : List (Addr × Obj)} {σ : L2.St} {H : Hp} {s : Shared} {d : Addr} {xs : List (NestedKey × Addr)}
theorem nd_full (I : Inv X pins σ H s) (h : NdAt X.prog X.w H d xs) : s.heap.DictOfH (nestedKind X.prog X.w) d (tri xs) ∧ (d == sysModules) = false := by
  have keys : ∀ x ∈ tri xs, (nestedKind X.prog X.w).is s.heap x.1 x.2.1 := fun x hx => by
    obtain ⟨p, hp, rfl⟩ := List.mem_map.mp hx
    exact ⟨(h.2 p hp).1.is I rfl, (h.2 p hp).2⟩
  rcases h.1 with e | ⟨rfl, e⟩
  · obtain ⟨⟨o, es, ep, h1, h2, h3, h4, h5, h6⟩, _⟩ := (show ObjOk X.prog X.w H s.heap d (ND X.prog X.w d xs) from I.hok d _ e)
    exact ⟨⟨o, es, ep, h1, h2, h3, h4, keys, h5⟩, h6⟩
  · obtain ⟨z, hd, vs, rel, o, es, ep, h1, h2, h3, h4⟩ := (show ObjOk X.prog X.w H s.heap d (.dK []) from I.hok d _ e)
    cases rel
    have e0 : es.toList = [] := by
      have := h4.2.1
      cases q : es.toList with
      | nil => rfl
      | cons a b => rw [q] at this; cases this
    exact ⟨⟨o, es, ep, h1, h2, h3, e0, keys, List.nodup_nil⟩, hd⟩
theorem nd_new {P : Program} {w : World} {H : Hp} {h : Heap} (m : h.DictOfH (nestedKind P w) d (tri xs)) (hd : (d == sysModules) = false) : ObjOk P w H h d (ND P w d xs) := by
  obtain ⟨o, es, ep, h1, h2, h3, h4, _, h5⟩ := m
  refine ⟨⟨o, es, ep, h1, h2, h3, h4, h5, hd⟩, ⟨o, h1⟩, ?_⟩
  rintro g1 g2 ⟨o, es, ep, k1, k2⟩ up
  exact ⟨o, es, ep, up o k1, k2⟩
theorem nd_mut {P : Program} {w : World} {H : Hp} (h : NdAt P w H d xs) : Mut (H d) := by
  rcases h.1 with e | ⟨_, e⟩ <;> rw [e] <;> trivial
/-- behind d[k] = True -/
theorem nd_put {P : Program} {w : World} {H : Hp} {a : Addr} {k : NestedKey} (h : NdAt P w H d xs) (hk : Nk H (.ref a) k) (hd : k.depth ≤ 8) (nd : ∀ ys, H d ≠ some (.tup ys)) : NdAt P w (upd H d (ND P w d (putN xs k a))) d (putN xs k a) := by
  have t : Tups H (upd H d (ND P w d (putN xs k a))) := fun b ys e => by
    rw [upd_ne (fun z => nd ys (by rw [← z]; exact e))]
    exact e
  refine ⟨.inl upd_same, fun p hp => ?_⟩
  unfold putN at hp
  split at hp
  · exact ⟨(h.2 p hp).1.at t, (h.2 p hp).2⟩
  · rcases List.mem_append.mp hp with hp | hp
    · exact ⟨(h.2 p hp).1.at t, (h.2 p hp).2⟩
    · rw [List.mem_singleton.mp hp]
      exact ⟨hk.at t, hd⟩
theorem nd_ntup {P : Program} {w : World} {H : Hp} (h : NdAt P w H d xs) : ∀ ys, H d ≠ some (.tup ys) := fun ys z => by
  rcases h.1 with e | ⟨_, e⟩
  · rw [e] at z; cases z
  · rw [e] at z; cases z
theorem nd_dictSet {A : Around} {a : Addr} {k : NestedKey} {E : Value → Shared → Prop} {Q : Unit → Shared → Prop} (hu : A.units + 8 < cLine) (I : Inv X pins σ H s) (h : NdAt X.prog X.w H d xs) (hk : Nk H (.ref a) k) (hd : k.depth ≤ 8) (hz : xs.length < sizeLine)
    (q : ∀ s', Inv X pins σ (upd H d (ND X.prog X.w d (putN xs k a))) s' → Q () s') : wpAny (model X.prog X.w) A (dictSet d (.ref a) (.bool true)) Q E s := by
  obtain ⟨m, hs⟩ := nd_full I h
  refine wpAny_dictSet_heap (knd := nestedKind X.prog X.w) (hsz := by unfold tri; rw [List.length_map]; omega) hu ⟨hk.is I rfl, hd⟩ m fun h' m' sb => q _ ?_
  rw [stored_tri] at m'
  have he : ∃ o, h'.get? d = some o := let ⟨o, _, _, g, _⟩ := m'; ⟨o, g⟩
  exact d_write I (nd_mut h) sb he (nd_new m' hs)
theorem nd_setItem {A : Around} {a : Addr} {k : NestedKey} {E : Value → Shared → Prop} {Q : Unit → Shared → Prop} (hu : A.units + 9 < cLine) (I : Inv X pins σ H s) (h : NdAt X.prog X.w H d xs) (hk : Nk H (.ref a) k) (hd : k.depth ≤ 8) (hz : xs.length < sizeLine)
    (q : ∀ s', Inv X pins σ (upd H d (ND X.prog X.w d (putN xs k a))) s' → Q () s') : wpAny (model X.prog X.w) A (setItem (.ref d) (.ref a) (.bool true)) Q E s := by
  obtain ⟨m, hs⟩ := nd_full I h
  refine wpAny_setItem_heap (knd := nestedKind X.prog X.w) (hsz := by unfold tri; rw [List.length_map]; omega) (by show A.units + 1 + 8 < cLine; omega) ⟨hk.is I rfl, hd⟩ m fun h' m' sb => q _ ?_
  rw [stored_tri] at m'
  have he : ∃ o, h'.get? d = some o := let ⟨o, _, _, g, _⟩ := m'; ⟨o, g⟩
  exact d_write I (nd_mut h) sb he (nd_new m' hs)
end
section
variable {X : Cx} {o i value : Expr} {td ty tv : TE} {pos pos' : Pos}
/-- d[k] = True -/
def sDPutN (P : Program) (w : World) (td ty tv : TE) : TS := fun D σ H => tv σ H fun v H1 => td σ H1 fun x H2 => ty σ H2 fun y H3 => ∃ d a k xs, v = .bl true ∧ x = .ref d ∧ y = .ref a ∧ NdAt P w H3 d xs ∧ Nk H3 (.ref a) k ∧ k.depth ≤ 8 ∧ xs.length < sizeLine ∧ D.nx σ (upd H3 d (ND P w d (putN xs k a)))
theorem ps_dputN (hu : X.A.units + 64 < cLine) (ho : PE X o td) (hi : PE X i ty) (hv : PE X value tv) (hs : swapsWith value (some (.Subscript o i pos')) pos.line X.env = pure false) : PS X (.Assign [.Subscript o i pos'] value pos) (sDPutN X.prog X.w td ty tv) := by
  constructor
  intro pins s σ H D I h
  refine wpAny_Assign_Subscript (thn (hv.run pins s σ H _ I h) ?_) hs
  rintro r s1 ⟨v, H1, I1, rv, q1⟩
  refine thn (ho.run pins s1 σ H1 _ I1 q1) ?_
  rintro u s2 ⟨x, H2, I2, rx, q2⟩
  refine thn (hi.run pins s2 σ H2 _ I2 q2) ?_
  rintro iv s3 ⟨y, H3, I3, ry, d, a, k, xs, rfl, rfl, rfl, hn, hk, hd, hz, q3⟩
  cases rv
  cases rx
  cases ry
  exact nd_setItem (by omega) I3 hn hk hd hz fun s4 I4 => ⟨σ, _, I4, q3⟩
/-- k in d, k not in d -/
def rInD (P : Program) (w : World) (neg : Bool) : R2 := fun x y H Q => ∃ d a k xs, x = .ref a ∧ y = .ref d ∧ NdAt P w H d xs ∧ Nk H (.ref a) k ∧ k.depth ≤ 8 ∧ Q (.bl (if neg then !decide (k ∈ xs.map (·.1)) else decide (k ∈ xs.map (·.1)))) H
theorem op_inD (hu : X.A.units + 64 < cLine) : OpR X (compareOp .In) (rInD X.prog X.w false) := by
  intro pins s σ H x y v u Q I rx ry h
  obtain ⟨d, a, k, xs, rfl, rfl, hn, hk, hd, q⟩ := h
  cases rx
  cases ry
  obtain ⟨m, hs⟩ := nd_full I hn
  refine wpAny_in_heap (knd := nestedKind X.prog X.w) (by show X.A.units + 1 + 8 < cLine; omega) ⟨hk.is I rfl, hd⟩ hs m ⟨.bl _, H, I.tok _, rfl, ?_⟩
  rw [atKey_some]
  exact q
theorem op_notInD (hu : X.A.units + 64 < cLine) : OpR X (compareOp .NotIn) (rInD X.prog X.w true) := by
  intro pins s σ H x y v u Q I rx ry h
  obtain ⟨d, a, k, xs, rfl, rfl, hn, hk, hd, q⟩ := h
  cases rx
  cases ry
  obtain ⟨m, hs⟩ := nd_full I hn
  refine notIn_keyed (knd := nestedKind X.prog X.w) (by show X.A.units + 1 + 8 < cLine; omega) ⟨hk.is I rfl, hd⟩ hs ⟨_, m, rfl⟩ ⟨.bl _, H, I.tok _, rfl, ?_⟩
  rw [valueAt_pairsH, Option.isSome_map, atKey_some]
  exact q
end
end My

set_option Elab.async false
set_option linter.all false
set_option maxRecDepth 100000
set_option maxHeartbeats 2000000
namespace My
open PySem PySem.Spec PyProof.Rows L2 PySem.SeqAt PySem.W
theorem kdl_rawD {prog : Program} {w : World} {d : Addr} {es : Array DictEntry} {ep : Nat} (lo : (d == sysModules) = false) : KdlSrc prog w "dict" d d es.size (fun i v => ∃ hi : i < es.size, v = es[i].key) (fun h => h.DictRaw d es ep) where
  type := fun _ hm => hm.typeIs
  there := fun h hm => let ⟨o, ho, _⟩ := hm; ⟨Heap.lt_size ho, Heap.lt_size ho⟩
  keep := fun _ _ hm hk => hm.at fun o e => hk d (.inl rfl) o e
  notList := by decide
  notTuple := by decide
  hint := fun _ _ _ _ hm hq => kdl_hint_dict hm.typeIs hq
  iter := fun _ s hh hm => by
    obtain ⟨o, ho, _⟩ := id hm
    exact ⟨_, _, (fun _ _ hq => wpAny_pyIter_dict_raw lo hm hq), Walks.rawKeys hh _ d (Nat.ne_of_lt (Heap.lt_size ho)) es ep, ⟨⟨_, Heap.get?_push_size _ rfl, rfl, rfl⟩, hm.at fun o e => Heap.get?_push_of_some _ e⟩⟩
/-- what sorted tells of such a dict's keys -/
def sortD (F : NestedKey → NestedKey) (xs : List (NestedKey × Addr)) : List V := (((xs.map fun p => V.ref p.2).zip (xs.map (·.1))).mergeSort (leF F)).map Prod.fst
theorem vals_refs : ∀ {xs : List (NestedKey × Addr)} {us : List Value}, us.length = xs.length → (∀ (j : Nat) (v : Value), us[j]? = some v → ∃ p : NestedKey × Addr, xs[j]? = some p ∧ v = Value.ref p.2) → Vals (xs.map fun p => V.ref p.2) us
  | [], [], _, _ => .nil
  | p :: xs, u :: us, hl, h => by
    refine .cons ?_ (vals_refs (by simpa using hl) fun j v e => h (j + 1) v (by simpa using e))
    obtain ⟨q, e, e2⟩ := h 0 u rfl
    cases e
    exact e2
theorem nk_refs {H : Hp} : ∀ {xs : List (NestedKey × Addr)}, (∀ p ∈ xs, Nk H (.ref p.2) p.1) → NkAll H (xs.map fun p => V.ref p.2) (xs.map (·.1))
  | [], _ => .nil
  | p :: xs, h => .cons (h p (.head _)) (nk_refs fun q hq => h q (.tail _ hq))
section
variable {X : Cx} {f : Addr} {fd : FuncData} {ps : List Str} {j : Nat} {F : NestedKey → NestedKey} {C : NestedKey → Prop}
def rSortD (P : Program) (w : World) (f : Addr) (F : NestedKey → NestedKey) (C : NestedKey → Prop) : List V → List V → Hp → VK → Prop := fun vs zs H Q => ∃ (d : Addr) (xs : List (NestedKey × Addr)), vs = [.ref d] ∧ zs = [.ref f] ∧ NdAt P w H d xs ∧ (∀ p ∈ xs, C p.1) ∧
  (∀ p ∈ xs, ∃ i r, F p.1 = .tup (.num i :: r)) ∧ (∀ p ∈ xs, ∀ q ∈ xs, ∃ c, ltK (F p.1) (F q.1) = some c) ∧ (∀ p ∈ xs, (F p.1).depth ≤ 50) ∧ xs.length ≤ sizeLine ∧ ∀ H' p, Same H H' → H' p = none → H p = none → Q (.ref p) (upd H' p (.lst (sortD F xs)))
theorem cr_sortD (hcalm : X.calm = true) (G : FnOk X.prog X.w X.K X.mg X.base CX0 j f fd ps (spKey F C)) (hr : Room (j + 1) X.A) (hb : Binds X.K fd ps []) : CallRK X (.builtin "sorted") [Str.ofString "key"] (rSortD X.prog X.w f F C) := by
  intro pins s σ H vs zs us ws Q I r1 r2 h
  obtain ⟨d, xs, rfl, rfl, hn, hC, hh, hc, hd, hz, q⟩ := h
  obtain ⟨u, rfl, ru⟩ := vals1 r1
  obtain ⟨u2, rfl, ru2⟩ := vals1 r2
  cases ru
  cases ru2
  obtain ⟨m, lo⟩ := nd_full I hn
  obtain ⟨o, es, ep, g1, g2, g3, g4, g5, g6⟩ := m
  have hes : es.size = xs.length := by rw [← Array.length_toList, g4, List.length_map]; unfold tri; rw [List.length_map]
  show wpAny _ _ (call (.builtin "sorted") [.ref d] [(Str.ofString "key", .ref f)]) _ _ _
  refine call_function_entry_kw kind_sorted plain_sorted entry_sorted (ksk_s1 _ _) ?_
  unfold Builtin.«sorted»
  refine wpAny_bind (m := checkCount "sorted" 1 1 _) (wpAny_pure ?_)
  refine wpAny_bind (kdu_collect (A := X.A.in1) (kdl_rawD (es := es) (ep := ep) lo) (I.ok.hd hcalm) ⟨o, g1, g2, g3⟩ (by omega) fun h' tk acc hk hacc => ?_)
  have rv : Vals (xs.map fun p => V.ref p.2) acc.toList := vals_refs (by rw [Array.length_toList, hacc.1, hes]) fun i v e => by
    obtain ⟨hi, rfl⟩ := hacc.2 i v (by rw [← Array.getElem?_toList]; exact e)
    have hx : i < xs.length := by omega
    refine ⟨xs[i], List.getElem?_eq_getElem hx, ?_⟩
    have e2 : es[i]? = some es[i] := Array.getElem?_eq_getElem hi
    rw [← Array.getElem?_toList, g4, List.getElem?_map] at e2
    unfold tri at e2
    rw [List.getElem?_map, List.getElem?_eq_getElem hx] at e2
    rw [← Option.some.inj e2]
    rfl
  have la : acc.toList.length ≤ sizeLine := by rw [Array.length_toList, hacc.1]; omega
  have I1 : L2.Inv X pins σ H { s with heap := h', toks := tk } := I.kept hk
  refine wpAny_bind (wpAny_newList ?_ la)
  show wpAny _ _ _ _ _ { s with heap := h'.push (seqObj "list" acc.toList.toArray 0), toks := tk }
  have I2 : L2.Inv X pins σ H { s with heap := h'.push (seqObj "list" acc.toList.toArray 0), toks := tk } := I1.kept (t' := tk) fun b u e => Heap.get?_push_of_some _ e
  have hoL : (h'.push (seqObj "list" acc.toList.toArray 0)).get? h'.objs.size = some (seqObj "list" acc.toList.toArray 0) := Heap.get?_push_size _ rfl
  have fresh : H h'.objs.size = none := I1.hok.fresh (Nat.le_refl _)
  have fp : FpOk X pins H h'.objs.size := I1.fpOk (Nat.le_refl _) fresh
  refine wpAny_bind (wpAny_holding (wpAny_call_entry_kw slot_list_sort ⟨_, hoL, rfl⟩ entry_list_sort ?_ (ksk_l1 _ _)))
  rw [ksk_t1]
  have mem : ∀ {k : NestedKey}, k ∈ xs.map (·.1) → ∃ p, p ∈ xs ∧ p.1 = k := fun h => List.mem_map.mp h
  refine sort_key (X := X) (pins := pins) (σ := σ) (H := H) (s := { s with heap := h'.push (seqObj "list" acc.toList.toArray 0), toks := tk }) G hr hb I2 fp hoL rv (nk_refs fun p hp => (hn.2 p hp).1)
    (fun k hk => by obtain ⟨p, hp, rfl⟩ := mem hk; exact hC p hp) (fun k hk => by obtain ⟨p, hp, rfl⟩ := mem hk; exact hh p hp)
    (fun k hk k' hk' => by obtain ⟨p, hp, rfl⟩ := mem hk; obtain ⟨p2, hp2, rfl⟩ := mem hk'; exact hc p hp p2 hp2) (fun k hk => by obtain ⟨p, hp, rfl⟩ := mem hk; exact hd p hp) la fun H' s' sm nh I3 => ?_
  exact ⟨_, rfl, wpAny_pure ⟨_, rfl, .ref h'.objs.size, _, I3, rfl, q H' _ sm nh fresh⟩⟩
end
end My

set_option Elab.async false
set_option linter.all false
set_option maxRecDepth 100000
set_option maxHeartbeats 2000000
/-! {k: True for .. in ..}, k a tuple of numbers, texts and such tuples. -/
namespace My
open PySem PySem.Spec PyProof.Rows L2 PySem.SeqAt PySem.W
section
variable {X : Cx}
def DcStep (P : Program) (w : World) (J : It) (g : TG) (tt : TT) (tk tv : TE) (vs : List Nat) (σ : L2.St) (D : Addr) (Qd : Hp → Prop) (W : Nat → Nat → Hp → Prop) (i m : Nat) (H : Hp) : Prop :=
  (J.stop i H ∧ Qd H) ∨ (J.go i H ∧ ∃ Nx : Hp → Prop, (∀ H', Nx H' → ∃ m', m' < m ∧ W (i + 1) m' H') ∧ ∀ x H', J.yld i H x H' →
    g x (wipe σ vs) H' fun σ2 H2 => wipe σ2 vs = wipe σ vs ∧ tt σ2 H2 fun b H3 => if b = true then tk σ2 H3 fun y H4 => tv σ2 H4 fun z H5 =>
      ∃ a k xs, y = .ref a ∧ z = .bl true ∧ NdAt P w H5 D xs ∧ Nk H5 (.ref a) k ∧ k.depth ≤ 8 ∧ xs.length < sizeLine ∧ Nx (upd H5 D (ND P w D (putN xs k a))) else Nx H3)
def tDcN (P : Program) (w : World) (wi : TI) (g : TG) (tt : TT) (tk tv : TE) (vs : List Nat) : TE := fun σ H Q => wi σ H fun J H1 => ∀ D, H1 D = none →
  ∃ W : Nat → Nat → Hp → Prop, (∃ m, W 0 m (upd H1 D (.dK []))) ∧ ∀ i m H', W i m H' → DcStep P w J g tt tk tv vs σ D (fun H2 => Q (.ref D) H2) W i m H'
abbrev Blk (X : Cx) (scope : Scope) (s : Shared) (H : Hp) (C : Addr) (cl : List (Str × Addr)) (fp : List Addr) : Cx := X.blk s H scope (compEnvC scope cl C X.env) fp
theorem dcN_core {pins : List (Addr × Obj)} {s : Shared} {σ : L2.St} {H : Hp} {Q : VK} {kx vx tg iter : Expr} {ifs : List Expr} {scope : Scope} {own : List (Str × Nat)} {pos pos' : Pos} {wi : TI} {g : TG} {tt : TT} {tk tv : TE} {use : Option (Value → Sem Unit)} {Qf : Value → Shared → Prop}
    (hu : X.A.units + 64 < cLine) (calm : X.calm = true) (nd : X.N.Nodup) (I : L2.Inv X pins σ H s) (hi : PI X tg iter wi) (ok : BlkOk X.N X.env.scope scope own)
    (hg : ∀ s H C cl fp, PG (Blk X scope s H C cl fp) tg g) (ht : ∀ s H C cl fp, PTs (Blk X scope s H C cl fp) ifs tt) (hk : ∀ s H C cl fp, PE (Blk X scope s H C cl fp) kx tk) (hv : ∀ s H C cl fp, PE (Blk X scope s H C cl fp) vx tv)
    (fold : ∀ x, foldedSetIterable iter X.env x = pure x) (h : tDcN X.prog X.w wi g tt tk tv (own.map (·.2)) σ H Q)
    (back : ∀ D C s' m H', L2.Inv X pins σ H' s' → Q (.ref D) H' → s'.heap.Ns C m → FpOk X pins H' C → compPost (model X.prog X.w) X.A X.xe use Qf (.ref D) C (.ok .next) s') :
    wpAny (model X.prog X.w) X.A (comprehension (.DictComp kx vx [⟨tg, iter, ifs, 0⟩] scope pos) scope X.env pos' newDict false (eval iter X.env) use) Qf X.xe s := by
  have free : ∀ y ∈ scope.names, y.2 = .free → ∃ c, X.env.cells.lookup y.1 = some c := by
    intro y hy e
    exact (ok.free y hy e).elim (fun k => I.ok.has _ (.inl k)) fun k => I.ok.has _ (.inr k)
  refine wpAny_comprehension_free (use := use) rfl fold (closure_ok free) ok.kind (fun y hy e => by rw [ok.uniq y hy, e]) (thn (hi.run pins s σ H _ I h) fun xv s1 hx => thn hx ?_)
  rintro itv s2 ⟨it, fp, tn, J, H2, rfl, I2, T, st2, f2, q⟩
  refine wpAny_newObj_type (newEnv_comp ?_)
  obtain ⟨D, hD⟩ : ∃ D, D = s2.heap.objs.size := ⟨_, rfl⟩
  rw [← hD]
  have fresh : H2 D = none := I2.hok.fresh (Nat.le_of_eq hD.symm)
  obtain ⟨W, ⟨m0, w0⟩, turn⟩ := q D fresh
  obtain ⟨s3, hs3⟩ : ∃ s3 : Shared, s3 = { s2 with heap := s2.heap.push { cls := .type "dict", data := .dict #[] } } := ⟨_, rfl⟩
  have I3 : L2.Inv X pins σ (upd H2 D (.dK [])) s3 := by
    rw [hs3]
    refine I2.laid (t' := s2.toks) (fun b o e => Heap.get?_push_of_some _ e) (Nat.le_of_eq hD.symm) ?_
    rw [hD]
    exact dk_empty s2.heap I2.big
  have h3 : s3.heap = s2.heap.push { cls := .type "dict", data := .dict #[] } := by rw [hs3]
  have old : ∀ b ∈ fp, b < s2.heap.objs.size := fun b hb => let ⟨o, e, _⟩ := T.obj _ _ st2 b hb; Heap.lt_size e
  have f3 : ∀ b ∈ fp, FpOk X pins (upd H2 D (.dK [])) b ∧ b < s3.heap.objs.size := by
    intro b hb
    have lt := old b hb
    refine ⟨⟨?_, (f2 b hb).2⟩, by rw [h3, Heap.size_push]; exact Nat.lt_succ_of_lt lt⟩
    rw [upd_ne (by rw [hD]; exact Nat.ne_of_lt lt)]
    exact (f2 b hb).1
  have st3 : tn 0 s3.heap := T.keep _ _ _ st2 fun b _ o e => by rw [h3]; exact Heap.get?_push_of_some _ e
  have I4 := block_start I3 ok nd f3
  obtain ⟨cl, hcl⟩ : ∃ cl, cl = cellsFrom (s3.heap.objs.size + 1) scope.names (cloFrom X.env.cells scope.names []) := ⟨_, rfl⟩
  obtain ⟨C, hC⟩ : ∃ C, C = s3.heap.objs.size := ⟨_, rfl⟩
  obtain ⟨H3, hH3⟩ : ∃ H3, H3 = upd H2 D (.dK []) := ⟨_, rfl⟩
  rw [← hcl, ← hC, ← hH3] at I4
  rw [← hH3] at I3 f3 w0
  obtain ⟨s4, hs4⟩ : ∃ s4 : Shared, s4 = { s3 with heap := pushCells (s3.heap.push { cls := .type "dict", data := .dict #[] }) scope.names } := ⟨_, rfl⟩
  rw [← hs4] at I4
  rw [← hs3]
  show codeAny _ _ (.compStart (.DictComp kx vx [⟨tg, iter, ifs, 0⟩] scope pos) 0 (.ref it) (.ref D) (compEnvC scope (cellsFrom (s3.heap.objs.size + 1) scope.names (cloFrom X.env.cells scope.names [])) s3.heap.objs.size X.env)) (compPost (model X.prog X.w) X.A X.xe use Qf (.ref D) s3.heap.objs.size) { s3 with heap := pushCells (s3.heap.push { cls := .type "dict", data := .dict #[] }) scope.names }
  rw [← hcl, ← hC, ← hs4]
  have pg := hg s3 H3 C cl fp
  have pt := ht s3 H3 C cl fp
  have pk := hk s3 H3 C cl fp
  have pv := hv s3 H3 C cl fp
  have cL : (compEnvC scope cl C X.env).locals = C := rfl
  have nfp : ∀ b ∈ fp, H3 b = none := fun b hb => (f3 b hb).1.1
  have st4 : tn 0 s4.heap := T.keep _ _ _ st3 fun b _ o e => by rw [hs4]; exact pushCells_keeps _ _ _ _ (Heap.get?_push_of_some _ e)
  have stat : ∀ {σ' : L2.St} {H' : Hp} {s' : Shared}, L2.Inv (Blk X scope s3 H3 C cl fp) [] σ' H' s' → (∀ b ∈ fp, H' b = none) → ∀ b ∈ fp, FpOk (Blk X scope s3 H3 C cl fp) [] H' b := by
    intro σ' H' s' I' hn b hb
    exact ⟨hn b hb, (I'.ok.exf b hb).1, I'.ok.exfs b hb, .inl hb, fun x c e => (I'.ok.exf b hb).2 x c e, fun p hp => absurd (show p ∈ ([] : List (Addr × Obj)) ++ [] from hp) (by simp)⟩
  have loop : codeAny (model X.prog X.w) X.A (.compLoop (.DictComp kx vx [⟨tg, iter, ifs, 0⟩] scope pos) 0 (.ref it) (.ref D) (compEnvC scope cl C X.env)) (compPost (model X.prog X.w) X.A X.xe use Qf (.ref D) C) s4 := by
    refine compLoop_anyD (fun n s' => ∃ i H', L2.Inv (Blk X scope s3 H3 C cl fp) [] (wipe σ (own.map (·.2))) H' s' ∧ tn i s'.heap ∧ (∀ b ∈ fp, H' b = none) ∧ W i n H') ?_ m0 ⟨0, H3, I4, st4, nfp, w0⟩
    rintro n s5 ⟨i, H5, I5, st5, n5, w5⟩
    rcases turn i n H5 w5 with ⟨stop, qq⟩ | ⟨go, Nx, hNx, step⟩
    · refine thnF (T.done (Blk X scope s3 H3 C cl fp) rfl rfl rfl calm i [] s5 _ H5 (fun _ _ => False) I5 (stat I5 n5) st5 stop) ?_
      rintro r s6 ⟨rfl, I6⟩
      have I7 : L2.Inv X pins σ H5 s6 := I3.call' (ch := fp) I6.os I6.base I6.hok I6.bare fun b hb => ⟨(f3 b hb).1.2.2.2.1, (f3 b hb).1.2.1, (f3 b hb).1.2.2.2.2.1, (f3 b hb).1.2.2.2.2.2⟩
      have nC : H5 C = none := I6.free
      obtain ⟨m, hn, _⟩ := I6.loc
      exact back D C s6 m H5 I7 qq hn (I3.fpOk (Nat.le_of_eq hC.symm) nC)
    · refine thnF (T.item (Blk X scope s3 H3 C cl fp) rfl rfl rfl calm i [] s5 _ H5 (fun _ _ => False) I5 (stat I5 n5) st5 go) ?_
      rintro r s6 ⟨u, rfl, h6⟩
      refine thnF h6 ?_
      rintro _ s7 ⟨x, H7, I7, r7, y7, st7, n7⟩
      refine thnF (pg.run _ s7 _ H7 x u _ (I7.pinned (stat I7 n7) (T.obj _ _ st7)) r7 (step x H7 y7)) ?_
      rintro _ s8 ⟨σ8, H8, I8, hw8, q8⟩
      refine thnF (pt.run _ s8 σ8 H8 _ I8 q8) ?_
      rintro b s9 ⟨H9, I9, q9⟩
      have fin : ∀ {s' : Shared} {H' : Hp}, L2.Inv (Blk X scope s3 H3 C cl fp) ([] ++ pinsAt fp s7.heap) σ8 H' s' → Nx H' → ∃ m, m < n ∧ ∃ i H', L2.Inv (Blk X scope s3 H3 C cl fp) [] (wipe σ (own.map (·.2))) H' s' ∧ tn i s'.heap ∧ (∀ b ∈ fp, H' b = none) ∧ W i m H' := by
        intro s' H' I' nx
        obtain ⟨m', lt, w'⟩ := hNx H' nx
        have pin : ∀ b ∈ fp, ∀ o, s7.heap.get? b = some o → s'.heap.get? b = some o ∧ H' b = none := by
          intro b hb o e
          have z := I'.pin (b, o) (List.mem_append_right _ (List.mem_append_right _ (mem_pinsAt hb e)))
          exact ⟨z.1, z.2.1⟩
        refine ⟨m', lt, i + 1, H', (I'.unpinned (pins := [])).weak (by rw [← hw8, wipe_length]) (fun j v e => ?_), T.keep _ _ _ st7 fun b hb o e => (pin b hb o e).1, fun b hb => ?_, w'⟩
        · rw [← hw8] at e
          exact (wipe_some e).1
        · obtain ⟨o, e, _⟩ := T.obj _ _ st7 b hb
          exact (pin b hb o e).2
      cases b with
      | false =>
        simp only [Bool.false_eq_true, if_false] at q9 ⊢
        exact fin I9 q9
      | true =>
        simp only [if_true] at q9 ⊢
        refine thnF (pk.run _ s9 σ8 H9 _ I9 q9) ?_
        rintro z s10 ⟨yk, H10, I10, r10, q10⟩
        refine thnF (pv.run _ s10 σ8 H10 _ I10 q10) ?_
        rintro z2 s11 ⟨yv, H11, I11, r11, a, k, xs, rfl, rfl, hn, nk, dk, lz, nx⟩
        cases r10
        cases r11
        exact nd_dictSet (X := Blk X scope s3 H3 C cl fp) (by show X.A.units + 8 < cLine; omega) I11 hn nk dk lz fun s12 I12 => fin I12 nx
  exact codeAny_compStart_dict loop (T.self X.A 0 _ _ _ st4 loop)
end
end My

set_option Elab.async false
set_option linter.all false
set_option maxRecDepth 100000
set_option maxHeartbeats 2000000
namespace My
open PySem PySem.Spec PyProof.Rows L2 PySem.SeqAt PySem.W
section
variable {X : Cx} {kx vx tg iter : Expr} {ifs : List Expr} {scope : Scope} {own : List (Str × Nat)} {pos spos py : Pos} {wi : TI} {g : TG} {tt : TT} {tk tv : TE} {i : Nat} {y : Str}
theorem sw_dict {gs : List Comprehension} {l : Nat} {env : Env} (hk : env.scope.kind = .function) (hy : env.scope.names.lookup y = some .local) (hl : (py.line == pos.line) = true) (ha : (scope.names.any fun (n, k) => n == y && (k == .local || k == .cell)) = false) :
    swapsWith (.DictComp kx vx gs scope pos) (some (.Name y py)) l env = pure true := by
  have k1 : env.kindOf y = some .local := hy
  have k2 : env.blockKind = .function := by
    unfold Env.blockKind
    rw [hk]
    rfl
  unfold swapsWith
  simp only [k2, k1, ha, Expr.pos, hl]
  rfl
/-- as a value -/
theorem pe_dcN (hu : X.A.units + 64 < cLine) (calm : X.calm = true) (nd : X.N.Nodup) (hi : PI X tg iter wi) (ok : BlkOk X.N X.env.scope scope own)
    (hg : ∀ s H C cl fp, PG (Blk X scope s H C cl fp) tg g) (ht : ∀ s H C cl fp, PTs (Blk X scope s H C cl fp) ifs tt) (hk : ∀ s H C cl fp, PE (Blk X scope s H C cl fp) kx tk) (hv : ∀ s H C cl fp, PE (Blk X scope s H C cl fp) vx tv)
    (fold : ∀ x, foldedSetIterable iter X.env x = pure x := by intro _; rfl) : PE X (.DictComp kx vx [⟨tg, iter, ifs, 0⟩] scope pos) (tDcN X.prog X.w wi g tt tk tv (own.map (·.2))) := by
  constructor
  intro pins s σ H Q I h
  rw [arm_eval_DictComp]
  refine dcN_core hu calm nd I hi ok hg ht hk hv fold h ?_
  rintro D C s' m H' I' q hn ⟨f0, f1, f2, f3, f4, f5⟩
  exact ⟨m, hn, fun h2 sb => ⟨.ref D, H', I'.turned (t' := s'.toks) (fun b o hb e => (sb.2 b hb).trans e) f0 f1 f3 f4 f5, rfl, q⟩⟩
/-- name = {..} on one line, the name a local -/
theorem ps_setDcN (hu : X.A.units + 64 < cLine) (calm : X.calm = true) (nd : X.N.Nodup) (hy : X.N[i]? = some y) (hyl : X.env.scope.names.lookup y = some .local) (hsw : swapsWith (.DictComp kx vx [⟨tg, iter, ifs, 0⟩] scope pos) (some (.Name y py)) spos.line X.env = pure true)
    (hi : PI X tg iter wi) (ok : BlkOk X.N X.env.scope scope own)
    (hg : ∀ s H C cl fp, PG (Blk X scope s H C cl fp) tg g) (ht : ∀ s H C cl fp, PTs (Blk X scope s H C cl fp) ifs tt) (hk : ∀ s H C cl fp, PE (Blk X scope s H C cl fp) kx tk) (hv : ∀ s H C cl fp, PE (Blk X scope s H C cl fp) vx tv)
    (fold : ∀ x, foldedSetIterable iter X.env x = pure x := by intro _; rfl) : PS X (.Assign [.Name y py] (.DictComp kx vx [⟨tg, iter, ifs, 0⟩] scope pos) spos) (tAsg (tDcN X.prog X.w wi g tt tk tv (own.map (·.2))) (gName i)) := by
  constructor
  intro pins s σ H D I h
  rw [exec_Assign_Name_used _ _ _ _ hsw]
  refine wpAny_bind (wpAny_standAt (wpAny_bind ?_))
  show wpAny _ X.A (do let _ ← comprehension (.DictComp kx vx [⟨tg, iter, ifs, 0⟩] scope pos) scope X.env (firstIterPos [⟨tg, iter, ifs, 0⟩] pos) newDict false (eval iter X.env) (some (assign (.Name y py) X.env))) _ _ s
  have h2 : tDcN X.prog X.w wi g tt tk tv (own.map (·.2)) σ H (fun x H1 => gName i x σ H1 D.nx) := h
  refine wpAny_bind (thn (dcN_core (Qf := fun _ s' => SP X pins D .next s') hu calm nd I hi ok hg ht hk hv fold h2 ?_) fun _ s' hq => wpAny_pure (wpAny_pure hq))
  rintro L C s' m H' I' q hn ⟨f0, f1, f2, f3, f4, f5⟩
  show wpAny _ _ (assign (.Name y py) X.env (.ref L)) _ _ _
  refine wpAny_assign_Name (store_ok2 (v := V.ref L) I' nd hy (.inl hyl) rfl ?_ (.inr hyl))
  rintro s2 I2 ⟨a, sb, ha⟩
  have ne : C ≠ a := ha.elim (fun z => by rw [z]; exact f1) fun z e => f4 y a z e.symm
  exact ⟨m, hn.sameBut sb ne, fun h3 sb3 => ⟨_, H', I2.turned (t' := s2.toks) (fun b o hb e => (sb3.2 b hb).trans e) f0 f1 f3 f4 f5, q⟩⟩
end
/-- a walk's turns -/
theorem dcN_it {P : Program} {w : World} {J : It} {n : Nat} {G : Hp → Prop} {Y : Nat → Hp → V → Hp → Prop} (wk : Walk J n G Y) {g : TG} {tt : TT} {tk tv : TE} {vs : List Nat} {σ : L2.St} {H1 : Hp} {D : Addr} {Qd : Hp → Prop} (Pv : Nat → Hp → Prop) (h0 : Pv 0 (upd H1 D (.dK []))) (hG : ∀ i H, i ≤ n → Pv i H → G H)
    (hs : ∀ i x H H', i < n → Pv i H → Y i H x H' → g x (wipe σ vs) H' fun σ2 H2 => wipe σ2 vs = wipe σ vs ∧ tt σ2 H2 fun b H3 => if b = true then tk σ2 H3 fun y H4 => tv σ2 H4 fun z H5 =>
      ∃ a k xs, y = .ref a ∧ z = .bl true ∧ NdAt P w H5 D xs ∧ Nk H5 (.ref a) k ∧ k.depth ≤ 8 ∧ xs.length < sizeLine ∧ Pv (i + 1) (upd H5 D (ND P w D (putN xs k a))) else Pv (i + 1) H3)
    (hd : ∀ H, Pv n H → Qd H) : ∃ W : Nat → Nat → Hp → Prop, (∃ m, W 0 m (upd H1 D (.dK []))) ∧ ∀ i m H', W i m H' → DcStep P w J g tt tk tv vs σ D Qd W i m H' := by
  refine ⟨fun i m H => m = n - i ∧ i ≤ n ∧ Pv i H, ⟨n, by simp, Nat.zero_le _, h0⟩, ?_⟩
  rintro i m H ⟨rfl, hi, p⟩
  have q := hG i H hi p
  by_cases lt : i < n
  · exact .inr ⟨wk.goes i H lt q, Pv (i + 1), fun H' p' => ⟨n - (i + 1), by omega, rfl, lt, p'⟩, fun x H' y => hs i x H H' lt p (wk.yields i H x H' lt q y)⟩
  · obtain rfl : i = n := by omega
    exact .inl ⟨wk.stops H q, hd H p⟩
end My

set_option Elab.async false
set_option linter.all false
set_option maxRecDepth 100000
set_option maxHeartbeats 2000000
/-! Pages as data: their places, how these stand, lists that are put in order. -/
namespace My
open PySem PySem.Spec PyProof.Rows L2 PySem.SeqAt PySem.W
def HomeW (ws : List Int) : Prop := ws.length ≤ 7 ∧ ∀ w ∈ ws, 0 ≤ w ∧ w < 7
/-- what stands behind a page's day -/
inductive Rest : Str → List NestedKey → Prop
  | house {a : Str} {ws : List Int} : Plain a → HomeW ws → Rest "house" [.text a, .tup (ws.map .num)]
  | home {a : Str} {ws : List Int} : Plain a → HomeW ws → Rest "home" [.text a, .tup (ws.map .num)]
  | part {a b : Str} {ws : List Int} : Plain a → Plain b → HomeW ws → Rest "part" [.text a, .text b, .tup (ws.map .num)]
  | mourn {a : Str} {m : Int} : Plain a → 0 ≤ m → m ≤ 60 → Rest "mourn" [.text a, .num m]
  | join {a b : Str} : Plain a → Plain b → Rest "join" [.text a, .text b]
  | ahead {a b : Str} : Plain a → Plain b → Rest "ahead" [.text a, .text b]
  | card {a b : Str} : Plain a → Plain b → Rest "card" [.text a, .text b]
  | visit {a b : Str} : Plain a → Plain b → Rest "visit" [.text a, .text b]
def PgK (k : NestedKey) : Prop := ∃ z d r, k = .tup (.text z :: .num d :: r) ∧ Rest z r ∧ 0 ≤ d ∧ d < 20000
def ixK (z : Str) : Nat := kinds.idxOf z
def place : NestedKey → NestedKey
  | .tup (.text z :: .num d :: r) => .tup [.num d, .num (ixK z), .tup (.text z :: .num d :: r)]
  | k => k
theorem place_eq (z : Str) (d : Int) (r : List NestedKey) : place (.tup (.text z :: .num d :: r)) = .tup [.num d, .num (ixK z), .tup (.text z :: .num d :: r)] := rfl
theorem lt_nums : ∀ ws vs : List Int, ∃ c, ltAll (ws.map .num) (vs.map .num) = some c
  | [], [] => ⟨_, by rw [List.map_nil, ltAll]⟩
  | [], _ :: _ => ⟨true, by rw [List.map_nil, List.map_cons, ltAll]⟩
  | _ :: _, [] => ⟨false, by rw [List.map_nil, List.map_cons, ltAll]⟩
  | a :: ws, b :: vs => by
    rw [List.map_cons, List.map_cons, ltAll]
    split
    · exact lt_nums ws vs
    · exact ⟨_, by rw [ltK]⟩
theorem lt_step {x y : NestedKey} {xs ys : List NestedKey} (h1 : ∃ c, ltK x y = some c) (h2 : ∃ c, ltAll xs ys = some c) : ∃ c, ltAll (x :: xs) (y :: ys) = some c := by
  rw [ltAll]
  split
  · exact h2
  · exact h1
theorem lt_text (a b : Str) : ∃ c, ltK (.text a) (.text b) = some c := ⟨_, by rw [ltK]⟩
theorem lt_num (a b : Int) : ∃ c, ltK (.num a) (.num b) = some c := ⟨_, by rw [ltK]⟩
theorem lt_nil : ∃ c, ltAll [] [] = some c := ⟨_, by rw [ltAll]⟩
theorem lt_home (ws vs : List Int) : ∃ c, ltK (.tup (ws.map .num)) (.tup (vs.map .num)) = some c := by
  rw [ltK]
  exact lt_nums ws vs
theorem rest_lt {z : Str} {r r' : List NestedKey} (h : Rest z r) (h' : Rest z r') : ∃ c, ltAll r r' = some c := by
  have ne : ∀ {a b : String}, (Str.ofString a == Str.ofString b) = false → Str.ofString a = Str.ofString b → False := fun {a b} e z => by rw [z] at e; simp at e
  generalize hz : z = z' at h'
  cases h <;> cases h' <;> first
    | exact lt_step (lt_text _ _) (lt_step (lt_home _ _) lt_nil)
    | exact lt_step (lt_text _ _) (lt_step (lt_text _ _) (lt_step (lt_home _ _) lt_nil))
    | exact lt_step (lt_text _ _) (lt_step (lt_num _ _) lt_nil)
    | exact lt_step (lt_text _ _) (lt_step (lt_text _ _) lt_nil)
    | exact (ne (by decide +kernel) hz).elim
theorem ixK_inj {z z' : Str} {r r' : List NestedKey} (h : Rest z r) (h' : Rest z' r') (e : ixK z = ixK z') : z = z' := by
  cases h <;> cases h' <;> first | rfl | exact absurd e (by decide +kernel)
/-- each two pages' places can be compared -/
theorem place_lt {k k' : NestedKey} (h : PgK k) (h' : PgK k') : ∃ c, ltK (place k) (place k') = some c := by
  obtain ⟨z, d, r, rfl, hr, _⟩ := h
  obtain ⟨z', d', r', rfl, hr', _⟩ := h'
  rw [place_eq, place_eq, ltK]
  by_cases e : ixK z = ixK z'
  · have ez := ixK_inj hr hr' e
    subst ez
    exact lt_step (lt_num _ _) (lt_step (lt_num _ _) (lt_step (by rw [ltK]; exact lt_step (lt_text _ _) (lt_step (lt_num _ _) (rest_lt hr hr'))) lt_nil))
  · rw [ltAll]
    split
    · rw [ltAll, if_neg (fun q => e (by injection q with q; exact Int.ofNat.inj q))]
      exact lt_num _ _
    · exact lt_num _ _
theorem place_depth {k : NestedKey} (h : PgK k) : (place k).depth ≤ 50 ∧ k.depth ≤ 8 := by
  obtain ⟨z, d, r, rfl, hr, _⟩ := h
  have hn : ∀ ws : List Int, NestedKey.depthAll (ws.map .num) = 0 := fun ws => by
    induction ws with
    | nil => rw [List.map_nil, NestedKey.depthAll]
    | cons a l ih => rw [List.map_cons, NestedKey.depthAll, ih, NestedKey.depth]; rfl
  have hd : NestedKey.depthAll r ≤ 2 := by
    cases hr <;> simp only [NestedKey.depthAll, NestedKey.depth, hn] <;> decide
  rw [place_eq]
  simp only [NestedKey.depthAll, NestedKey.depth]
  omega
theorem place_head {k : NestedKey} (h : PgK k) : ∃ i r, place k = .tup (.num i :: r) := by
  obtain ⟨z, d, r, rfl, _⟩ := h
  exact ⟨_, _, rfl⟩
theorem place_inj {k k' : NestedKey} (h : PgK k) (h' : PgK k') (e : place k = place k') : k = k' := by
  obtain ⟨z, d, r, rfl, _⟩ := h
  obtain ⟨z', d', r', rfl, _⟩ := h'
  rw [place_eq, place_eq] at e
  injection e with e
  simp only [List.cons.injEq] at e
  exact e.2.2.1
end My

set_option Elab.async false
set_option linter.all false
set_option maxRecDepth 100000
set_option maxHeartbeats 2000000
namespace My
open PySem PySem.Spec PyProof.Rows L2 PySem.SeqAt PySem.W
theorem text_total {x y : Str} (h1 : ¬ x.cps.toList < y.cps.toList) (h2 : ¬ y.cps.toList < x.cps.toList) : x = y :=
  str_of_cps (strKind.total _ _ (decide_eq_false h1) (decide_eq_false h2))
theorem text_asym {x y : Str} (h1 : x.cps.toList < y.cps.toList) (h2 : y.cps.toList < x.cps.toList) : False := by
  have := strKind.trans _ _ _ (decide_eq_true h1) (decide_eq_true h2)
  rw [strKind.irrefl] at this
  cases this
mutual
theorem flipK : ∀ (x y : NestedKey) (c : Bool), x ≠ y → ltK x y = some c → ltK y x = some (!c)
  | .num i, .num j, c, ne, e => by
    rw [ltK] at e ⊢
    cases e
    have : i ≠ j := fun z => ne (by rw [z])
    by_cases h : i < j
    · rw [decide_eq_true h, decide_eq_false (by omega)]; rfl
    · rw [decide_eq_false h, decide_eq_true (by omega)]; rfl
  | .text x, .text y, c, ne, e => by
    rw [ltK] at e ⊢
    cases e
    by_cases h : x.cps.toList < y.cps.toList
    · rw [decide_eq_true h, decide_eq_false (fun h2 => text_asym h h2)]; rfl
    · rw [decide_eq_false h, decide_eq_true (Classical.byContradiction fun h2 => ne (by rw [text_total h h2]))]; rfl
  | .tup xs, .tup ys, c, ne, e => by
    rw [ltK] at e ⊢
    exact flipAll xs ys c (fun z => ne (by rw [z])) e
  | .none, y, c, ne, e => by cases y <;> simp [ltK] at e
  | .num i, .none, c, ne, e => by simp [ltK] at e
  | .num i, .text _, c, ne, e => by simp [ltK] at e
  | .num i, .tup _, c, ne, e => by simp [ltK] at e
  | .text i, .none, c, ne, e => by simp [ltK] at e
  | .text i, .num _, c, ne, e => by simp [ltK] at e
  | .text i, .tup _, c, ne, e => by simp [ltK] at e
  | .tup i, .none, c, ne, e => by simp [ltK] at e
  | .tup i, .num _, c, ne, e => by simp [ltK] at e
  | .tup i, .text _, c, ne, e => by simp [ltK] at e
theorem flipAll : ∀ (xs ys : List NestedKey) (c : Bool), xs ≠ ys → ltAll xs ys = some c → ltAll ys xs = some (!c)
  | [], [], c, ne, e => absurd rfl ne
  | [], y :: ys, c, ne, e => by
    rw [ltAll] at e
    cases e
    rw [ltAll]
    rfl
  | x :: xs, [], c, ne, e => by
    rw [ltAll] at e
    cases e
    rw [ltAll]
    rfl
  | x :: xs, y :: ys, c, ne, e => by
    rw [ltAll] at e ⊢
    by_cases h : x = y
    · subst h
      rw [if_pos rfl] at e ⊢
      exact flipAll xs ys c (fun z => ne (by rw [z])) e
    · rw [if_neg h] at e
      rw [if_neg (fun z => h z.symm)]
      exact flipK x y c h e
end
/-- the first page stands ahead of the other one -/
def ahead (k k' : NestedKey) : Bool := lexT (toks (place k)) (toks (place k'))
theorem ahead_lt {k k' : NestedKey} (h : PgK k) (h' : PgK k') : ltK (place k) (place k') = some (ahead k k') := by
  obtain ⟨c, e⟩ := place_lt h h'
  obtain ⟨i, r, e1⟩ := place_head h
  obtain ⟨i', r', e2⟩ := place_head h'
  have e3 := e
  rw [e1, e2, ltK] at e3
  have := lex_tup e3
  rw [← e1, ← e2] at this
  rw [e]
  exact congrArg some this.symm
theorem ahead_self (k : NestedKey) : ahead k k = false := lex_irrefl _
theorem ahead_trans {a b c : NestedKey} (h1 : ahead a b = true) (h2 : ahead b c = true) : ahead a c = true := lex_trans _ _ _ h1 h2
theorem ahead_flip {k k' : NestedKey} (h : PgK k) (h' : PgK k') (ne : k ≠ k') : ahead k' k = !ahead k k' := by
  have h1 := ahead_lt h h'
  have h2 := ahead_lt h' h
  rw [flipK _ _ _ (fun z => ne (place_inj h h' z)) h1] at h2
  exact (Option.some.inj h2).symm
/-- strictly rising by places -/
abbrev Ord (l : List NestedKey) : Prop := l.Pairwise fun a b => ahead a b = true
theorem ord_unique : ∀ {l m : List NestedKey}, Ord l → Ord m → (∀ k, k ∈ l ↔ k ∈ m) → l = m
  | [], [], _, _, _ => rfl
  | [], b :: _, _, _, h => absurd ((h b).mpr (.head _)) (by simp)
  | a :: _, [], _, _, h => absurd ((h a).mp (.head _)) (by simp)
  | a :: l, b :: m, hl, hm, h => by
    have ea : a = b := by
      rcases List.mem_cons.mp ((h a).mp (.head _)) with e | e
      · exact e
      · rcases List.mem_cons.mp ((h b).mpr (.head _)) with e2 | e2
        · exact e2.symm
        · have h1 := (List.pairwise_cons.mp hm).1 a e
          have h2 := (List.pairwise_cons.mp hl).1 b e2
          have := ahead_trans h1 h2
          rw [ahead_self] at this
          cases this
    subst ea
    have na : ∀ {n : List NestedKey}, Ord (a :: n) → a ∉ n := fun hn z => by
      have := (List.pairwise_cons.mp hn).1 a z
      rw [ahead_self] at this
      cases this
    rw [ord_unique (List.pairwise_cons.mp hl).2 (List.pairwise_cons.mp hm).2 fun k => ⟨fun hk => ?_, fun hk => ?_⟩]
    · rcases List.mem_cons.mp ((h k).mp (.tail _ hk)) with e | e
      · subst e; exact absurd hk (na hl)
      · exact e
    · rcases List.mem_cons.mp ((h k).mpr (.tail _ hk)) with e | e
      · subst e; exact absurd hk (na hm)
      · exact e
end My

set_option Elab.async false
set_option linter.all false
set_option maxRecDepth 100000
set_option maxHeartbeats 2000000
namespace My
open PySem PySem.Spec PyProof.Rows L2 PySem.SeqAt PySem.W
theorem zip_two (xs : List (NestedKey × Addr)) : (xs.map fun p => V.ref p.2).zip (xs.map (·.1)) = xs.map fun p => (V.ref p.2, p.1) := by
  induction xs with
  | nil => rfl
  | cons p xs ih => rw [List.map_cons, List.map_cons, List.map_cons, List.zip_cons_cons, ih]
theorem nk_pairs {H : Hp} : ∀ {l : List (V × NestedKey)}, (∀ b ∈ l, Nk H b.1 b.2) → NkAll H (l.map Prod.fst) (l.map Prod.snd)
  | [], _ => .nil
  | b :: l, h => .cons (h b (.head _)) (nk_pairs fun c hc => h c (.tail _ hc))
/-- the keys of such a dict, sorted by places -/
theorem sortD_ok {H : Hp} {F : NestedKey → NestedKey} {xs : List (NestedKey × Addr)} (hF : ∀ p ∈ xs, ∀ q ∈ xs, lexT (toks (F p.1)) (toks (F q.1)) = ahead p.1 q.1) (hk : ∀ p ∈ xs, Nk H (.ref p.2) p.1) (hp : ∀ p ∈ xs, PgK p.1) (nd : (xs.map (·.1)).Nodup) :
    ∃ ks, NkAll H (sortD F xs) ks ∧ Ord ks ∧ ∀ k, k ∈ ks ↔ k ∈ xs.map (·.1) := by
  have pm := List.mergeSort_perm ((xs.map fun p => V.ref p.2).zip (xs.map (·.1))) (leF F)
  have pw := sort_pairwise (sortLe_total (listOrd itemOrd) false fun b : V × NestedKey => toks (F b.2)) ((xs.map fun p => V.ref p.2).zip (xs.map (·.1)))
  unfold sortD
  change List.Pairwise (fun a b => leF F a b = true) (((xs.map fun p => V.ref p.2).zip (xs.map (·.1))).mergeSort (leF F)) at pw
  generalize ((xs.map fun p => V.ref p.2).zip (xs.map (·.1))).mergeSort (leF F) = l at pm pw ⊢
  rw [zip_two] at pm
  have mem : ∀ b ∈ l, ∃ p ∈ xs, b = (V.ref p.2, p.1) := fun b hb => by
    obtain ⟨p, hp, e⟩ := List.mem_map.mp (pm.mem_iff.mp hb)
    exact ⟨p, hp, e.symm⟩
  have pk : (l.map Prod.snd).Perm (xs.map (·.1)) := by
    have := pm.map Prod.snd
    rwa [List.map_map] at this
  refine ⟨l.map Prod.snd, nk_pairs fun b hb => ?_, ?_, fun k => pk.mem_iff⟩
  · obtain ⟨p, hp, rfl⟩ := mem b hb
    exact hk p hp
  · have nl : (l.map Prod.snd).Nodup := pk.nodup_iff.mpr nd
    have nl2 : l.Pairwise fun a b => a.2 ≠ b.2 := List.pairwise_map.mp nl
    refine List.pairwise_map.mpr ((pw.and nl2).imp_of_mem fun {a b} ha hb h => ?_)
    obtain ⟨p, hp1, rfl⟩ := mem a ha
    obtain ⟨q, hq1, rfl⟩ := mem b hb
    have h1 : (!lexT (toks (F q.1)) (toks (F p.1))) = true := h.1
    rw [hF q hq1 p hp1] at h1
    have := ahead_flip (hp p hp1) (hp q hq1) h.2
    rw [this] at h1
    simpa using h1
theorem putN_keys (xs : List (NestedKey × Addr)) (k : NestedKey) (a : Addr) : (∀ x, x ∈ (putN xs k a).map (·.1) ↔ x = k ∨ x ∈ xs.map (·.1)) ∧ ((xs.map (·.1)).Nodup → ((putN xs k a).map (·.1)).Nodup) ∧ (putN xs k a).length ≤ xs.length + 1 := by
  unfold putN
  split
  · rename_i h
    exact ⟨fun x => ⟨.inr, fun e => e.elim (fun z => by rw [z]; exact h) id⟩, id, Nat.le_succ _⟩
  · rename_i h
    refine ⟨fun x => ?_, fun nd => ?_, by rw [List.length_append]; exact Nat.le_refl _⟩
    · rw [List.map_append, List.mem_append]
      constructor
      · rintro (e | e)
        · exact .inr e
        · exact .inl (by simpa using e)
      · rintro (e | e)
        · exact .inr (by simpa using e)
        · exact .inl e
    · rw [List.map_append, List.nodup_append]
      refine ⟨nd, by simp, fun x hx y hy => ?_⟩
      obtain rfl : y = k := by simpa using hy
      exact fun z => h (by rw [← z]; exact hx)
theorem putN_mem {xs : List (NestedKey × Addr)} {k : NestedKey} {a : Addr} {p : NestedKey × Addr} (h : p ∈ putN xs k a) : p ∈ xs ∨ p = (k, a) := by
  unfold putN at h
  split at h
  · exact .inl h
  · rcases List.mem_append.mp h with h | h
    · exact .inl h
    · exact .inr (List.mem_singleton.mp h)
end My

set_option Elab.async false
set_option linter.all false
set_option maxRecDepth 100000
set_option maxHeartbeats 2000000
/-! a lambda of one parameter handed to a def, and called there: its body's reading is told with the value -/
namespace LM
open PySem PySem.Spec PyProof.Rows L2
/-- the names of a lambda with the parameter k: k alone is its own, the others are captured ones and globals -/
structure Scp (sc scope : Scope) (k : Str) : Prop where
  fn : scope.kind = .function
  nco : scope.isCoroutine = false
  ngen : scope.isGenerator = false
  ncell : ∀ y ∈ scope.names, y.2 ≠ .cell
  par : scope.names.lookup k = some .local
  one : ∀ y ∈ scope.names, y.2 = .local → y.1 = k
  cap : ∀ y ∈ scope.names, y.2 = .free → sc.names.lookup y.1 = some .cell ∨ sc.names.lookup y.1 = some .free
def scpB (sc scope : Scope) (k : Str) : Bool :=
  decide (scope.kind = .function) && !scope.isCoroutine && !scope.isGenerator && decide (scope.names.lookup k = some .local) && scope.names.all fun y => !decide (y.2 = .cell) && (!decide (y.2 = .local) || decide (y.1 = k)) && (!decide (y.2 = .free) || (decide (sc.names.lookup y.1 = some .cell) || decide (sc.names.lookup y.1 = some .free)))
theorem scp_by {sc scope : Scope} {k : Str} (h : scpB sc scope k = true) : Scp sc scope k := by
  unfold scpB at h
  simp only [Bool.and_eq_true, Bool.or_eq_true, Bool.not_eq_true', decide_eq_true_eq, decide_eq_false_iff_not, List.all_eq_true] at h
  obtain ⟨⟨⟨⟨a, b⟩, c⟩, d⟩, e⟩ := h
  exact ⟨a, b, c, fun y hy => (e y hy).1.1, d, fun y hy z => (e y hy).1.2.resolve_left fun q => q z, fun y hy z => (e y hy).2.resolve_left fun q => q z⟩
section
variable {X : Cx} {pins : List (Addr × Obj)} {σ : L2.St} {H HZ : Hp} {s s1 : Shared} {scope : Scope} {k : Str}
/-- each captured name has a cell in the maker's frame -/
theorem Scp.held (L : Scp X.env.scope scope k) (ok : X.Ok) {y : Str × NameKind} (hy : y ∈ scope.names) (e : y.2 = .free) : ∃ c, X.env.cells.lookup y.1 = some c := ok.has _ (L.cap y hy e)
/-- the body's context: the library's, with the parameter as one more name -/
def cx1 (X : Cx) (A : Around) (outer : List Env) (s : Shared) (H : Hp) (E : XK) (scope : Scope) (f c' : Addr) (k : Str) : Cx := { LamX.lamCx X A outer s H E scope f c' with N := X.N ++ [k] }
/-- a cell that the body sees is the maker's -/
theorem clo_cell (L : Scp X.env.scope scope k) (ok : X.Ok) {y : Str} {c : Addr} (e : (cloFrom X.env.cells scope.names []).lookup y = some c) : X.env.cells.lookup y = some c := by
  rcases cloFrom_mem (PySem.mem_of_lookup e) with z | ⟨m, d⟩
  · cases z
  · obtain ⟨c1, hc⟩ := L.held ok m rfl
    have hc : X.env.cells.lookup y = some c1 := hc
    rw [d, hc]
    rfl
theorem clo_has {y : Str} (m : scope.names.lookup y = some .free) : ∃ c, (cloFrom X.env.cells scope.names []).lookup y = some c := mem_lookup (cloFrom_has (cells := X.env.cells) (acc := []) (PySem.mem_of_lookup m))
theorem begin1 {A : Around} {outer : List Env} {E : XK} {f c' : Addr} {h₁ : Heap} {tk : Nat} {v : V} {u : Value} (I : Inv X pins σ H s) (L : Scp X.env.scope scope k) (nk : k ∉ X.N) (e0 : Env0 X.prog X.w X.K X.mg X.base A outer s1 HZ) (hd : A.handled = none)
    (un : Un (frs X.stack) [] H HZ s.heap s1.heap) (hns : h₁.Ns s1.heap.objs.size fun y => [(k, u)].reverse.lookup y) (kp : ∀ b o, s1.heap.get? b = some o → h₁.get? b = some o) (rv : RelV v u) :
    Inv (cx1 X A outer s1 HZ E scope f c' k) [] (σ ++ [some v]) HZ { s1 with heap := h₁, toks := tk } := by
  have keepC {c : Addr} {x : Option Value} (n : H c = none) (q : s.heap.IsCell c x) : h₁.IsCell c x := by
    obtain ⟨o, ho, d⟩ := q
    obtain ⟨sl, z⟩ := un.any ho n (by simp)
    exact ⟨_, kp _ _ z, d⟩
  have none_ (b : Addr) : b ∉ (cx1 X A outer s1 HZ E scope f c' k).ex := fun z => absurd (show b ∈ ([] : List Addr) from z) (by simp)
  have ncl {y : Str} (q : scope.names.lookup y = some .cell) : False := L.ncell _ (PySem.mem_of_lookup q) rfl
  have okX : (cx1 X A outer s1 HZ E scope f c' k).Ok := by
    refine ⟨e0.mod, L.fn, rfl, rfl, Nat.le_refl _, ?_, ?_, ?_, fun _ => hd, Around.frames_deeper e0.frames, .inr ⟨rfl, rfl⟩, fun b z => absurd z (none_ b), e0.bs, e0.bsz, fun b _ _ => none_ b, fun b z => absurd z (none_ b), e0.funs, e0.frf⟩
    · exact fun y z c a b => I.ok.inj y z c (clo_cell L I.ok a) (clo_cell L I.ok b)
    · exact fun y hy => Or.elim (show scope.names.lookup y = some .cell ∨ scope.names.lookup y = some .free from hy) (fun q => (ncl q).elim) clo_has
    · exact fun y c z _ => absurd (show false = true from z) Bool.false_ne_true
  refine ⟨okX, rfl, e0.bare, Un.kept kp, ⟨_, hns, ?_⟩, ?_, e0.hok.fresh (Nat.le_refl _), ?_, fun q hq => absurd (show q ∈ ([] : List (Addr × Obj)) ++ [] from hq) (by simp), e0.hok.kept kp, ?_⟩
  · intro i y x a b vis
    have a : (X.N ++ [k])[i]? = some y := a
    have vis : Vis scope y := vis
    by_cases hi : i < X.N.length
    · rw [List.getElem?_append_left hi] at a
      rw [List.getElem?_append_left (by rw [I.len]; exact hi)] at b
      have fr : scope.names.lookup y = some .free := by
        rcases vis with q | q | q
        · exact absurd (List.mem_of_getElem? a) (by rw [show y = k from L.one _ (PySem.mem_of_lookup q) rfl]; exact nk)
        · exact (ncl q).elim
        · exact q
      obtain ⟨m, _, look⟩ := I.loc
      have seen : Vis X.env.scope y := (L.cap _ (PySem.mem_of_lookup fr) rfl).elim (fun q => .inr (.inl q)) fun q => .inr (.inr q)
      obtain ⟨w', r, q⟩ := look i y x a b seen
      obtain ⟨c2, h2⟩ := clo_has (X := X) fr
      refine ⟨w', r, .inr ⟨.inr fr, c2, h2, ?_⟩⟩
      have c1 := clo_cell L I.ok h2
      rcases q with ⟨q, _⟩ | ⟨_, c3, e', z⟩
      · have q : X.env.scope.names.lookup y = some .local := q
        rcases L.cap _ (PySem.mem_of_lookup fr) rfl with q2 | q2
        · rw [show X.env.scope.names.lookup y = _ from q2] at q; cases q
        · rw [show X.env.scope.names.lookup y = _ from q2] at q; cases q
      · rw [c1] at e'
        cases e'
        exact keepC (I.freeC y _ c1) z
    · have hi2 : i = X.N.length := by
        have := (List.getElem?_eq_some_iff.mp a).1
        rw [List.length_append, List.length_singleton] at this
        omega
      subst hi2
      rw [List.getElem?_append_right (Nat.le_refl _), Nat.sub_self] at a
      rw [← I.len, List.getElem?_append_right (Nat.le_refl _), Nat.sub_self] at b
      cases a
      cases b
      refine ⟨u, rv, .inl ⟨L.par, ?_⟩⟩
      simp
  · intro y c e
    obtain ⟨w', z⟩ := I.cell y c (clo_cell L I.ok e)
    exact ⟨w', keepC (I.freeC y c (clo_cell L I.ok e)) z⟩
  · intro y c e
    have e := clo_cell L I.ok e
    obtain ⟨x, o, ho, _⟩ := I.cell y c e
    exact un.free c o ho (I.freeC y c e) (by simp)
  · show (σ ++ [some v]).length = (X.N ++ [k]).length
    rw [List.length_append, List.length_append, I.len]
    rfl
theorem noX {P : Program} {w : World} {outer : List Env} {H : Hp} {s s' : Shared} {u : Value} (z : L2.CX P w outer H s C8.E0 u s') : False := by
  obtain ⟨_, _, _, _, _, _, _, _, _, _, _, _, z⟩ := z
  exact z
/-- what a lambda's object is -/
abbrev obj1 (X : Cx) (params : Arguments) (body : Expr) (scope : Scope) (pm : Value) (c' : Addr) (ctv : Value) : Obj := PySem.W.kla_obj "<lambda>" (X.env.qual ++ "<lambda>") params body scope (cloFrom X.env.cells scope.names []) pm c' ctv
/-- the parameter takes the one value -/
def Bind1 (params : Arguments) (body : Expr) (scope : Scope) (k : Str) : Prop := ∀ (q : Str) (cl : List (Str × Addr)) (pm cv ctv u : Value), bindArgs (PySem.W.kla_fn "<lambda>" q params body scope cl pm cv ctv) ⟨[u], []⟩ = pure [(k, u)]
/-- a(e), in the def that got the lambda as its i-th name -/
theorem act1 {Ng : List Str} {qg : Str} {sg : Scope} {g f c' : Addr} {cdg pm ctv : Value} {params : Arguments} {body e : Expr} {n i : Nat} {a : Str} {pn : List (Addr × Obj)} {xe : Value → Shared → Prop} {tb te : TE} {p1 p2 : Pos}
    (I : Inv X pins σ H s) (L : Scp X.env.scope scope k) (nk : k ∉ X.N) (hf : s.heap.get? f = some (obj1 X params body scope pm c' ctv)) (hfn : H f = none) (hfr : f ∉ frs X.stack) (hb : Bind1 params body scope k)
    (hr : Room (n + 1) (X.A.deeper (envOfC qg sg s.heap.objs.size g cdg))) (hbody : ∀ (A : Around) (outer : List Env) (s : Shared) (H : Hp), Room n (A.deeper (LamX.lamEnv X scope s.heap.objs.size f c')) → PE (cx1 X A outer s H C8.E0 scope f c' k) body tb)
    (he : PE ((cxOf C8.CX0 X.prog X.w X.K X.mg X.base Ng qg sg g cdg X.A X.stack s H C8.E0).tr pn xe) e te) (hst : starEach [e] ((cxOf C8.CX0 X.prog X.w X.K X.mg X.base Ng qg sg g cdg X.A X.stack s H C8.E0).tr pn xe).env = [(false, eval e ((cxOf C8.CX0 X.prog X.w X.K X.mg X.base Ng qg sg g cdg X.A X.stack s H C8.E0).tr pn xe).env)])
    (hN : Ng[i]? = some a) (hv : Vis sg a) (hd : (a == ("__debug__" : Str)) = false := by decide) (hcd : (a == ("__classdict__" : Str)) = false := by decide) :
    PE ((cxOf C8.CX0 X.prog X.w X.K X.mg X.base Ng qg sg g cdg X.A X.stack s H C8.E0).tr pn xe) (.Call (.Name a p1) [e] [] p2) (fun σZ HZ Q => σZ[i]? = some (some (.ref f)) ∧ te σZ HZ fun x H1 => H1 c' = some (LamX.CodeO c' (X.env.qual ++ "<lambda>")) ∧ tb (σ ++ [some x]) H1 Q) := by
  refine ⟨fun pinsZ sZ σZ HZ Q IZ ⟨hs, ht⟩ => ?_⟩
  refine wpAny_Call_Name_kw (thn ((pe_var (pos := p1) (i := i) hN hv hd hcd).run pinsZ sZ σZ HZ (fun v H1 => v = .ref f ∧ H1 = HZ) IZ ⟨.ref f, hs, rfl, rfl⟩) fun u0 s0 ⟨v0, H0, I0, r0, q0⟩ => ?_)
  obtain ⟨rfl, rfl⟩ := q0
  obtain rfl : u0 = Value.ref f := r0
  have at0 : s0.heap.get? f = some (obj1 X params body scope pm c' ctv) := I0.base.keep f _ hf hfn hfr fun z => nomatch (show f ∈ ([] : List Addr) from z)
  refine PySem.W.callWith_F (first := []) ⟨_, _, _, _, at0⟩ ?_ (hst.trans rfl) rfl
  rw [hst]
  show wpAny _ _ (spliced ((false, eval e _) :: _)) _ _ s0
  refine Calls.spliced_cons (thn (he.run pinsZ s0 σZ H0 _ I0 ht) fun u s1 ⟨x, H1, I1, r1, hc, ht1⟩ => ?_)
  have at1 : s1.heap.get? f = some (obj1 X params body scope pm c' ctv) := I1.base.keep f _ hf hfn hfr fun z => nomatch (show f ∈ ([] : List Addr) from z)
  refine Calls.spliced_nil ⟨⟨_, _, _, _, at1⟩, ?_⟩
  have un : Un (frs X.stack) [] H H1 s.heap s1.heap := I1.base
  obtain ⟨⟨oc, vs, t, hoc, hdc, hvc⟩, _, _⟩ := I1.hok c' _ hc
  have run : codeAny (model X.prog X.w) (X.A.deeper (envOfC qg sg s.heap.objs.size g cdg)) (.call (.ref f) ⟨[u], []⟩) (CR C8.CX0 (envOfC qg sg s.heap.objs.size g cdg :: X.stack) X.prog X.w H1 s1 Q C8.E0) s1 := by
    refine PySem.W.kla_callFunE hr.depth at1 rfl L.nco L.ngen rfl ⟨c', oc, vs, t, rfl, hoc, hdc, hvc⟩ ?_
    rw [hb]
    refine wpAny_pure (wpAny_newFunctionEnv L.ncell (fun y hy => by rw [List.mem_singleton.mp hy]; exact L.par) (fun h₁ hns hsb => ⟨I1.nolimit.fresh _ hsb, ?_⟩) L.fn)
    show codeAny _ _ (.expr body (LamX.lamEnv X scope s1.heap.objs.size f c')) _ _
    have kp (b : Addr) (o : Obj) (z : s1.heap.get? b = some o) : h₁.get? b = some o := hsb.extBut b o (Nat.ne_of_lt (Heap.lt_size z)) (Heap.get?_push_of_some _ z)
    have J := begin1 (E := C8.E0) (f := f) (c' := c') (tk := s1.toks + [(k, u)].length) I L nk I1.env0 hr.hd un hns kp r1
    refine PySem.W.kla_codeExpr (wpAny_mono ((hbody _ _ s1 H1 (hr.deeper _)).run [] _ _ H1 Q J ht1) ?_ ?_)
    · exact fun v s' ⟨w', H', J', rv, q⟩ => ⟨w', H', J'.os, J'.bare, J'.base, J'.hok, rv, q⟩
    · exact fun e s' hq => wpAny_mono hq (fun _ _ z => (noX z).elim) fun _ _ z => (noX z).elim
  refine wpAny_call (codeAny_mono run fun r s' hq => ?_)
  cases r with
  | error e => exact (show False from hq).elim
  | ok fl =>
    cases fl with
    | ret u => exact I1.after hq
    | next => exact False.elim hq
    | brk => exact False.elim hq
    | cont => exact False.elim hq
/-- H1 is H but for the table at P, whose codes all bear the name q, and for new things -/
def Made (P : Addr) (q : Str) (H H1 : Hp) : Prop := (∀ b o, b ≠ P → H b = some o → H1 b = some o) ∧ LamX.TabS H1 P q
/-- the lambda's object is made; of the tables its maker's alone is touched -/
theorem make1 {c P : Addr} {params : Arguments} {body : Expr} {pos : Pos} {E Q : Value → Shared → Prop} (I : Inv X pins σ H s) (TB : LamX.TabB X.base X.mg c P) (hcode : X.env.code = .ref c) (hT : LamX.TabS H P (X.env.qual ++ "<lambda>")) (hdef : defaultsOf params X.env = ([], [])) (L : Scp X.env.scope scope k)
    (h : ∀ (f c' : Addr) (pm ctv : Value) (H1 : Hp) (s' : Shared), Inv X pins σ H1 s' → Made P (X.env.qual ++ "<lambda>") H H1 → s'.heap.get? f = some (obj1 X params body scope pm c' ctv) → H1 f = none → f ∉ frs X.stack → H1 c' = some (LamX.CodeO c' (X.env.qual ++ "<lambda>")) → Q (.ref f) s') :
    wpAny (model X.prog X.w) X.A (eval (.Lambda params body scope pos) X.env) Q E s := by
  obtain ⟨ps, hP, tri, own⟩ := id hT
  have cl := closure_ok (env := X.env) (scope := scope) fun y hy e => L.held I.ok hy e
  have glob := I.mod.glob.keeps I.bk
  have cod := TB.code.keeps I.bk
  have blt : s.heap.BuiltinsAt X.mg P := TB.bm.keeps I.bk
  have objP : s.heap.get? P = some { cls := .none, data := .fields ps } := I.hok P _ hP
  have off (f : Addr) (hf : s.heap.objs.size ≤ f) : f ∉ frs X.stack := fun z => (List.mem_cons.mp (I.stkSub _ z)).elim (fun e => absurd hf (Nat.not_le.mpr (by rw [e]; exact I.lt))) (I.nofs hf)
  refine PySem.W.kla_eval hdef ?_
  cases found : codeAmong pos ps.toList with
  | some cv =>
    obtain ⟨c', rfl, hco⟩ := own pos cv found
    refine PySem.W.kla_makeFunctionHit (mg := X.mg) (c := c) (P := P) (ps := ps) cl I.ok.glob glob hcode cod objP tri found blt fun ctv h' tk grow more => ?_
    exact h _ c' _ ctv H _ (I.kept fun b o e => Heap.get?_push_of_some _ (grow b o e)) ⟨fun _ _ _ e => e, hT⟩ (Heap.get?_push_size _ rfl) (I.hok.fresh more) (off _ more) hco
  | none =>
    refine PySem.W.kla_makeFunction (mg := X.mg) (c := c) (P := P) (ps := ps) cl I.ok.glob glob hcode cod objP tri found TB.gP blt fun c' ctv h' tk grow ge lt rec_ tab => ?_
    obtain ⟨c2, oc, vs, t, ec, hoc, hd, hv⟩ := rec_
    cases ec
    have fresh : H c' = none := I.hok.fresh ge
    have more : s.heap.objs.size ≤ h'.objs.size := Nat.le_trans ge (Nat.le_of_lt lt)
    have Pc : P ≠ c' := ne_of_none hP fresh
    have eL : (ps ++ #[rawInt pos.line, rawInt pos.col, Value.ref c']).toList = ps.toList ++ [rawInt pos.line, rawInt pos.col, Value.ref c'] := by simp
    have J := LamX.inv_table (q := X.env.qual ++ "<lambda>") (t' := tk) (more := #[rawInt pos.line, rawInt pos.col, Value.ref c']) (h' := h'.push (obj1 X params body scope ((X.mg "__name__").getD .none) c' ctv)) I hP (fun b o hb e => Heap.get?_push_of_some _ (grow b o hb e)) (Heap.get?_push_of_some _ tab) ge ⟨oc, vs, t, Heap.get?_push_of_some _ hoc, hd, hv⟩
    have stay (b : Addr) (o : HO) (n : b ≠ P) (e : H b = some o) : upd (upd H P (.tbl (ps ++ #[rawInt pos.line, rawInt pos.col, Value.ref c']))) c' (LamX.CodeO c' (X.env.qual ++ "<lambda>")) b = some o := by rw [upd_ne (ne_of_none e fresh), upd_ne n]; exact e
    refine h _ c' _ ctv _ _ J ⟨stay, _, by rw [upd_ne Pc, upd_same], by rw [eL]; exact PySem.TriplesOk_snoc _ _ _ _ tri, fun p' cv z => ?_⟩ (Heap.get?_push_size _ rfl) ?_ (off _ more) upd_same
    · rw [eL] at z
      rcases LamX.among_app _ tri z with z | z
      · obtain ⟨c0, e1, e2⟩ := own p' cv z
        exact ⟨c0, e1, stay _ _ (fun q => by rw [q, hP] at e2; exact LamX.codeO_ne ps (Option.some.inj e2).symm) e2⟩
      · exact ⟨c', z, upd_same⟩
    · rw [upd_ne (Nat.ne_of_gt lt), upd_ne (Nat.ne_of_gt (Nat.lt_of_lt_of_le (Heap.lt_size objP) more))]
      exact I.hok.fresh more
/-- the def that gets a thing and a lambda, and calls the lambda by the name a: TT is what it makes of the body's reading -/
def Gives1 (X : Cx) (Ng : List Str) (x : Str) (sg : Scope) (g : Addr) (cdg : Value) (bg : List Stmt) (a q : Str) (TT : V → (V → Hp → VK → Prop) → Hp → VK → Prop) : Prop :=
  ∀ (v : V) (f c' : Addr) (s : Shared) (H : Hp) (Q : VK) (tl : V → Hp → VK → Prop),
    (∀ (e : Expr) (te : TE) (p1 p2 : Pos) (pn : List (Addr × Obj)) (xe : Value → Shared → Prop), PE ((cxOf C8.CX0 X.prog X.w X.K X.mg X.base Ng x sg g cdg X.A X.stack s H C8.E0).tr pn xe) e te → starEach [e] ((cxOf C8.CX0 X.prog X.w X.K X.mg X.base Ng x sg g cdg X.A X.stack s H C8.E0).tr pn xe).env = [(false, eval e ((cxOf C8.CX0 X.prog X.w X.K X.mg X.base Ng x sg g cdg X.A X.stack s H C8.E0).tr pn xe).env)] →
      PE ((cxOf C8.CX0 X.prog X.w X.K X.mg X.base Ng x sg g cdg X.A X.stack s H C8.E0).tr pn xe) (.Call (.Name a p1) [e] [] p2) (fun σZ HZ Q => σZ[1]? = some (some (.ref f)) ∧ te σZ HZ fun x H1 => H1 c' = some (LamX.CodeO c' q) ∧ tl x H1 Q)) →
    H c' = some (LamX.CodeO c' q) → TT v tl H Q → ∃ t, PSs (cxOf C8.CX0 X.prog X.w X.K X.mg X.base Ng x sg g cdg X.A X.stack s H C8.E0).nox bg t ∧ t { nx := fun _ H' => Q .non H', rt := Q } (L2.start Ng [v, .ref f]) H
/-- x(e1, lambda k: body): e1's value, then all as the def makes of the body -/
def tLam1 (P : Addr) (q : Str) (t1 : TE) (TT : V → (V → Hp → VK → Prop) → Hp → VK → Prop) (tb : TE) : TE := fun σ H Q => t1 σ H fun v H0 => LamX.TabS H0 P q ∧ ∀ H1, Made P q H0 H1 → TT v (fun x H' Q' => tb (σ ++ [some x]) H' Q') H1 Q
theorem lamcall1 {TT : V → (V → Hp → VK → Prop) → Hp → VK → Prop} {x a0 a : Str} {st : Stmt} {fd : FuncData} {g c P : Addr} {n : Nat} {Ng : List Str}
    {params : Arguments} {body e1 : Expr} {t1 tb : TE} {p lpos pos : Pos} (hg : Gl X x) (hm : X.mg x = some (.ref g)) (F : Fun X.K x x st g fd) (hb : L2.Binds X.K fd [a0, a] []) (Sg : FnScope Ng [a0, a] (defScope st)) (hNg : Ng[1]? = some a) (hva : Vis (defScope st) a) (hG : ∀ cdv, Gives1 X Ng x (defScope st) g cdv (defBody st) a (X.env.qual ++ "<lambda>") TT)
    (TB : LamX.TabB X.base X.mg c P) (hcode : X.env.code = .ref c) (hr : Room (n + 2) X.A) (L : Scp X.env.scope scope k) (nk : k ∉ X.N) (hdef : defaultsOf params X.env = ([], [])) (hbi : Bind1 params body scope k)
    (h1 : PE X e1 t1) (hs1 : starEach [e1, .Lambda params body scope lpos] X.env = [(false, eval e1 X.env), (false, eval (.Lambda params body scope lpos) X.env)])
    (hbody : ∀ (A : Around) (outer : List Env) (s : Shared) (H : Hp) (f c' : Addr), Room n (A.deeper (LamX.lamEnv X scope s.heap.objs.size f c')) → PE (cx1 X A outer s H C8.E0 scope f c' k) body tb)
    (hdb : (x == ("__debug__" : Str)) = false := by decide) (hd : (a == ("__debug__" : Str)) = false := by decide) (hcd : (a == ("__classdict__" : Str)) = false := by decide) :
    PE X (.Call (.Name x p) [e1, .Lambda params body scope lpos] [] pos) (tLam1 P (X.env.qual ++ "<lambda>") t1 TT tb) := by
  obtain ⟨oc, od, kV, doc, pm, an, cdv, ct, osl, rfl, lk, hcg⟩ := F.ex
  refine ⟨fun pins s σ H Q I h => ?_⟩
  refine wpAny_Call_Name_kw (ld_glob I hg hm ?_ hdb)
  refine PySem.W.callWith_K (h₀ := X.base) I.ok.mod.kin F.kp ?_ (hs1.trans rfl) rfl
  rw [hs1]
  refine Calls.spliced_cons (thn (h1.run pins s σ H _ I h) fun u0 s0 ⟨v, H0, I0, r0, hT, hq⟩ => ?_)
  refine Calls.spliced_cons (make1 I0 TB hcode hT hdef L fun f c' pm' ctv H1 s' I1 md hf hfn hfr hco => ?_)
  refine Calls.spliced_nil ⟨I1.kIn, ?_⟩
  have run : codeAny (model X.prog X.w) X.A (.call (.ref g) ⟨[u0, .ref f], []⟩) (CR C8.CX0 X.stack X.prog X.w H1 s' Q C8.E0) s' := by
    refine LamX.run_ofS (N := Ng) (ps := [a0, a]) (us := [u0, .ref f]) (vs := [v, .ref f]) lk hcg Sg hr I1.env0 (hb s' [u0, .ref f] I1.kIn rfl) (.cons r0 (.cons rfl .nil)) rfl fun hr' => ?_
    obtain ⟨t', a1, a2⟩ := hG cdv v f c' s' H1 Q (fun x H' Q' => tb (σ ++ [some x]) H' Q') (fun e te p1 p2 pn xe he hst => act1 (i := 1) I1 L nk hf hfn hfr hbi hr' (fun A outer s H hr2 => hbody A outer s H f c' hr2) he hst hNg hva hd hcd) hco (hq H1 md)
    exact ⟨t', a1.nox, a2⟩
  refine wpAny_call (codeAny_mono run fun r s2 z => ?_)
  cases r with
  | error e => exact (show False from z).elim
  | ok fl => cases fl with
    | ret u => exact I1.after z
    | next => exact False.elim z
    | brk => exact False.elim z
    | cont => exact False.elim z
end
end LM

set_option Elab.async false
set_option linter.all false
set_option maxRecDepth 100000
set_option maxHeartbeats 2000000
/-! tables of codes, where some defs have generator expressions and others lambdas: the same words as in Kinds, Pages -/
namespace LT
open PySem PySem.Spec PyProof.Rows L2 My
/-- tables of generator expressions; tables of lambdas with the lambdas' name -/
structure TL where
  g : List Addr
  l : List (Addr × Str)
structure Tbs (Ts : TL) (H : Hp) : Prop where
  gen : ∀ P ∈ Ts.g, GxR.TabG H P
  lam : ∀ e ∈ Ts.l, LamX.TabS H e.1 e.2
  ap : ∀ P ∈ Ts.g, ∀ e ∈ Ts.l, e.1 ≠ P
  fn : ∀ e ∈ Ts.l, ∀ e' ∈ Ts.l, e.1 = e'.1 → e.2 = e'.2
variable {Ts : TL} {H H' H1 H2 : Hp}
instance : CoeFun (Tbs Ts H) fun _ => ∀ P ∈ Ts.g, GxR.TabG H P := ⟨Tbs.gen⟩
/-- lists, dicts and sets may change: tables and codes are none of them -/
theorem Tbs.keep (h : Tbs Ts H) (k : ∀ b o, H b = some o → (∀ xs, o ≠ .lst xs) → (∀ kvs, o ≠ .dK kvs) → H' b = some o) : Tbs Ts H' := by
  refine ⟨fun P hP => ?_, fun e he => ?_, h.ap, h.fn⟩
  · obtain ⟨ps, a, b⟩ := h.gen P hP
    exact ⟨ps, k _ _ a (fun xs z => by cases z) (fun xs z => by cases z), b⟩
  · obtain ⟨ps, a, b, c⟩ := h.lam e he
    refine ⟨ps, k _ _ a (fun xs z => by cases z) (fun xs z => by cases z), b, fun pos cv hc => ?_⟩
    obtain ⟨c0, e1, e2⟩ := c pos cv hc
    exact ⟨c0, e1, k _ _ e2 (fun xs z => by unfold LamX.CodeO at z; cases z) (fun xs z => by unfold LamX.CodeO at z; cases z)⟩
theorem Tbs.same (h : Tbs Ts H) (s : Same H H') : Tbs Ts H' := h.keep fun b o e _ _ => s b o e
theorem Tbs.new {p : Addr} {o : HO} (h : Tbs Ts H) (hp : H p = none) : Tbs Ts (upd H p o) := h.same (same_upd hp)
theorem Tbs.lst {f : Addr} {xs : List V} {o : HO} (h : Tbs Ts H) (hf : H f = some (.lst xs)) : Tbs Ts (upd H f o) := h.keep fun b u e n _ => by
  rw [upd_ne (fun z => by rw [z, hf] at e; exact n xs (Option.some.inj e).symm)]
  exact e
def Tk (Ts : TL) (H H' : Hp) : Prop := (∀ b, b ∉ Ts.g → H' b = H b) ∧ Tbs Ts H'
theorem Tk.of {P : Addr} (h : Tbs Ts H) (hP : P ∈ Ts.g) (t : GxR.Tabbed P H H1) : Tk Ts H H1 := by
  obtain ⟨t1, t2⟩ := t
  refine ⟨fun b hb => t2 b fun z => hb (by rw [z]; exact hP), fun P' hP' => ?_, fun e he => ?_, h.ap, h.fn⟩
  · by_cases z : P' = P
    · rw [z]; exact t1
    · obtain ⟨ps, a, b⟩ := h.gen P' hP'
      exact ⟨ps, by rw [t2 _ z]; exact a, b⟩
  · obtain ⟨ps, a, b, c⟩ := h.lam e he
    refine ⟨ps, by rw [t2 _ (h.ap P hP e he)]; exact a, b, fun pos cv hc => ?_⟩
    obtain ⟨c0, e1, e2⟩ := c pos cv hc
    refine ⟨c0, e1, ?_⟩
    obtain ⟨ps2, a2, _⟩ := h.gen P hP
    rw [t2 _ (fun z => by rw [z, a2] at e2; exact LamX.codeO_ne ps2 (Option.some.inj e2).symm)]
    exact e2
def Gk (Ts : TL) (H H' : Hp) : Prop := (∀ b o, H b = some o → (∀ ps, o ≠ .tbl ps) → H' b = some o) ∧ Tbs Ts H'
theorem Gk.refl (h : Tbs Ts H) : Gk Ts H H := ⟨fun _ _ e _ => e, h⟩
theorem Gk.trans (a : Gk Ts H H1) (b : Gk Ts H1 H2) : Gk Ts H H2 := ⟨fun x o e n => b.1 x o (a.1 x o e n) n, b.2⟩
theorem Tk.gk (t : Tk Ts H H') (h : Tbs Ts H) : Gk Ts H H' := ⟨fun b o e n => by
  rw [t.1 b fun hb => ?_]
  · exact e
  · obtain ⟨ps, a, _⟩ := h.gen b hb
    rw [a] at e
    exact n ps (Option.some.inj e).symm, t.2⟩
theorem Gk.of_same (s : Same H H') (h : Tbs Ts H) : Gk Ts H H' := ⟨fun _ _ e _ => s _ _ e, h.same s⟩
theorem Gk.new {p : Addr} {o : HO} (h : Tbs Ts H) (hp : H p = none) : Gk Ts H (upd H p o) := .of_same (same_upd hp) h
theorem Gk.tup {b : Addr} {xs : List V} (t : Gk Ts H H') (e : H b = some (.tup xs)) : H' b = some (.tup xs) := t.1 _ _ e fun ps z => by cases z
theorem Gk.tups (g : Gk Ts H H') : Tups H H' := fun b xs e => g.tup e
/-- a lambda is made -/
theorem Gk.made {P : Addr} {q : Str} (h : Tbs Ts H) (hm : (P, q) ∈ Ts.l) (m : LM.Made P q H H1) : Gk Ts H H1 := by
  obtain ⟨m1, m2⟩ := m
  obtain ⟨ps0, a0, _⟩ := h.lam _ hm
  have ne {b : Addr} {o : HO} (e : H b = some o) (n : ∀ ps, o ≠ .tbl ps) : b ≠ P := fun z => by
    rw [z, a0] at e
    exact n ps0 (Option.some.inj e).symm
  refine ⟨fun b o e n => m1 b o (ne e n) e, fun P' hP' => ?_, fun e he => ?_, h.ap, h.fn⟩
  · obtain ⟨ps, a, b⟩ := h.gen P' hP'
    exact ⟨ps, m1 _ _ (fun z => h.ap P' hP' _ hm z.symm) a, b⟩
  · by_cases z : e.1 = P
    · have := h.fn e he _ hm z
      rw [z, this]
      exact m2
    · obtain ⟨ps, a, b, c⟩ := h.lam e he
      refine ⟨ps, m1 _ _ z a, b, fun pos cv hc => ?_⟩
      obtain ⟨c0, e1, e2⟩ := c pos cv hc
      exact ⟨c0, e1, m1 _ _ (ne e2 LamX.codeO_ne) e2⟩
theorem tbs_at {f : Addr} {o u : HO} (h : Tbs Ts H) (hf : H f = some u) (n : ∀ ps, u ≠ .tbl ps) (n2 : ∀ c q, u ≠ LamX.CodeO c q) : Tbs Ts (upd H f o) := by
  refine ⟨fun P hP => ?_, fun e he => ?_, h.ap, h.fn⟩
  · obtain ⟨ps, a, b⟩ := h.gen P hP
    exact ⟨ps, by rw [upd_ne (fun z => by rw [z, hf] at a; exact n ps (Option.some.inj a))]; exact a, b⟩
  · obtain ⟨ps, a, b, c⟩ := h.lam e he
    refine ⟨ps, by rw [upd_ne (fun z => by rw [z, hf] at a; exact n ps (Option.some.inj a))]; exact a, b, fun pos cv hc => ?_⟩
    obtain ⟨c0, e1, e2⟩ := c pos cv hc
    exact ⟨c0, e1, by rw [upd_ne (fun z => by rw [z, hf] at e2; exact n2 _ _ (Option.some.inj e2))]; exact e2⟩
end LT

set_option Elab.async false
set_option linter.all false
set_option maxRecDepth 100000
set_option maxHeartbeats 2000000
/-! The end of a law whose promise wants that no repr is under way, with tables of codes. -/
namespace GU
open PySem PySem.Spec PyProof.Rows L2
/-- what is tracked at the head: the script's list (where it is not the text's own) and the tables -/
def headH (own : Bool) (a : Addr) (T : List Addr) (o : Obj) (xs : List V) : Hp := fun b =>
  if b ∈ T then some (.tbl #[]) else if b = a ∧ own = false then some (.frz o (.lst xs)) else none
section
variable {own : Bool} {a b : Addr} {T : List Addr} {o : Obj} {xs : List V}
theorem head_tbl (h : b ∈ T) : headH own a T o xs b = some (.tbl #[]) := if_pos h
theorem head_scr (h : a ∉ T) (e : own = false) : headH own a T o xs a = some (.frz o (.lst xs)) := (if_neg h).trans (if_pos ⟨rfl, e⟩)
theorem head_cases (b : Addr) : (b ∈ T ∧ headH own a T o xs b = some (.tbl #[])) ∨ (b ∉ T ∧ b = a ∧ own = false ∧ headH own a T o xs b = some (.frz o (.lst xs))) ∨ (b ∉ T ∧ ¬ (b = a ∧ own = false) ∧ headH own a T o xs b = none) := by
  by_cases h : b ∈ T
  · exact .inl ⟨h, if_pos h⟩
  · by_cases k : b = a ∧ own = false
    · exact .inr (.inl ⟨h, k.1, k.2, (if_neg h).trans (if_pos k)⟩)
    · exact .inr (.inr ⟨h, k, (if_neg h).trans (if_neg k)⟩)
end
theorem law_callG {P : Program} {w : World} {K : PySem.W.Frag} {mg mb : Str → Option Value} {CX : CXT} {k : Nat} {fa a : Addr} {cs : List (Addr × Addr)} {fd : FuncData} {x : Str} {sp : Sp} {s : Shared} {vs : List Value} {ns : List Int}
    (inK : K.In s.heap) (glob : s.heap.Ns mainGlobals mg) (bltn : s.heap.Ns builtinsNs mb) (boot : ∀ x : Str, x ≠ "__name__" → mb x = bootBuiltins x) (lim : s.heap.NoLimit) (gens : s.gens = #[])
    (tabs : ∀ p ∈ cs, s.heap.get? p.2 = some { cls := .none, data := .fields #[] }) (far : ∀ p ∈ cs, K.lookup p.2 = none) (heads : ∀ p ∈ cs, PySem.W.CodeHd s.heap p.1 p.2)
    (bmod : ∃ (bm : Addr) (ob : Obj), mg "__builtins__" = some (.ref bm) ∧ bm ≠ builtinsNs ∧ s.heap.get? bm = some ob ∧ ob.cls = .type "module" ∧ ob.dict = some builtinsNs ∧ ob.data = .plain)
    (scr : s.heap.get? a = some { cls := .type "list", data := .seq vs.toArray }) (nums : IntsAre vs ns) (few : ns.length ≤ sizeLine) (room : Room k callerA)
    (F : ∀ base : Heap, K.In base → base.Ns mainGlobals mg → (∀ p ∈ cs, LamX.TabB base mg p.1 p.2) → FnG P w K mg base CX k fa fd [x] sp) (binds : ∀ (s : Shared) (u : Value), BindsTo s fd ⟨[u], []⟩ [(x, u)])
    (want : ∀ H : Hp, (∀ p ∈ cs, H p.2 = some (.tbl #[])) → SqL K H a (ns.map V.int) → sp [.ref a] H (fun v _ => v = .bl true) fun _ _ _ => False)
    (calm : ∀ H e s', CX [] H s (fun _ _ _ => False) e s' → False) :
    codeAny (model P w) callerA (.call (.ref fa) ⟨[.ref a], []⟩) (fun r s' => r = .ok (.ret (.bool true)) ∧ OldK s.heap s'.heap ∧ s'.os = s.os ∧ AllBare s'.gens) s := by
  let T := cs.map (·.2)
  let oA : Obj := { cls := .type "list", data := .seq vs.toArray }
  have tabT : ∀ b ∈ T, s.heap.get? b = some { cls := .none, data := .fields #[] } := by
    intro b hb
    obtain ⟨p, hp, rfl⟩ := List.mem_map.mp hb
    exact tabs p hp
  have farT : ∀ b ∈ T, K.lookup b = none := by
    intro b hb
    obtain ⟨p, hp, rfl⟩ := List.mem_map.mp hb
    exact far p hp
  have inT : ∀ p ∈ cs, p.2 ∈ T := fun p hp => List.mem_map.mpr ⟨p, hp, rfl⟩
  have apart : a ∉ T := fun z => by
    have q := (tabT a z).symm.trans scr
    cases congrArg Obj.data (Option.some.inj q)
  obtain ⟨own, hown⟩ : ∃ own : Bool, own = (K.lookup a).isSome := ⟨_, rfl⟩
  generalize hH : headH own a T oA (ns.map V.int) = H
  have cases3 := fun b => hH ▸ head_cases (own := own) (a := a) (T := T) (o := oA) (xs := ns.map V.int) b
  have vals := vals_ints nums
  have read : SqL K H a (ns.map V.int) := by
    cases e : K.lookup a with
    | none =>
      rw [e] at hown
      exact .inl (.inr ⟨oA, hH ▸ head_scr apart hown⟩)
    | some o =>
      obtain rfl : o = oA := Option.some.inj ((inK a o e).symm.trans scr)
      exact .inr ⟨oA, vs.toArray, _, e, rfl, rfl, rfl, by rw [List.size_toArray, nums.length]; exact few, by simpa using vals⟩
  have hok : HOk P w H s.heap := by
    intro b u e
    rcases cases3 b with ⟨hb, z⟩ | ⟨_, rfl, _, z⟩ | ⟨_, _, z⟩
    · cases z.symm.trans e
      exact tabT b hb
    · cases z.symm.trans e
      exact ⟨scr, by rw [List.length_map]; exact few, vs, _, vals, scr⟩
    · cases z.symm.trans e
  have clear : ∀ {b : Addr} {o : Obj}, s.heap.get? b = some o → (∀ vs n, o.data ≠ .seq vs n) → o.data ≠ .fields #[] → H b = none := by
    intro b o e h1 h2
    rcases cases3 b with ⟨hb, _⟩ | ⟨_, rfl, _, _⟩ | ⟨_, _, z⟩
    · cases (tabT b hb).symm.trans e
      exact (h2 rfl).elim
    · cases scr.symm.trans e
      exact (h1 _ _ rfl).elim
    · exact z
  have names : ∀ {b : Addr} {m : Str → Option Value}, s.heap.Ns b m → (hidT s.heap H).Ns b m := by
    rintro b m ⟨o, es, ep, e, d, r⟩
    exact ⟨o, es, ep, hidT_get e (clear e (fun vs n z => by rw [d] at z; cases z) fun z => by rw [d] at z; cases z), d, r⟩
  have inB : K.In (hidT s.heap H) := by
    intro b o e
    refine hidT_get (inK b o e) ?_
    rcases cases3 b with ⟨hb, _⟩ | ⟨_, rfl, ho, _⟩ | ⟨_, _, z⟩
    · cases (farT b hb).symm.trans e
    · rw [hown, e] at ho
      cases ho
    · exact z
  have md : L2.Mod K mg (hidT s.heap H) := ⟨inB, names glob, ⟨mb, names bltn, boot⟩, lim.imp fun mc h => ⟨names h.1, h.2⟩⟩
  have tb : ∀ p ∈ cs, LamX.TabB (hidT s.heap H) mg p.1 p.2 := by
    intro p hp
    obtain ⟨og, eg, pg, ag, dg, rg⟩ := id glob
    refine ⟨?_, ?_, fun z => ?_⟩
    · obtain ⟨o, us, file, tf, flags, tg, inF, text, tt, e1, r1, r2, r3, rest⟩ := heads p hp
      refine ⟨o, us, file, tf, flags, tg, inF, text, tt, hidT_get e1 (clear e1 (fun vs n z => ?_) fun z => ?_), r1, r2, r3, rest⟩
      · cases r2.symm.trans z
      · cases r2.symm.trans z
        simp at r3
    · obtain ⟨bm, ob, b1, b2, b3, b4, b5, b6⟩ := bmod
      refine ⟨bm, ob, b1, b2, fun q => ?_, fun q => ?_, hidT_get b3 (clear b3 (fun vs n z => ?_) fun z => ?_), b4, b5, b6⟩
      · rw [q] at b3
        cases ag.symm.trans b3
        cases dg.symm.trans b6
      · rw [q] at b3
        cases (tabs p hp).symm.trans b3
        cases b6
      · cases b6.symm.trans z
      · cases b6.symm.trans z
    · rw [z] at ag
      cases (tabs p hp).symm.trans ag
      cases dg
  have env : Env0 P w K mg (hidT s.heap H) callerA [] s H :=
    { frames := rfl, mod := md, bs := fun b o e => of_hidT e, bsz := Nat.le_of_eq (hidT_size _ _), funs := trivial, frf := fun b hb => absurd (show b ∈ ([] : List Addr) from hb) (by simp), hok := hok, bare := .of_eq gens }
  have hT : ∀ p ∈ cs, H p.2 = some (.tbl #[]) := fun p hp => hH ▸ head_tbl (inT p hp)
  refine codeAny_mono ((F _ inB (names glob) tb).go callerA rfl [] s H ⟨[.ref a], []⟩ [.ref a] [.ref a] _ _ room env (binds s (.ref a)) (.cons rfl .nil) (want H hT read)) ?_
  intro r s' h
  match r, h with
  | .error e, h => exact (calm H e s' h).elim
  | .ok (.ret u), h =>
    obtain ⟨v, H', os, bare, un, hok', rel, q⟩ := h
    obtain rfl : v = .bl true := q
    obtain rfl : u = Value.bool true := rel
    have same : ∀ b o, b ∉ T → s.heap.get? b = some o → s'.heap.get? b = some o := by
      intro b o nb e
      rcases cases3 b with ⟨hb, _⟩ | ⟨_, rfl, _, z⟩ | ⟨_, _, z⟩
      · exact absurd hb nb
      · have e2 := (hok' b _ (un.frzs b _ _ z)).1
        cases scr.symm.trans e
        exact e2
      · exact un.keep b o e z (fun z => absurd (show b ∈ ([] : List Addr) from z) (by simp)) (by simp)
    have more : ∀ p ∈ cs, ∃ ps : Array Value, s'.heap.get? p.2 = some { cls := .none, data := .fields ps } := by
      intro p hp
      obtain ⟨ps, z⟩ := un.tbls p.2 #[] (hT p hp)
      exact ⟨_, hok' p.2 _ z⟩
    refine ⟨rfl, ⟨fun b o e => ?_, fun b o e => ?_⟩, os, bare⟩
    all_goals
      by_cases hb : b ∈ T
      case neg => first | exact .inl (same b o hb e) | exact ⟨o, same b o hb e⟩
      obtain ⟨p, hp, rfl⟩ := List.mem_map.mp hb
      obtain ⟨ps, hm⟩ := more p hp
    · cases (tabs p hp).symm.trans e
      exact .inr (.inl ⟨((heads p hp).tab (tabs p hp)).isCodeTable, rfl, #[], ps, rfl, by rw [Array.empty_append]; exact hm⟩)
    · exact ⟨_, hm⟩
/-- what is known of the law's promise at the head's heap -/
def LawAtG (l : PySem.W.OpenLaw) (w : World) (K : PySem.W.Frag) (CX : CXT) (k n : Nat) (x : Str) (mg : Str → Option Value) (fa : Addr) (h : Heap) : Prop :=
  ∃ (fd : FuncData) (cs : List (Addr × Addr)) (sp : Sp), (∀ p ∈ cs, h.get? p.2 = some { cls := .none, data := .fields #[] }) ∧ (∀ p ∈ cs, K.lookup p.2 = none) ∧ (∀ p ∈ cs, PySem.W.CodeHd h p.1 p.2) ∧ (∀ (s : Shared) (u : Value), BindsTo s fd ⟨[u], []⟩ [(x, u)]) ∧
    (∀ (H : Hp) (a : Addr) (ns : List Int), ns.length ≤ n → (∀ p ∈ cs, H p.2 = some (.tbl #[])) → SqL K H a (ns.map V.int) → sp [.ref a] H (fun v _ => v = .bl true) fun _ _ _ => False) ∧
    ∀ base : Heap, K.In base → base.Ns mainGlobals mg → (∀ p ∈ cs, LamX.TabB base mg p.1 p.2) → FnG l.prog w K mg base CX k fa fd [x] sp
theorem walk_G {l : PySem.W.OpenLaw} {n k : Nat} {q : Program} {loose : List Str} {XP : (Str → Option Value) → Heap → Prop} {YP : World → Heap → Prop} {d : DefRec} {K : Params → PySem.W.Frag} {CX : World → CXT} {x : Str}
    (hn : l.most = some n) (hn2 : n ≤ sizeLine) (hdf : d.params.defaults = []) (hr : Room k callerA) (hY : ∀ (w : World) (h : Heap), YP w h → (K w.params).In h)
    (F : ∀ (w : World) (mg : Str → Option Value) (fa : Addr) (h : Heap), (K w.params).In h → h.Ns mainGlobals mg → mg d.name = some (.ref fa) → GE.TabsIn q (K w.params) h → LawAtG l w (K w.params) (CX w) k n x mg fa h)
    (hCX : ∀ (w : World) (H : Hp) (s : Shared) (e : Value) (s' : Shared), CX w [] H s (fun _ _ _ => False) e s' → False) :
    PySem.W.WalkO q loose XP YP l.row.toRowW d [] (fun f vs => PySem.call f vs) := by
  refine Att.attach_callB hn hdf fun w s0 s1 mg mb fa o pm cd doc a vs ns G Y ho hd hcd hmg hobj hints hlen hbits hg => ?_
  have KX := hY w _ Y
  obtain ⟨fd, cs, sp, hT, nT, C, hb, hsp, hF⟩ := F w mg fa _ KX G.T.g hmg fun x d c P h1 h2 => PySem.W.tab_of G.T KX h1 h2
  exact law_callG KX G.T.g G.T.b G.T.builtins G.T.nolimit hg hT nT C G.T.bmain hobj hints (Nat.le_trans hlen hn2) hr hF hb (fun H hH hS => hsp H a ns hlen hH hS) fun H e s' => hCX w H s1 e s'
end GU

set_option Elab.async false
set_option linter.all false
set_option maxRecDepth 100000
set_option maxHeartbeats 2000000
/-! tuple(elt for tg in iter if ..), whatever the element calls -/
namespace GE
open PySem PySem.Spec PyProof.Rows L2 GenW
section
variable {X : Cx} {pins : List (Addr × Obj)} {σ : L2.St} {H : Hp} {s : Shared}
/-- an around from which the def's generator may be woken -/
structure Near (X : Cx) (A : Around) : Prop where
  hd : A.handled = none
  fr : A.frames = X.A.frames
  dp : A.depth = X.A.depth
  un : A.units ≤ X.A.units + 8
/-- a generator that stands ready, its parts told -/
structure Parts (X : Cx) (pins : List (Addr × Obj)) (σ : L2.St) (scope : Scope) (elt tg iter : Expr) (ifs : List Expr) (gpos : Pos) (vs : List Nat) (g : TG) (tt : TT) (te : TE) (R : It → Hp → Prop) (a : Addr) (s5 : Shared) (it : Addr) (fp : List Addr) (tn : Nat → Heap → Prop) (J : It) (cenv : Env) (s4 : Shared) (H3 : Hp) (go : Obj) (gi : Nat) : Prop where
  gen : ∀ h : Heap, h.get? a = some go → h.IsGen a gi
  isg : s5.heap.IsGen a gi
  lim : s5.heap.NoLimit
  gs : s5.gens[gi]? = some (.fresh (.compStart (.GeneratorExp elt [⟨tg, iter, ifs, 0⟩] scope gpos) 0 (.ref it) .none cenv))
  T : Turn X.prog X.w X.K tg J fp it tn
  t0 : tn 0 s5.heap
  f0 : ∀ b ∈ fp, H3 b = none
  out : ∀ b ∈ fp, b < s4.heap.objs.size
  az : s4.heap.objs.size < a
  al : a < s5.heap.objs.size
  old : s4.heap.objs.size ≤ s5.heap.objs.size
  hco : cenv.scope.isCoroutine = false
  loc : cenv.locals = s4.heap.objs.size
  cel : ∀ x c, cenv.cells.lookup x = some c → c < s4.heap.objs.size
  stk : ∀ b ∈ frs X.stack, b < s4.heap.objs.size
  inv : ∀ (A : Around), Near X A → Inv (gctx X (A.deeper cenv) s4 H3 scope cenv fp) [(a, go)] (wipe σ vs) H3 s5
  pg : ∀ (A : Around), Near X A → PG (gctx X (A.deeper cenv) s4 H3 scope cenv fp) tg g
  pt : ∀ (A : Around), Near X A → PTs (gctx X (A.deeper cenv) s4 H3 scope cenv fp) ifs tt
  pe : ∀ (A : Around), Near X A → PE (gctx X (A.deeper cenv) s4 H3 scope cenv fp) elt te
  back : ∀ (A : Around) pn σ' H' s', Inv (gctx X (A.deeper cenv) s4 H3 scope cenv fp) pn σ' H' s' → Inv X pins σ H' s'
  fresh : s4.heap.objs.size ≤ s5.heap.objs.size
  read : R J H3
def MadeP (X : Cx) (pins : List (Addr × Obj)) (σ : L2.St) (scope : Scope) (elt tg iter : Expr) (ifs : List Expr) (gpos : Pos) (vs : List Nat) (g : TG) (tt : TT) (te : TE) (R : It → Hp → Prop) (u : Value) (s5 : Shared) : Prop :=
  ∃ (a it : Addr) (fp : List Addr) (tn : Nat → Heap → Prop) (J : It) (cenv : Env) (s4 : Shared) (H3 : Hp) (go : Obj) (gi : Nat), u = .ref a ∧ Parts X pins σ scope elt tg iter ifs gpos vs g tt te R a s5 it fp tn J cenv s4 H3 go gi
theorem gen_parts {c P : Addr} {elt tg iter : Expr} {ifs : List Expr} {gpos : Pos} {scope : Scope} {own : List (Str × Nat)} {wi : TI} {g : TG} {tt : TT} {te : TE} {k : Nat} {R : It → Hp → Prop}
    (hc : X.calm = true) (hN : X.N.Nodup) (hr : Room (k + 1) X.A) (TB : GxR.TabB X.base X.mg c P) (hcode : X.env.code = .ref c) (S : GSc X.N X.env.scope scope own) (hi : PI X tg iter wi)
    (hg : ∀ (A : Around) (s : Shared) (H : Hp) (C : Addr) (code : Value) (fp : List Addr), Room k A → PG (gctx X A s H scope (genEnv scope (cloFrom X.env.cells scope.names []) C code builtinsNs X.env) fp) tg g)
    (ht : ∀ (A : Around) (s : Shared) (H : Hp) (C : Addr) (code : Value) (fp : List Addr), Room k A → PTs (gctx X A s H scope (genEnv scope (cloFrom X.env.cells scope.names []) C code builtinsNs X.env) fp) ifs tt)
    (he : ∀ (A : Around) (s : Shared) (H : Hp) (C : Addr) (code : Value) (fp : List Addr), Room k A → PE (gctx X A s H scope (genEnv scope (cloFrom X.env.cells scope.names []) C code builtinsNs X.env) fp) elt te)
    (hs : ∀ v, genFold iter X.env v = pure v) (I : Inv X pins σ H s) (h : wi σ H fun J H1 => GxR.TabG H1 P ∧ ∀ H2, GxR.Tabbed P H1 H2 → R J H2) :
    wpAny (model X.prog X.w) X.A (eval (.GeneratorExp elt [⟨tg, iter, ifs, 0⟩] scope gpos) X.env) (MadeP X pins σ scope elt tg iter ifs gpos (own.map (·.2)) g tt te R) X.xe s := by
  have hfree : ∀ y ∈ scope.names, y.2 = .free → ∃ c, X.env.cells.lookup y.1 = some c := fun y hy e => by
    rcases S.blk.free y hy e with z | z
    · exact I.ok.has _ (.inl z)
    · exact I.ok.has _ (.inr z)
  refine wpAny_GeneratorExp_make S.co (closure_ok hfree) S.cell S.dot S.blk.kind (by have := hr.dp; omega) ?_ hs
  refine thn (hi.run pins s σ H _ I h) fun xv s1 hx => thn hx fun itv s2 h2 => ?_
  obtain ⟨it, fp, tn, J, H1, rfl, I2, T, t2, f2, ⟨ps, hP, htr⟩, q⟩ := h2
  have oP : s2.heap.get? P = some { cls := .none, data := .fields ps } := I2.hok P _ hP
  have cd : PySem.W.CodeHd s2.heap c P := TB.code.keeps I2.bk
  refine ⟨I2.nolimit, ?_⟩
  have nP : ∀ b ∈ fp, b ≠ P := fun b hb z => by
    have q := (f2 b hb).1
    rw [z, hP] at q
    cases q
  have rest : ∀ (code : Value) (h3 : Heap) (tk : Nat) (ps' : Array Value), Heap.ExtBut P s2.heap h3 → h3.get? P = some { cls := .none, data := .fields ps' } → (∃ more, ps' = ps ++ more) → TriplesOk ps'.toList →
      wpAny (model X.prog X.w) X.A (builtinsFor X.env.globals X.env.builtins) (fun bi s4 =>
        ∀ h', h'.Ns s4.heap.objs.size (fun y => if y = ".0" then some (.ref it) else none) → Heap.SameBut s4.heap.objs.size (s4.heap.push { cls := .type "frame", data := .dict #[] }) h' →
          (MadeP X pins σ scope elt tg iter ifs gpos (own.map (·.2)) g tt te R) (.ref h'.objs.size) { s4 with
            gens := s4.gens.push (.fresh (.compStart (.GeneratorExp elt [⟨tg, iter, ifs, 0⟩] scope gpos) 0 (.ref it) .none (genEnv scope (cloFrom X.env.cells scope.names []) s4.heap.objs.size code bi X.env))),
            toks := s4.toks + 1 + 1 + 1,
            heap := h'.push { cls := .type "generator", data := .fields #[.int s4.gens.size 0, .str "<genexpr>" (s4.toks + 1), .str (X.env.qual ++ "<genexpr>") (s4.toks + 1 + 1)] } }) X.xe { s2 with heap := h3, toks := tk } := by
    intro code h3 tk ps' hx hP3 hmore htr3
    obtain ⟨bm, ob, b1, b2, b3, b4, b5, b6, b7, b8⟩ := TB.bm
    refine wpAny_builtinsFor (m := X.mg) ?_ b1 b2 (hx _ _ b4 (I2.bk _ _ b5)) b6 b7 b8 ?_
    · rw [I2.ok.glob]
      exact (I2.mod.glob.keeps I2.bk).extBut hx TB.gP
    obtain ⟨more, rfl⟩ := hmore
    have I3 : Inv X pins σ (upd H1 P (.tbl (ps ++ more))) { s2 with heap := h3, toks := tk } := GxR.inv_tab (more := more) (h' := h3) (g' := s2.gens) (d' := s2.drawn) (t' := tk) I2 hP hx hP3 I2.bare
    have tab : GxR.Tabbed P H1 (upd H1 P (.tbl (ps ++ more))) := ⟨⟨_, upd_same, htr3⟩, fun b hb => upd_ne hb⟩
    have rd := q _ tab
    have t3 : tn 0 h3 := T.keep _ _ _ t2 fun b hb o e => hx b o (nP b hb) e
    have f3 : ∀ b ∈ fp, FpOk X pins (upd H1 P (.tbl (ps ++ more))) b ∧ b < h3.objs.size := fun b hb => by
      refine ⟨⟨?_, (f2 b hb).2⟩, ?_⟩
      · rw [upd_ne (nP b hb)]
        exact (f2 b hb).1
      · obtain ⟨o, e, _⟩ := T.obj _ _ t3 b hb
        exact Heap.lt_size e
    generalize upd H1 P (.tbl (ps ++ more)) = H3 at I3 rd f3
    intro h' hn' hs'
    generalize hs4 : ({ s2 with heap := h3, toks := tk } : Shared) = s4 at I3 hn' hs' ⊢
    have e4 : s4.heap = h3 := by rw [← hs4]
    rw [← e4] at t3 f3
    have hsz : h'.objs.size = s4.heap.objs.size + 1 := by rw [hs'.1, Heap.size_push]
    have hk : ∀ b o, s4.heap.get? b = some o → h'.get? b = some o := fun b o e => by
      rw [hs'.2 b (Nat.ne_of_lt (Heap.lt_size e))]
      exact Heap.get?_push_of_some _ e
    generalize hgo : ({ cls := .type "generator", data := .fields #[.int s4.gens.size 0, .str "<genexpr>" (s4.toks + 1), .str (X.env.qual ++ "<genexpr>") (s4.toks + 1 + 1)] } : Obj) = go
    have isg : ∀ hh : Heap, hh.get? h'.objs.size = some go → hh.IsGen h'.objs.size s4.gens.size := fun hh e => ⟨go, _, _, e, by rw [← hgo], by rw [← hgo], by rw [← hgo]⟩
    have hga : (h'.push go).get? h'.objs.size = some go := Heap.get?_push_size _ (by rw [← hgo]; rfl)
    have bare : AllBare (s4.gens.push (.fresh (.compStart (.GeneratorExp elt [⟨tg, iter, ifs, 0⟩] scope gpos) 0 (.ref it) .none (genEnv scope (cloFrom X.env.cells scope.names []) s4.heap.objs.size code builtinsNs X.env)))) := I3.bare.push rfl
    have kp5 : ∀ b o, s4.heap.get? b = some o → (h'.push go).get? b = some o := fun b o e => Heap.get?_push_of_some _ (hk b o e)
    have rmA : ∀ A, Near X A → Room k (A.deeper (genEnv scope (cloFrom X.env.cells scope.names []) s4.heap.objs.size code builtinsNs X.env)) := fun A N => by
      refine ⟨N.hd, ?_, ?_⟩
      · have := hr.dp
        have := N.dp
        show A.depth + 1 + 3 * k + 5 < _
        omega
      · have := hr.un
        have := N.un
        show A.units + 3 + 16 * k + 200 < _
        omega
    refine ⟨h'.objs.size, it, fp, tn, J, genEnv scope (cloFrom X.env.cells scope.names []) s4.heap.objs.size code builtinsNs X.env, s4, H3, go, s4.gens.size, rfl, ?_⟩
    have hs5 : (h'.push go).objs.size = h'.objs.size + 1 := Heap.size_push ..
    refine { gen := isg, isg := isg _ hga, lim := I3.nolimit.keeps kp5, gs := Array.getElem?_push_size .., T := T, t0 := T.keep _ _ _ t3 fun b _ o e => kp5 b o e, f0 := fun b hb => (f3 b hb).1.1, out := fun b hb => (f3 b hb).2, az := ?_, al := ?_, old := ?_, hco := S.co, loc := rfl, cel := ?_, stk := ?_, inv := ?_, pg := fun A N => hg _ s4 H3 s4.heap.objs.size code fp (rmA A N), pt := fun A N => ht _ s4 H3 s4.heap.objs.size code fp (rmA A N), pe := fun A N => he _ s4 H3 s4.heap.objs.size code fp (rmA A N), back := ?_, fresh := ?_, read := rd }
    · show s4.heap.objs.size < h'.objs.size
      omega
    · show h'.objs.size < (h'.push go).objs.size
      omega
    · show s4.heap.objs.size ≤ (h'.push go).objs.size
      omega
    · intro x c e
      have e : (cloFrom X.env.cells scope.names []).lookup x = some c := e
      rcases cloFrom_mem (PySem.mem_of_lookup e) with z | ⟨z, q⟩
      · cases z
      · obtain ⟨d, hd⟩ := hfree _ z rfl
        rw [hd] at q
        have q : c = d := q
        subst q
        obtain ⟨v, hv⟩ := I3.cell _ _ hd
        exact hv.lt
    · intro b hb
      rcases List.mem_cons.mp (I3.stkSub b hb) with z | z
      · rw [z]; exact I3.lt
      · obtain ⟨_, o, ho, _⟩ := I3.ok.funs.mem z
        exact Nat.lt_of_lt_of_le (Heap.lt_size ho) I3.sz
    · intro A N
      exact gen_start (code := code) (go := go) (tk := s4.toks + 1 + 1 + 1) I3 S.blk hN S.cell f3 N.hd (by show A.frames.map _ = _; rw [N.fr, I3.ok.frames]; rfl) hn' hk (fun v z => by rw [← hgo] at z; cases z) hga hsz bare
    · intro A pn σ' H' s' I'
      exact I3.call' (ch := fp) I'.os I'.base I'.hok I'.bare fun b hb => ⟨(f3 b hb).1.2.2.2.1, (f3 b hb).1.2.1, (f3 b hb).1.2.2.2.2.1, (f3 b hb).1.2.2.2.2.2⟩
    · show s4.heap.objs.size ≤ (h'.push go).objs.size
      omega
  cases hf : codeAmong gpos ps.toList with
  | none =>
    refine wpAny_genexprCodeX hcode (cd.code oP htr) (cd.tab oP) hf fun c' h' tk hx hge hlt hco' _ htab' _ => ?_
    obtain ⟨o1, v1, f1, tf, fl, t1, inF, tx, t0, op, _, _, _, _, _, _, _, _, _, htr', _⟩ := hco'
    exact rest _ h' tk _ hx htab'.2 ⟨_, rfl⟩ htr'
  | some cv =>
    refine wpAny_genexprCode_hit hcode (cd.code oP htr) hf ?_
    exact rest cv s2.heap s2.toks ps (Heap.ExtBut.refl _ _) oP ⟨#[], by simp⟩ htr
/-! ### all that is handed out is put into the list at S -/
def lo (acc : Array Value) (c : Nat) : Obj := { cls := .type "list", dict := none, data := .seq acc c, slots := #[] }
def GRt (Y : Cx) (pn : List (Addr × Obj)) (S : Addr) (Qt : List V → Hp → Prop) : GenEnd := fun _ _ r s1 =>
  ((r = .ok (.ret .none) ∨ r = .ok .next) ∧ ∃ σ' H' ys acc c, Inv Y (pn ++ [(S, lo acc c)]) σ' H' s1 ∧ Vals ys acc.toList ∧ Qt ys H') ∨ ∃ e, r = .error e ∧ (fun (_ : Value) (_ : Shared) => False) e s1
def GYt (Y : Cx) (pn : List (Addr × Obj)) (S : Addr) : Protocol := fun _ _ v s1 kap =>
  ∃ σ' H' acc c, Inv Y (pn ++ [(S, lo acc c)]) σ' H' s1 ∧ acc.size < sizeLine ∧
    ∀ (s2 : Shared) (c2 : Nat), (∀ b o, b ≠ S → s1.heap.get? b = some o → s2.heap.get? b = some o) → s2.heap.get? S = some (lo (acc.push v) c2) → s2.os = s1.os → AllBare s2.gens → kap (.send .none) s2
/-- one turn's reading; ys: what was handed out so far -/
def StepT (J : It) (g : TG) (tt : TT) (te : TE) (vs : List Nat) (σ : L2.St) (Qt : List V → Hp → Prop) (W : Nat → Nat → List V → Hp → Prop) (i m : Nat) (ys : List V) (H : Hp) : Prop :=
  (J.stop i H ∧ Qt ys H) ∨ (J.go i H ∧ ∃ Nx : List V → Hp → Prop, (∀ zs H', Nx zs H' → ∃ m', m' < m ∧ W (i + 1) m' zs H') ∧ ∀ x H', J.yld i H x H' → g x (wipe σ vs) H' fun σ2 H2 => wipe σ2 vs = wipe σ vs ∧ tt σ2 H2 fun b H3 =>
    if b = true then te σ2 H3 fun y H4 => ys.length < sizeLine ∧ Nx (ys ++ [y]) H4 else Nx ys H3)
theorem seg_turnsT {A0 : Around} {s3 : Shared} {H3 : Hp} {scope : Scope} {cenv : Env} {fp : List Addr} {pn : List (Addr × Obj)} {it S : Addr} {J : It} {tn : Nat → Heap → Prop} {elt tg iter : Expr} {ifs : List Expr} {pos : Pos} {vs : List Nat}
    {g : TG} {tt : TT} {te : TE} {Qt : List V → Hp → Prop} {W : Nat → Nat → List V → Hp → Prop} (hc : X.calm = true) (hco : cenv.scope.isCoroutine = false) (hpn : ∀ p ∈ pn, p.1 ∉ fp) (hS : S ∉ fp) (hS1 : s3.heap.objs.size ≤ S) (hS2 : S ≠ cenv.locals) (hS3 : ∀ x c, cenv.cells.lookup x = some c → c ≠ S)
    (hS4 : ∀ p ∈ pn, p.1 ≠ S) (hS5 : S ∉ frs X.stack)
    (T : Turn X.prog X.w X.K tg J fp it tn) (pg : PG (gctx X (A0.deeper cenv) s3 H3 scope cenv fp) tg g) (pt : PTs (gctx X (A0.deeper cenv) s3 H3 scope cenv fp) ifs tt) (pe : PE (gctx X (A0.deeper cenv) s3 H3 scope cenv fp) elt te)
    (turn : ∀ i m ys H', W i m ys H' → StepT J g tt te vs σ Qt W i m ys H') :
    ∀ (m n : Nat), m < n → ∀ (i : Nat) (s0 s1 : Shared) (H' : Hp) (ys : List V) (acc : Array Value) (c : Nat), Inv (gctx X (A0.deeper cenv) s3 H3 scope cenv fp) (pn ++ [(S, lo acc c)]) (wipe σ vs) H' s1 → Vals ys acc.toList → tn i s1.heap → (∀ b ∈ fp, H' b = none) → W i m ys H' →
      Seg (model X.prog X.w) A0 (GRt (gctx X (A0.deeper cenv) s3 H3 scope cenv fp) pn S Qt) (GYt (gctx X (A0.deeper cenv) s3 H3 scope cenv fp) pn S) n s0
        (.compLoop (.GeneratorExp elt [⟨tg, iter, ifs, 0⟩] scope pos) 0 (.ref it) .none cenv) ((model X.prog X.w).den (.compLoop (.GeneratorExp elt [⟨tg, iter, ifs, 0⟩] scope pos) 0 (.ref it) .none cenv)) [] s1 := by
  intro m
  induction m using Nat.strongRecOn with
  | ind m ih =>
    intro n hmn i s0 s1 H1 ys acc c I1 v1 t1 f1 w1
    have hpl : ∀ p ∈ pn ++ [(S, lo acc c)], p.1 ∉ fp := fun p hp => by
      rcases List.mem_append.mp hp with z | z
      · exact hpn p z
      · rw [List.mem_singleton.mp z]; exact hS
    have own : ∀ {pl : List (Addr × Obj)} {σ' : L2.St} {H' : Hp} {s' : Shared}, (∀ p ∈ pl, p.1 ∉ fp) → Inv (gctx X (A0.deeper cenv) s3 H3 scope cenv fp) pl σ' H' s' → (∀ b ∈ fp, H' b = none) → ∀ b ∈ fp, FpOk (gctx X (A0.deeper cenv) s3 H3 scope cenv fp) pl H' b :=
      fun {pl σ' H' s'} hpl I' hn b hb => ⟨hn b hb, (I'.ok.exf b hb).1, I'.ok.exfs b hb, .inl hb, fun x c e => (I'.ok.exf b hb).2 x c e, fun p hp z => hpl p (by simpa using hp) (by rw [z]; exact hb)⟩
    show Seg _ A0 _ _ _ s0 _ ((compTurn (.GeneratorExp elt [⟨tg, iter, ifs, 0⟩] scope pos) 0 (.ref it) .none cenv).onRaise (leaving cenv)) [] s1
    rw [compTurn_gen]
    rw [Sem.onRaise_eq_wrap]
    refine seg_bind_wrap (wpAny_standAt ?_)
    rcases turn i m ys H1 w1 with ⟨stop, qt⟩ | ⟨go, Nx, hNx, step⟩
    · refine seg_bind_wrap (wpF (T.done (gctx X (A0.deeper cenv) s3 H3 scope cenv fp) rfl rfl rfl hc i _ s1 _ H1 (fun _ _ => False) I1 (own hpl I1 f1) t1 stop) fun r s2 ⟨hr, I2⟩ => ?_)
      subst hr
      exact seg_end (.ok .next) (.inl ⟨.inr rfl, _, H1, ys, acc, c, I2, v1, qt⟩)
    · refine seg_bind_wrap (wpF (T.item (gctx X (A0.deeper cenv) s3 H3 scope cenv fp) rfl rfl rfl hc i _ s1 _ H1 (fun _ _ => False) I1 (own hpl I1 f1) t1 go) fun r s2 ⟨u, hr, h2⟩ => ?_)
      subst hr
      refine seg_bind_wrap (wpF h2 fun _ s4 ⟨x, H4, I4, r4, y4, t4, f4⟩ => ?_)
      have P4 := I4.pinned (own hpl I4 f4) (T.obj _ _ t4)
      refine seg_bind_wrap (wpF (pg.run _ s4 _ H4 x u _ P4 r4 (step x H4 y4)) fun _ s5 ⟨σ5, H5, I5, w5, q5⟩ => ?_)
      refine seg_bind_wrap (wpF (pt.run _ s5 σ5 H5 _ I5 q5) fun b s6 ⟨H6, I6, q6⟩ => ?_)
      have back : ∀ {s' : Shared} {H' : Hp}, Inv (gctx X (A0.deeper cenv) s3 H3 scope cenv fp) ((pn ++ [(S, lo acc c)]) ++ pinsAt fp s4.heap) σ5 H' s' →
          Inv (gctx X (A0.deeper cenv) s3 H3 scope cenv fp) (pn ++ [(S, lo acc c)]) (wipe σ vs) H' s' ∧ tn (i + 1) s'.heap ∧ ∀ b ∈ fp, H' b = none := fun {s' H'} I' => by
        have at' : ∀ b ∈ fp, ∀ o, s4.heap.get? b = some o → s'.heap.get? b = some o ∧ H' b = none := fun b hb o e =>
          let z := I'.pin (b, o) (List.mem_append_right _ (List.mem_append_right _ (mem_pinsAt hb e)))
          ⟨z.1, z.2.1⟩
        refine ⟨I'.unpinned.weak (by rw [← w5, wipe_length]) fun j v e => ?_, T.keep _ _ _ t4 fun b hb o e => (at' b hb o e).1, fun b hb => ?_⟩
        · rw [← w5] at e
          exact (wipe_some e).1
        · obtain ⟨o, e, _⟩ := T.obj _ _ t4 b hb
          exact (at' b hb o e).2
      cases b with
      | false =>
        have q6 : Nx ys H6 := by simpa using q6
        obtain ⟨m', hm, w'⟩ := hNx ys H6 q6
        obtain ⟨I7, t7, f7⟩ := back I6
        simp only [Bool.false_eq_true, if_false]
        exact seg_again rfl (ih m' hm n (by omega) (i + 1) s0 s6 H6 ys acc c I7 v1 t7 f7 w')
      | true =>
        rw [if_pos rfl] at q6
        simp only [if_true]
        have hy : ∀ v, yieldOut cenv v = yieldValue v := fun v => by
          unfold yieldOut
          simp [hco]
        simp only [hy]
        rw [Sem.bind_eq_wrap', Sem.bind_eq_wrap']
        rw [Sem.wrap_wrap, Sem.wrap_wrap]
        refine seg_wrap (wpF (pe.run _ s6 σ5 H6 _ I6 q6) fun v s7 ⟨yv, H7, I7, r7, hlt, qn⟩ => ?_)
        obtain ⟨I8, t8, f8⟩ := back I7
        obtain ⟨n, rfl⟩ : ∃ k, n = k + 1 := ⟨n - 1, by omega⟩
        have hsz : acc.size < sizeLine := by
          have e1 : ys.length = acc.toList.length := v1.length
          rw [← Array.length_toList, ← e1]
          exact hlt
        refine seg_at (seg_yield rfl rfl rfl ⟨_, H7, acc, c, I8, hsz, fun s9 c2 hk hS9 ho hb => ?_⟩)
        obtain ⟨m', hm, w'⟩ := hNx _ H7 qn
        have pS := I8.pin (S, lo acc c) (List.mem_append_right _ (List.mem_append_right _ (List.mem_singleton.mpr rfl)))
        have I9 : Inv (gctx X (A0.deeper cenv) s3 H3 scope cenv fp) pn (wipe σ vs) H7 s7 := I8.unpinned
        have I10 : Inv (gctx X (A0.deeper cenv) s3 H3 scope cenv fp) pn (wipe σ vs) H7 { s7 with heap := s9.heap, toks := s9.toks } :=
          I9.turned (t' := s9.toks) (it := S) hk pS.2.1 hS2 (.inr hS1) hS3 fun p hp => hS4 p (by simpa using hp)
        have I11 : Inv (gctx X (A0.deeper cenv) s3 H3 scope cenv fp) (pn ++ [(S, lo (acc.push v) c2)]) (wipe σ vs) H7 s9 := by
          refine (inv_heap (s' := s9) I10 rfl ho hb).pins_of fun p hp => ?_
          rcases List.mem_append.mp hp with z | z
          · exact (inv_heap (s' := s9) I10 rfl ho hb).pin p (List.mem_append_right _ z)
          · rw [List.mem_singleton.mp z]
            exact ⟨hS9, pS.2.1, hS2, hS5, fun v z => by cases z⟩
        refine seg_again rfl (ih m' hm n (by omega) (i + 1) s9 s9 H7 _ (acc.push v) c2 I11 ?_ (T.keep _ _ _ t8 fun b hb' o e => hk b o (fun z => hS (by rw [← z]; exact hb')) e) f8 w')
        rw [Array.toList_push]
        exact v1.append (.cons r7 .nil)
/-- list.extend walks the generator -/
theorem extend_walk {Y : Cx} {pn : List (Addr × Obj)} {Qt : List V → Hp → Prop} {A : Around} {R : Result → Shared → Prop} {a S : Addr} {go : Obj} {g : Nat} {res : Value} (hh : A.handled = none) (hd : A.depth < recursionLimit)
    (hpa : (a, go) ∈ pn) (hgen : ∀ h : Heap, h.get? a = some go → h.IsGen a g) (hSa : S ≠ a)
    (eT : ∀ σ' H' s' ys acc c, Inv Y (pn ++ [(S, lo acc c)]) σ' H' s' → Vals ys acc.toList → Qt ys H' → R (.ok (.ret res)) s') :
    ∀ (n : Nat) (s1 : Shared) (gs : GenState), s1.heap.IsGen a g → s1.heap.NoLimit → s1.gens[g]? = some gs →
      gs.Goes (model Y.prog Y.w) A.in1.in1 (GRt Y pn S Qt) (GYt Y pn S) n (.send .none) (s1.setGen g .running) → codeAny (model Y.prog Y.w) A (.builtin "list.extend.loop" ⟨[.ref S, .ref a, res], []⟩) R s1 := by
  have fin : ∀ {s2 : Shared} {h' : Heap}, (∃ σ' H' ys acc c, Inv Y (pn ++ [(S, lo acc c)]) σ' H' s2 ∧ Vals ys acc.toList ∧ Qt ys H') → (∀ b o, s2.heap.get? b = some o → h'.get? b = some o) → R (.ok (.ret res)) { s2.setGen g .finished with heap := h' } := fun {s2 h'} hp hk => by
    obtain ⟨σ', H', ys, acc, c, I2, v2, q⟩ := hp
    have I3 : Inv Y (pn ++ [(S, lo acc c)]) σ' H' (s2.setGen g .finished) := inv_heap I2 rfl rfl (allBare_setGen I2.bare rfl)
    exact eT σ' H' _ ys acc c (I3.kept (t' := s2.toks) hk) v2 q
  intro n
  induction n with
  | zero =>
    intro s1 gs isg lim hgs goes
    refine codeAny_builtin F.entry_extend_loop ?_
    rw [Around.under_plainId F.plain_extend_loop _]
    show wpAny _ A.in1 (pyNext (.ref a) >>= _) _ _ s1
    refine wpAny_bind (next_genG (A := A.in1) hh lim hd isg hgs goes (fun v s2 gs' hb hv => ?_) (fun s2 hp h' hk => ?_) fun e s2 he => he.elim)
    · obtain ⟨σ', H', acc, c, I2, hz, q2⟩ := hv
      have pS := I2.pin (S, lo acc c) (List.mem_append_right _ (List.mem_append_right _ (List.mem_singleton.mpr rfl)))
      have e0 : s2.heap.get? S = some (lo acc c) := pS.1
      have hS3 := Heap.get?_update_self (Obj.mapSeq (·.push v)) e0 rfl
      exact (q2 { s2 with heap := s2.heap.update S (Obj.mapSeq (·.push v)) } _ (fun b o hbS e => (Heap.get?_update_other _ _ (Ne.symm hbS)).trans e) hS3 rfl I2.bare).elim
    · exact wpAny_pure (fin hp hk)
  | succ n ih =>
    intro s1 gs isg lim hgs goes
    have hgl : g < s1.gens.size := (Array.getElem?_eq_some_iff.mp hgs).1
    refine codeAny_builtin F.entry_extend_loop ?_
    rw [Around.under_plainId F.plain_extend_loop _]
    show wpAny _ A.in1 (pyNext (.ref a) >>= _) _ _ s1
    refine wpAny_bind (wpAny_gsz (n := g + 1) hgl (next_genG (A := A.in1) hh lim hd isg hgs goes (fun v s2 gs' hb hv => ?_) (fun s2 hp h' hk => ?_) fun e s2 he => he.elim))
    · intro hsz
      obtain ⟨σ', H', acc, c, I2, hz, q2⟩ := hv
      have pS := I2.pin (S, lo acc c) (List.mem_append_right _ (List.mem_append_right _ (List.mem_singleton.mpr rfl)))
      have e0 : s2.heap.get? S = some (lo acc c) := pS.1
      show wpAny _ A.in1 (updateSeq S (·.push v) >>= _) _ _ _
      refine wpAny_bind (wpAny_updateSeq (s := s2.setGen g gs') e0 rfl (wpAny_pure ⟨plainId_quiet F.plain_extend_loop _, ?_⟩) (Nat.le_of_lt hz) (by show (acc.push v).size ≤ sizeLine + 1; rw [Array.size_push]; omega))
      have hS3 := Heap.get?_update_self (Obj.mapSeq (·.push v)) e0 rfl
      have k3 : ∀ b o, b ≠ S → s2.heap.get? b = some o → (s2.heap.update S (Obj.mapSeq (·.push v))).get? b = some o := fun b o hbS e => (Heap.get?_update_other _ _ (Ne.symm hbS)).trans e
      have hg2 : g < s2.gens.size := by
        have z : (s2.setGen g gs').gens.size = s2.gens.size := setGen_size _ _ _
        have hsz : g + 1 ≤ (s2.setGen g gs').gens.size := hsz
        omega
      have ha2 := (I2.pin (a, go) (List.mem_append_right _ (List.mem_append_left _ hpa))).1
      have lim2 := I2.nolimit
      refine ih { s2.setGen g gs' with heap := s2.heap.update S (Obj.mapSeq (·.push v)) } gs' (hgen _ (k3 a go (Ne.symm hSa) ha2)) ?_ (setGen_at hg2) ?_
      · obtain ⟨mc, hns, hnn⟩ := lim2
        refine ⟨mc, hns.at' fun o e => k3 _ o (fun z => ?_) e, hnn⟩
        obtain ⟨oo, es, ep, ho, hdd, _⟩ := hns
        rw [z, e0] at ho
        cases ho
        cases hdd
      · exact q2 _ _ k3 hS3 rfl (allBare_setGen (s := s2.setGen g gs') (allBare_setGen I2.bare hb) rfl)
    · intro _
      exact wpAny_pure (fin hp hk)
/-- what the reading of tuple(..) asks of the walk -/
def RT (g : TG) (tt : TT) (te : TE) (vs : List Nat) (σ : L2.St) (Qt : List V → Hp → Prop) : It → Hp → Prop := fun J H2 =>
  ∃ W : Nat → Nat → List V → Hp → Prop, (∃ m, W 0 m [] H2) ∧ ∀ i m ys H', W i m ys H' → StepT J g tt te vs σ Qt W i m ys H'
theorem collect_made {scope : Scope} {elt tg iter : Expr} {ifs : List Expr} {gpos : Pos} {vs : List Nat} {g : TG} {tt : TT} {te : TE} {Qt : List V → Hp → Prop} {a it : Addr} {s5 s4 : Shared} {fp : List Addr} {tn : Nat → Heap → Prop} {J : It} {cenv : Env} {H3 : Hp} {go : Obj} {gi : Nat} {A : Around} {E : Value → Shared → Prop} {Q : List Value → Shared → Prop}
    (hc : X.calm = true) (Pt : Parts X pins σ scope elt tg iter ifs gpos vs g tt te (RT g tt te vs σ Qt) a s5 it fp tn J cenv s4 H3 go gi) (N : Near X A.in1.in1) (hd : A.depth < recursionLimit) (bare : AllBare s5.gens)
    (hQ : ∀ pn σ' H' s' ys acc, Inv (gctx X (A.in1.in1.deeper cenv) s4 H3 scope cenv fp) pn σ' H' s' → Vals ys acc → Qt ys H' → Q acc s') : wpAny (model X.prog X.w) A (collect (.ref a)) Q E s5 := by
  have hSa : s5.heap.objs.size ≠ a := Nat.ne_of_gt Pt.al
  obtain ⟨W, ⟨m0, w0⟩, turn⟩ := Pt.read
  unfold collect
  refine wpAny_bind (wpAny_runValue (codeAny_builtin F.entry_proto_collect ?_))
  rw [Around.under_plainId F.plain_proto_collect _]
  show wpAny _ A.in1 (newList [] >>= fun l => again (.builtin "list.__iadd__" ⟨[l, .ref a], []⟩)) _ _ s5
  refine wpAny_bind (wpAny_newObj_type ?_)
  refine wpAny_pure ⟨plainId_quiet F.plain_list_iadd _, codeAny_builtin F.entry_list_iadd ?_⟩
  rw [Around.under_plainId F.plain_list_iadd _]
  have k1 : ∀ b o, s5.heap.get? b = some o → (s5.heap.push { cls := .type "list", data := .seq ([] : List Value).toArray }).get? b = some o := fun b o e => Heap.get?_push_of_some _ e
  have hS1 : (s5.heap.push { cls := .type "list", data := .seq ([] : List Value).toArray }).get? s5.heap.objs.size = some { cls := .type "list", data := .seq ([] : List Value).toArray } := Heap.get?_push_size _ rfl
  have gty : ({ s5 with heap := s5.heap.push { cls := .type "list", data := .seq ([] : List Value).toArray } } : Shared).TypeIs (.ref a) "generator" := Heap.IsGen.typeIs (s := { s5 with heap := s5.heap.push { cls := .type "list", data := .seq ([] : List Value).toArray } }) (Pt.isg.keeps k1)
  show wpAny _ A.in1 (Builtin.List.listExtendWith (.ref s5.heap.objs.size) (.ref a) (.ref s5.heap.objs.size)) _ _ _
  unfold Builtin.List.listExtendWith
  refine wpAny_bind (wpAny_typeOf gty ?_)
  have h1 : Builtin.List.listSameRef (.ref s5.heap.objs.size) (.ref a) = false := by simp [Builtin.List.listSameRef, hSa]
  rw [if_neg (by rw [h1]; decide)]
  refine wpAny_bind (wpAny_pyIter_gen (s := { s5 with heap := s5.heap.push { cls := .type "list", data := .seq ([] : List Value).toArray } }) (Pt.isg.keeps k1) ?_)
  refine wpAny_bind (wpAny_holding ?_)
  unfold Builtin.List.listLengthHint
  refine wpAny_bind (wpAny_specialOf gty F.gen_no_len ?_)
  show wpAny _ A.in1 (specialOf (Value.ref a) (Str.ofString "__length_hint__") >>= _) _ _ _
  refine wpAny_bind (wpAny_specialOf gty F.gen_no_hint (wpAny_pure ?_))
  show wpAny _ A.in1 (rule "list.extend.makes-room" >>= fun _ => Builtin.List.listTouch (.ref s5.heap.objs.size) >>= fun _ => again (.builtin "list.extend.loop" ⟨[.ref s5.heap.objs.size, .ref a, .ref s5.heap.objs.size], []⟩)) _ _ _
  refine wpAny_bind (wpAny_rule (wpAny_bind ?_))
  show wpAny _ A.in1 (updateSeq s5.heap.objs.size (·.push .none) >>= fun _ => updateSeq s5.heap.objs.size (·.pop)) _ _ _
  refine wpAny_bind (wpAny_updateSeq hS1 rfl ?_)
  have hS2 := Heap.get?_update_self (Obj.mapSeq (·.push Value.none)) hS1 rfl
  refine wpAny_updateSeq hS2 rfl ?_
  have hS3 := Heap.get?_update_self (Obj.mapSeq (·.pop)) hS2 rfl
  have k3 : ∀ b o, s5.heap.get? b = some o → (((s5.heap.push { cls := .type "list", data := .seq ([] : List Value).toArray }).update s5.heap.objs.size (Obj.mapSeq (·.push Value.none))).update s5.heap.objs.size (Obj.mapSeq (·.pop))).get? b = some o := fun b o e =>
    have ne : s5.heap.objs.size ≠ b := Nat.ne_of_gt (Heap.lt_size e)
    (Heap.get?_update_other _ _ ne).trans ((Heap.get?_update_other _ _ ne).trans (k1 b o e))
  refine wpAny_pure ⟨plainId_quiet F.plain_extend_loop _, ?_⟩
  generalize ((s5.heap.push { cls := .type "list", data := .seq ([] : List Value).toArray }).update s5.heap.objs.size (Obj.mapSeq (·.push Value.none))).update s5.heap.objs.size (Obj.mapSeq (·.pop)) = h6 at hS3 k3 ⊢
  have hS6 : ∃ c, h6.get? s5.heap.objs.size = some (lo #[] c) := ⟨_, hS3⟩
  obtain ⟨c6, hS6⟩ := hS6
  have I5 := Pt.inv A.in1.in1 N
  have zS : s4.heap.objs.size ≤ s5.heap.objs.size := Pt.old
  have I6 : ∀ g' : Array GenState, AllBare g' → Inv (gctx X (A.in1.in1.deeper cenv) s4 H3 scope cenv fp) ([(a, go)] ++ [(s5.heap.objs.size, lo #[] c6)]) (wipe σ vs) H3 { s5 with heap := h6, gens := g' } := fun g' hg' => by
    have I7 : Inv (gctx X (A.in1.in1.deeper cenv) s4 H3 scope cenv fp) [(a, go)] (wipe σ vs) H3 { s5 with heap := h6, gens := g' } := inv_heap (I5.kept (t' := s5.toks) k3) rfl rfl hg'
    refine I7.pins_of fun p hp => ?_
    rcases List.mem_append.mp hp with z | z
    · exact I7.pin p (List.mem_append_right _ z)
    · rw [List.mem_singleton.mp z]
      refine ⟨hS6, I5.hok.fresh (Nat.le_refl _), ?_, fun z => ?_, fun v z => by cases z⟩
      · show s5.heap.objs.size ≠ cenv.locals
        rw [Pt.loc]
        have := Pt.az
        have := Pt.al
        exact Nat.ne_of_gt (Nat.lt_trans Pt.az Pt.al)
      · exact absurd (Pt.stk _ z) (Nat.not_lt.mpr zS)
  refine extend_walk (A := A) (Y := gctx X (A.in1.in1.deeper cenv) s4 H3 scope cenv fp) (pn := [(a, go)]) (Qt := Qt) (go := go) (g := gi) N.hd hd (List.mem_singleton.mpr rfl) Pt.gen hSa (fun σ' H' s' ys acc c I' v' q => ?_) (m0 + 1) { s5 with heap := h6 } _ (Pt.isg.keeps k3) (Pt.lim.keeps k3) Pt.gs ⟨rfl, ?_⟩
  · show wpAny _ A (load s5.heap.objs.size >>= _) _ _ s'
    have pS := (I'.pin (s5.heap.objs.size, lo acc c) (List.mem_append_right _ (List.mem_append_right _ (List.mem_singleton.mpr rfl)))).1
    refine wpAny_bind (wpAny_load pS ?_)
    exact wpAny_pure (hQ _ σ' H' s' ys acc.toList I' v' q)
  · have t6 : tn 0 h6 := Pt.T.keep _ _ _ Pt.t0 fun b _ o e => k3 b o e
    refine seg_first (fun A Q E hq => Pt.T.self A 0 _ Q E t6 hq) ?_
    refine seg_turnsT (S := s5.heap.objs.size) hc Pt.hco (fun p hp z => ?_) (fun z => ?_) zS ?_ (fun x c e z => ?_) (fun p hp => ?_) (fun z => ?_) Pt.T (Pt.pg _ N) (Pt.pt _ N) (Pt.pe _ N) turn m0 (m0 + 1) (Nat.lt_succ_self _) 0 _ _ H3 [] #[] c6 (I6 _ (allBare_setGen (s := { s5 with heap := h6 }) bare rfl)) .nil t6 Pt.f0 w0
    · rw [List.mem_singleton.mp hp] at z
      exact absurd (Pt.out _ z) (Nat.not_lt.mpr (Nat.le_of_lt Pt.az))
    · exact absurd (Pt.out _ z) (Nat.not_lt.mpr zS)
    · rw [Pt.loc]
      exact Nat.ne_of_gt (Nat.lt_trans Pt.az Pt.al)
    · have := Pt.cel x c e
      rw [z] at this
      exact absurd this (Nat.not_lt.mpr zS)
    · rw [List.mem_singleton.mp hp]
      exact Ne.symm hSa
    · exact absurd (Pt.stk _ z) (Nat.not_lt.mpr zS)
theorem code_tuple_made {scope : Scope} {elt tg iter : Expr} {ifs : List Expr} {gpos : Pos} {vs : List Nat} {g : TG} {tt : TT} {te : TE} {Qt : List V → Hp → Prop} {a it : Addr} {s5 s4 : Shared} {fp : List Addr} {tn : Nat → Heap → Prop} {J : It} {cenv : Env} {H3 : Hp} {go : Obj} {gi : Nat} {A : Around} {E : Value → Shared → Prop} {Q1 : Value → Shared → Prop}
    (hc : X.calm = true) (Pt : Parts X pins σ scope elt tg iter ifs gpos vs g tt te (RT g tt te vs σ Qt) a s5 it fp tn J cenv s4 H3 go gi) (N : Near X A.in1.in1.in1) (hd : A.depth < recursionLimit) (bare : AllBare s5.gens)
    (hQ : ∀ pn σ' H' s' ys acc, Inv (gctx X (A.in1.in1.in1.deeper cenv) s4 H3 scope cenv fp) pn σ' H' s' → Vals ys acc → Qt ys H' → acc.toArray.size ≤ sizeLine ∧ Q1 (.ref s'.heap.objs.size) { s' with heap := s'.heap.push { cls := .type "tuple", data := .seq acc.toArray } }) :
    codeAny (model X.prog X.w) A (.call (.builtin "tuple.__new__") ⟨[.type "tuple", .ref a], []⟩) (wants Q1 E) s5 := by
  refine codeAny_of_tree ?_
  show wpAny _ A.in1 (do checkBuiltinCall "tuple.__new__" ⟨[.type "tuple", .ref a], []⟩; again (.builtin "tuple.__new__" ⟨[.type "tuple", .ref a], []⟩)) _ _ s5
  refine wpAny_bind (wpAny_of_eq (F.newCall_tuple_1 _) (wpAny_pure ⟨plainId_quiet F.plain_tuple_new _, codeAny_builtin F.entry_tuple_new ?_⟩))
  rw [Around.under_plainId F.plain_tuple_new _]
  have hsub := sub_tuple_self
  have hinit := init_tuple_lookup
  have hmh := madeHere_tuple
  have hTI : s5.TypeIs (.ref a) "generator" := Pt.isg.typeIs
  wp_walk using wpAny_typeOf hTI, collect_made (A := A.in1) hc Pt N hd bare
  intro pn σ' H' s' ys acc I' v' q
  obtain ⟨hz, h1⟩ := hQ pn σ' H' s' ys acc I' v' q
  show wpAny _ _ (Builtin.Tuple.tupleExact acc.toArray >>= fun v => ret v) _ _ _
  unfold Builtin.Tuple.tupleExact
  refine wpAny_bind (wpAny_newObj_type ?_ hz)
  exact wpAny_pure h1
/-- tuple(elt for tg in iter if ..) -/
def tTG (P : Addr) (wi : TI) (g : TG) (tt : TT) (te : TE) (vs : List Nat) : TE := fun σ H Q => wi σ H fun J H1 => GxR.TabG H1 P ∧ ∀ H2, GxR.Tabbed P H1 H2 →
  RT g tt te vs σ (fun ys H' => ys.length ≤ sizeLine ∧ ∀ q, H' q = none → Q (.ref q) (upd H' q (.tup ys))) J H2
theorem pe_tupleG {c P : Addr} {elt tg iter : Expr} {ifs : List Expr} {p pos gpos : Pos} {scope : Scope} {own : List (Str × Nat)} {wi : TI} {g : TG} {tt : TT} {te : TE} {k : Nat}
    (hc : X.calm = true) (hN : X.N.Nodup) (hr : Room (k + 1) X.A) (hgl : Gl X "tuple") (hm : X.mg "tuple" = none) (TB : GxR.TabB X.base X.mg c P) (hcode : X.env.code = .ref c) (S : GSc X.N X.env.scope scope own) (hi : PI X tg iter wi)
    (hg : ∀ (A : Around) (s : Shared) (H : Hp) (C : Addr) (code : Value) (fp : List Addr), Room k A → PG (gctx X A s H scope (genEnv scope (cloFrom X.env.cells scope.names []) C code builtinsNs X.env) fp) tg g)
    (ht : ∀ (A : Around) (s : Shared) (H : Hp) (C : Addr) (code : Value) (fp : List Addr), Room k A → PTs (gctx X A s H scope (genEnv scope (cloFrom X.env.cells scope.names []) C code builtinsNs X.env) fp) ifs tt)
    (he : ∀ (A : Around) (s : Shared) (H : Hp) (C : Addr) (code : Value) (fp : List Addr), Room k A → PE (gctx X A s H scope (genEnv scope (cloFrom X.env.cells scope.names []) C code builtinsNs X.env) fp) elt te)
    (hs : ∀ v, genFold iter X.env v = pure v := by intro _; rfl) (hb : bootBuiltins "tuple" = some (.type "tuple") := by decide +kernel)
    (hse : starEach [.GeneratorExp elt [⟨tg, iter, ifs, 0⟩] scope gpos] X.env = (false, eval (.GeneratorExp elt [⟨tg, iter, ifs, 0⟩] scope gpos) X.env) :: starEach [] X.env := by rfl) :
    PE X (.Call (.Name "tuple" p) [.GeneratorExp elt [⟨tg, iter, ifs, 0⟩] scope gpos] [] pos) (tTG P wi g tt te (own.map (·.2))) := by
  refine ⟨fun pins s σ H Q I h => ?_⟩
  refine Call_ (ld_blt I hgl hm hb (PyProof.Rows.callWith_type1 (args_cons (thn (gen_parts hc hN hr TB hcode S hi hg ht he hs I h) fun u s5 hu => args_nil ?_) hse) hse rfl))
  obtain ⟨a, it, fp, tn, J, cenv, s4, H3, go, gi, rfl, Pt⟩ := hu
  have N : Near X X.A.in1.in1.in1.in1 := ⟨hr.hd, rfl, rfl, by show X.A.units + 1 + 1 + 1 + 1 ≤ X.A.units + 8; omega⟩
  have bare := (Pt.inv _ N).bare
  refine callType_codes (Q₁ := fun obj s1 => s1.TypeIs obj "tuple" ∧ EP X pins σ Q obj s1) F.called_tuple (F.typeCall_tuple_1 _) F.entry_object_init
    (code_tuple_made (A := X.A.in1) hc Pt N (by have := hr.dp; show X.A.depth < _; omega) bare fun pn σ' H' s' ys acc I' v' q => ?_) fun obj s1 h1 => ?_
  · have I2 := Pt.back _ pn σ' H' s' I'
    have el : ys.length = acc.length := v'.length
    refine ⟨by rw [List.size_toArray, ← el]; exact q.1, ⟨_, Heap.get?_push_size _ rfl, rfl⟩, .ref s'.heap.objs.size, upd H' s'.heap.objs.size (.tup ys), ?_, rfl, q.2 _ (I2.hok.fresh (Nat.le_refl _))⟩
    exact I2.laid (t' := s'.toks) (fun c o e => Heap.get?_push_of_some _ e) (Nat.le_refl _) (show ObjOk X.prog X.w _ _ _ (.tup ys) from ⟨q.1, acc, v', IsTup.new _ _⟩)
  · exact ⟨h1.1, F.args_object_init_2 obj _, object_init_meets F.called_tuple.init.lookup F.called_tuple.made (by decide) X.prog X.w X.A.in1 _ s1 ⟨h1.1, rfl, h1.2⟩⟩
end
section
variable {J : It} {n : Nat} {G : Hp → Prop} {Y : Nat → Hp → V → Hp → Prop}
theorem tg_it (w : Walk J n G Y) {g : TG} {tt : TT} {te : TE} {vs : List Nat} {σ : L2.St} {H2 : Hp} {Qt : List V → Hp → Prop} (Pv : Nat → List V → Hp → Prop) (h0 : Pv 0 [] H2) (hG : ∀ i ys H, i ≤ n → Pv i ys H → G H)
    (hs : ∀ i x ys H H', i < n → Pv i ys H → Y i H x H' → g x (wipe σ vs) H' fun σ2 H2 => wipe σ2 vs = wipe σ vs ∧ tt σ2 H2 fun b H3 =>
      if b = true then te σ2 H3 fun y H4 => ys.length < sizeLine ∧ Pv (i + 1) (ys ++ [y]) H4 else Pv (i + 1) ys H3) (hd : ∀ ys H, Pv n ys H → Qt ys H) : RT g tt te vs σ Qt J H2 := by
  refine ⟨fun i m ys H => m = n - i ∧ i ≤ n ∧ Pv i ys H, ⟨n, by simp, Nat.zero_le _, h0⟩, ?_⟩
  rintro i m ys H ⟨rfl, hi, p⟩
  have q := hG i ys H hi p
  by_cases hlt : i < n
  · exact .inr ⟨w.goes i H hlt q, Pv (i + 1), fun zs H' p' => ⟨n - (i + 1), by omega, rfl, hlt, p'⟩, fun x H' y => hs i x ys H H' hlt p (w.yields i H x H' hlt q y)⟩
  · have e : i = n := by omega
    subst e
    exact .inl ⟨w.stops H q, hd ys H p⟩
end
end GE

set_option Elab.async false
set_option linter.all false
set_option maxRecDepth 100000
set_option maxHeartbeats 2000000
/-! Pages shown and compared as data. -/
namespace My
open PySem PySem.Spec PyProof.Rows L2 PySem.SeqAt PySem.W
mutual
theorem alike_self : ∀ k : NestedKey, alike k.data k.data = true
  | .none => by rw [NestedKey.data, alike]
  | .num _ => by rw [NestedKey.data, alike]
  | .text _ => by rw [NestedKey.data, alike]
  | .tup ks => by rw [NestedKey.data, alike]; exact alike_selves ks
theorem alike_selves : ∀ ks : List NestedKey, alikeAll (NestedKey.datas ks) (NestedKey.datas ks) = true
  | [] => by rw [NestedKey.datas, alikeAll]
  | k :: ks => by rw [NestedKey.datas, alikeAll, alike_self k, alike_selves ks]; rfl
end
theorem eqv_list_self (ks : List NestedKey) : PyData.eqv (.list (NestedKey.datas ks)) (.list (NestedKey.datas ks)) = true := eqv_refl_alike _ (by rw [alike]; exact alike_selves ks)
/-- what is known of a thing that is shown and compared -/
structure Fine (d : PyData) (c : Nat) : Prop where
  sh : GU.Sh d
  cost : GU.cost d ≤ c
  lay : d.canLay0 = true
  deep : d.depth ≤ 3
structure FineAll (ds : List PyData) (c : Nat) : Prop where
  sh : GU.ShAll ds
  cost : GU.costAll ds ≤ c
  lay : PyData.canLayAll0 ds = true
  deep : PyData.depthAll ds ≤ 3
theorem FineAll.nil : FineAll [] 0 := ⟨trivial, Nat.le_refl _, by rw [PyData.canLayAll0], by rw [PyData.depthAll]; omega⟩
theorem FineAll.cons {d : PyData} {ds : List PyData} {a b : Nat} (h : Fine d a) (t : FineAll ds b) : FineAll (d :: ds) (a + 2 + b) := by
  refine ⟨⟨h.sh, t.sh⟩, ?_, by rw [PyData.canLayAll0, h.lay, t.lay]; rfl, ?_⟩
  · rw [GU.costAll]
    have := h.cost
    have := t.cost
    omega
  · rw [PyData.depthAll]
    have := h.deep
    have := t.deep
    omega
theorem Fine.mono {d : PyData} {a b : Nat} (h : Fine d a) (le : a ≤ b) : Fine d b := ⟨h.sh, Nat.le_trans h.cost le, h.lay, h.deep⟩
theorem fine_text {z : Str} (h : Plain z) : Fine (.str z) 1004 := by
  refine ⟨fun c hc => Nat.lt_of_lt_of_le (h.2 c hc) (by decide), ?_, ?_, by rw [PyData.depth]; omega⟩
  · have := h.1
    rw [GU.cost]
    omega
  · rw [PyData.canLay0]
    unfold PyData.strOk
    rw [← Array.all_toList]
    refine List.all_eq_true.mpr fun c hc => ?_
    have := h.2 c hc
    simp
    omega
theorem fine_int {i : Int} (h0 : -1000000 < i) (h1 : i < 1000000) : Fine (.int i) 1921 := ⟨small_nat h0 h1, by rw [GU.cost]; omega, by rw [PyData.canLay0], by rw [PyData.depth]; omega⟩
theorem fine_home {ws : List Int} (h : HomeW ws) : Fine (NestedKey.tup (ws.map .num)).data 14000 := by
  have key : ∀ {ws : List Int}, (∀ w ∈ ws, 0 ≤ w ∧ w < 7) → FineAll (NestedKey.datas (ws.map .num)) (1923 * ws.length) ∧ PyData.depthAll (NestedKey.datas (ws.map .num)) = 0 := by
    intro ws
    induction ws with
    | nil => intro _; exact ⟨by rw [List.map_nil, NestedKey.datas]; exact .nil, by rw [List.map_nil, NestedKey.datas, PyData.depthAll]⟩
    | cons a l ih =>
      intro h
      have ha := h a (.head _)
      obtain ⟨i1, i2⟩ := ih fun w hw => h w (.tail _ hw)
      rw [List.map_cons, NestedKey.datas, NestedKey.data]
      refine ⟨?_, by rw [PyData.depthAll, i2, PyData.depth]; rfl⟩
      have := FineAll.cons (fine_int (i := a) (by omega) (by omega)) i1
      rw [List.length_cons]
      exact ⟨this.sh, by have := this.cost; omega, this.lay, this.deep⟩
  obtain ⟨k, kd⟩ := key h.2
  have := h.1
  rw [NestedKey.data]
  refine ⟨k.sh, ?_, by rw [PyData.canLay0]; exact k.lay, by rw [PyData.depth, kd]; omega⟩
  rw [GU.cost]
  have := k.cost
  omega
theorem plain_kind {z : Str} {r : List NestedKey} (h : Rest z r) : Plain z := by
  cases h <;> exact ⟨by decide +kernel, by decide +kernel⟩
theorem fine_rest {z : Str} {r : List NestedKey} (h : Rest z r) : FineAll (NestedKey.datas r) 17000 ∧ PyData.depthAll (NestedKey.datas r) ≤ 1 := by
  have one : ∀ {ws : List Int}, (NestedKey.tup (ws.map .num)).data.depth ≤ 1 := fun {ws} => by
    have : ∀ ws : List Int, PyData.depthAll (NestedKey.datas (ws.map .num)) = 0 := fun ws => by
      induction ws with
      | nil => rw [List.map_nil, NestedKey.datas, PyData.depthAll]
      | cons a l ih => rw [List.map_cons, NestedKey.datas, NestedKey.data, PyData.depthAll, ih, PyData.depth]; rfl
    rw [NestedKey.data, PyData.depth, this]
    omega
  have up : ∀ {ds : List PyData} {c : Nat}, FineAll ds c → c ≤ 17000 → FineAll ds 17000 := fun h le => ⟨h.sh, Nat.le_trans h.cost le, h.lay, h.deep⟩
  have txt : ∀ x : Str, (NestedKey.text x).data = .str x := fun x => by rw [NestedKey.data]
  have num : ∀ x : Int, (NestedKey.num x).data = .int x := fun x => by rw [NestedKey.data]
  cases h <;> simp only [NestedKey.datas, txt, num]
  case house a b => exact ⟨up (.cons (fine_text a) (.cons (fine_home b) .nil)) (by decide), by simp only [PyData.depthAll, PyData.depth]; refine Nat.max_le.mpr ⟨Nat.zero_le _, ?_⟩; first | exact Nat.max_le.mpr ⟨one, Nat.zero_le _⟩ | exact Nat.max_le.mpr ⟨Nat.zero_le _, Nat.max_le.mpr ⟨one, Nat.zero_le _⟩⟩⟩
  case home a b => exact ⟨up (.cons (fine_text a) (.cons (fine_home b) .nil)) (by decide), by simp only [PyData.depthAll, PyData.depth]; refine Nat.max_le.mpr ⟨Nat.zero_le _, ?_⟩; first | exact Nat.max_le.mpr ⟨one, Nat.zero_le _⟩ | exact Nat.max_le.mpr ⟨Nat.zero_le _, Nat.max_le.mpr ⟨one, Nat.zero_le _⟩⟩⟩
  case part a b c => exact ⟨up (.cons (fine_text a) (.cons (fine_text b) (.cons (fine_home c) .nil))) (by decide), by simp only [PyData.depthAll, PyData.depth]; refine Nat.max_le.mpr ⟨Nat.zero_le _, ?_⟩; first | exact Nat.max_le.mpr ⟨one, Nat.zero_le _⟩ | exact Nat.max_le.mpr ⟨Nat.zero_le _, Nat.max_le.mpr ⟨one, Nat.zero_le _⟩⟩⟩
  case mourn a b c => exact ⟨up (.cons (fine_text a) (.cons (fine_int (by omega) (by omega)) .nil)) (by decide), by simp only [PyData.depthAll, PyData.depth]; omega⟩
  case join a b => exact ⟨up (.cons (fine_text a) (.cons (fine_text b) .nil)) (by decide), by simp only [PyData.depthAll, PyData.depth]; omega⟩
  case ahead a b => exact ⟨up (.cons (fine_text a) (.cons (fine_text b) .nil)) (by decide), by simp only [PyData.depthAll, PyData.depth]; omega⟩
  case card a b => exact ⟨up (.cons (fine_text a) (.cons (fine_text b) .nil)) (by decide), by simp only [PyData.depthAll, PyData.depth]; omega⟩
  case visit a b => exact ⟨up (.cons (fine_text a) (.cons (fine_text b) .nil)) (by decide), by simp only [PyData.depthAll, PyData.depth]; omega⟩
theorem fine_page {k : NestedKey} (h : PgK k) : Fine k.data 20000 ∧ k.data.depth ≤ 2 := by
  obtain ⟨z, d, r, rfl, hr, d0, d1⟩ := h
  obtain ⟨f, fd⟩ := fine_rest hr
  have t := FineAll.cons (fine_text (plain_kind hr)) (FineAll.cons (fine_int (i := d) (by omega) (by omega)) f)
  have e : (NestedKey.tup (.text z :: .num d :: r)).data = .tuple (.str z :: .int d :: NestedKey.datas r) := by
    rw [NestedKey.data, NestedKey.datas, NestedKey.datas, NestedKey.data, NestedKey.data]
  have dp : (PyData.tuple (.str z :: .int d :: NestedKey.datas r)).depth ≤ 2 := by
    rw [PyData.depth, PyData.depthAll, PyData.depthAll, PyData.depth, PyData.depth]
    omega
  rw [e]
  refine ⟨⟨t.sh, ?_, by rw [PyData.canLay0]; exact t.lay, Nat.le_trans dp (by decide)⟩, dp⟩
  rw [GU.cost]
  have := t.cost
  omega
theorem fine_pages : ∀ {ks : List NestedKey}, (∀ k ∈ ks, PgK k) → FineAll (NestedKey.datas ks) (20002 * ks.length) ∧ PyData.depthAll (NestedKey.datas ks) ≤ 2
  | [], _ => ⟨by rw [NestedKey.datas]; exact .nil, by rw [NestedKey.datas, PyData.depthAll]; omega⟩
  | k :: ks, h => by
    obtain ⟨a, b⟩ := fine_page (h k (.head _))
    obtain ⟨c, d⟩ := fine_pages fun y hy => h y (.tail _ hy)
    have t := FineAll.cons a c
    rw [NestedKey.datas]
    refine ⟨⟨t.sh, by have := t.cost; rw [List.length_cons]; omega, t.lay, t.deep⟩, by rw [PyData.depthAll]; omega⟩
theorem shaped_pages {ks : List NestedKey} (h : ∀ k ∈ ks, PgK k) : SeqAt.shaped (.list (NestedKey.datas ks)) = true := by
  obtain ⟨f, fd⟩ := fine_pages h
  unfold SeqAt.shaped
  rw [Bool.and_eq_true, PyData.canLay0, PyData.depth]
  exact ⟨f.lay, decide_eq_true (by omega)⟩
theorem eqv_nil (ks : List NestedKey) : PyData.eqv (.list (NestedKey.datas ks)) (.list []) = ks.isEmpty := by
  cases ks with
  | nil => simp [NestedKey.datas, PyData.eqv, PyData.eqvAll]
  | cons k ks => simp [NestedKey.datas, PyData.eqv, PyData.eqvAll]
theorem repr_pages {ks : List NestedKey} (h : ∀ k ∈ ks, PgK k) (n : ks.length ≤ 200) : GU.Sh (.tuple (NestedKey.datas ks)) ∧ (PyData.tuple (NestedKey.datas ks)).depth ≤ 50 ∧ GU.cost (.tuple (NestedKey.datas ks)) ≤ sizeLine := by
  obtain ⟨f, fd⟩ := fine_pages h
  refine ⟨f.sh, by rw [PyData.depth]; omega, ?_⟩
  rw [GU.cost]
  have := f.cost
  have : GU.costAll (NestedKey.datas ks) + 3 ≤ 4000403 := by omega
  exact Nat.le_trans this (by decide)
end My

set_option Elab.async false
set_option linter.all false
set_option maxRecDepth 100000
set_option maxHeartbeats 2000000
/-! Errors of the program's own that carry fields: a def with generator expressions that may raise one; isinstance of a caught one where the answer is yes; != of pages. -/
namespace GE
open PySem PySem.Spec PyProof.Rows L2
theorem FunC.okX {P : Program} {w : World} {K : PySem.W.Frag} {mg : Str → Option Value} {base : Heap} {x qual : Str} {st : Stmt} {f : Addr} {fd : FuncData} {c : Addr} {N ps : List Str} {k : Nat} {sp : Sp} (F : FunC K x qual st f fd c) (S : FnScope N ps (defScope st))
    (len : ∀ vs H Q E, sp vs H Q E → vs.length = ps.length)
    (body : ∀ (A : Around) (outer : List Env) (s : Shared) (H : Hp) (vs : List V) (Q : VK) (E : XK), Room k (A.deeper (envOfC qual (defScope st) s.heap.objs.size f (.ref c))) → sp vs H Q E →
      ∃ t, PSs (cxOf (L2.CX P w) P w K mg base N qual (defScope st) f (.ref c) A outer s H E) (defBody st) t ∧ t { nx := fun _ H' => Q .non H', rt := Q } (start N vs) H) : FnOk P w K mg base (L2.CX P w) (k + 1) f fd ps sp := by
  obtain ⟨oc, od, kV, doc, pm, an, ct, osl, rfl, lk, hcd⟩ := F.ex
  exact fn_of lk hcd S len fun A outer s H vs Q E hr h => body A outer s H vs Q E hr h
end GE
namespace My
open PySem PySem.Spec PyProof.Rows L2 PySem.W
section
variable {prog : Program} {w : World} {A : Around} {E : Value → Shared → Prop} {s : Shared} {Q : Value → Shared → Prop} {K : PySem.W.Frag} {a D : Addr} {oe : Obj} {od : Option Obj} {c : Value}
/-- the class is the thing's own, or one above it: so no look at the thing's own attribute is taken -/
theorem yes_ans (e : PySem.W.kitOne K (.ref D) c = some true) : Answers (fun s => K.In s.heap ∧ PySem.W.InstAt s.heap a oe D od) (.ref a) c true := by
  intro dep tk prog w A R s hs
  obtain ⟨h0, g0, d0, t0, o0⟩ := s
  obtain ⟨⟨kin, inst⟩, fin⟩ := hs
  have own := inst.type (M := model prog w)
  unfold Builtin.«isinstance.nested»
  refine wpAny_bind (own.at ?_)
  unfold PySem.W.kitOne at e
  by_cases same : (Value.ref D == c) = true
  · rw [if_pos same]
    first
      | exact wpAny_bind (wpAny_rule (fin t0))
      | exact wpAny_bind (wpAny_rule (wpAny_pure (fin t0)))
      | ((repeat lk); exact fin t0)
  · rw [if_neg same] at e
    rw [if_neg same]
    obtain ⟨l1, l2, l3⟩ := PySem.W.kit_cls (M := model prog w) kin e
    have above : Looks (model prog w) h0 (isInstance (.ref a) c) true := own.andThen l3
    refine wpAny_bind (l1.at ?_)
    rw [if_pos (by decide)]
    k_delta "plainIsInstance"
    refine wpAny_bind (wpAny_bind (l2.at ?_))
    rw [if_neg (by decide)]
    refine wpAny_bind (above.at ?_)
    first
      | exact wpAny_pure (wpAny_pure (fin t0))
      | (rw [if_pos rfl]; first | exact wpAny_pure (wpAny_pure (fin t0)) | exact wpAny_pure (fin t0) | exact wpAny_bind (wpAny_pure (wpAny_pure (fin t0))))
theorem is_yes (kin : K.In s.heap) (inst : PySem.W.InstAt s.heap a oe D od) (e : PySem.W.kitOne K (.ref D) c = some true) (h : ∀ tk, Q (.bool true) { s with toks := tk }) : wpAny (model prog w) A (call (.builtin "isinstance") [.ref a, c]) Q E s :=
  PySem.call_isinstance (S := fun _ R s => (K.In s.heap ∧ PySem.W.InstAt s.heap a oe D od) ∧ ∀ tk, R (.ok (.ret (.bool true))) { s with toks := tk })
    (fun prog w A R s hs => PySem.isinstance_outer (yes_ans e 0 _ prog w A R s hs) (fun z => nomatch z)) ⟨⟨kin, inst⟩, h⟩
end
/-- isinstance(e, c), e the error that the suite holds, with fields in its dict -/
def rIsY (K : PySem.W.Frag) (D a : Addr) (cls : Value) (d : Option Addr) : List V → Hp → VK → Prop := fun xs H Q => ∃ (c : V) (cv : Value) (dd : Addr) (fs : List (Str × V)), xs = [.ref a, c] ∧ (∀ u, RelV c u → u = cv) ∧ PySem.W.kitOne K (.ref D) cv = some true ∧ cls = .ref D ∧ d = some dd ∧ H dd = some (.xd fs) ∧ Q (.bl true) H
theorem call_isY {X : Cx} {a D : Addr} {oe : Obj} {d : Option Addr} {cls : Value} {pn : List (Addr × Obj)} (hz : Zc cls d oe) (hf : ∃ vs, oe.data = .fields vs) : CallR (X.suite a ((a, oe) :: pn)) (.builtin "isinstance") (rIsY X.K D a cls d) := by
  intro pins s σ H xs us Q I r h
  obtain ⟨c, cv, dd, fs, rfl, hcv, e, hc, ed, hdd, q⟩ := h
  obtain ⟨u0, u1, rfl, r0, r1⟩ : ∃ u0 u1, us = [u0, u1] ∧ RelV (.ref a) u0 ∧ RelV c u1 := by
    cases r with
    | cons r0 r =>
      cases r with
      | cons r1 r =>
        cases r
        exact ⟨_, _, rfl, r0, r1⟩
  obtain rfl : u0 = Value.ref a := r0
  obtain rfl := hcv _ r1
  subst hc ed
  obtain ⟨here, _⟩ := I.pin (a, oe) (List.mem_append_left _ List.mem_cons_self)
  obtain ⟨vs, hv⟩ := hf
  have hx : ObjOk X.prog X.w H s.heap dd (.xd fs) := I.hok dd _ hdd
  obtain ⟨mA, hns, _⟩ := hx
  obtain ⟨od, ho, _⟩ := lookIn_ns hns
  have inst : PySem.W.InstAt s.heap a oe D (some od) := ⟨here, hz.1, by unfold PySem.W.notCls; rw [hv] <;> rfl, by rw [hz.2]; exact ho⟩
  exact is_yes I.kIn inst e fun tk => ⟨.bl true, H, I.kept (t' := tk) fun _ _ z => z, rfl, q⟩
mutual
theorem eqv_key : ∀ k l : NestedKey, PyData.eqv k.data l.data = NestedKey.beq k l
  | .none, l => by cases l <;> simp [NestedKey.data, PyData.eqv, NestedKey.beq]
  | .num a, l => by cases l <;> simp [NestedKey.data, PyData.eqv, NestedKey.beq] <;> (rw [Bool.eq_iff_iff]; simp)
  | .text a, l => by cases l <;> simp [NestedKey.data, PyData.eqv, NestedKey.beq] <;> (rw [Bool.eq_iff_iff]; simp)
  | .tup ks, .none => by simp [NestedKey.data, PyData.eqv, NestedKey.beq]
  | .tup ks, .num _ => by simp [NestedKey.data, PyData.eqv, NestedKey.beq]
  | .tup ks, .text _ => by simp [NestedKey.data, PyData.eqv, NestedKey.beq]
  | .tup ks, .tup ls => by
    rw [NestedKey.data, NestedKey.data, PyData.eqv, NestedKey.beq]
    exact eqv_keys ks ls
theorem eqv_keys : ∀ ks ls : List NestedKey, PyData.eqvAll (NestedKey.datas ks) (NestedKey.datas ls) = NestedKey.beqAll ks ls
  | [], [] => by simp [NestedKey.datas, PyData.eqvAll, NestedKey.beqAll]
  | [], _ :: _ => by simp [NestedKey.datas, PyData.eqvAll, NestedKey.beqAll]
  | _ :: _, [] => by simp [NestedKey.datas, PyData.eqvAll, NestedKey.beqAll]
  | k :: ks, l :: ls => by
    rw [NestedKey.datas, NestedKey.datas, PyData.eqvAll, NestedKey.beqAll, eqv_key k l, eqv_keys ks ls]
end
theorem eqv_dec (k l : NestedKey) : PyData.eqv k.data l.data = decide (k = l) := by rw [eqv_key, NestedKey.decide_eq]
theorem shaped_page {k : NestedKey} (h : PgK k) : SeqAt.shaped k.data = true := by
  obtain ⟨f, fd⟩ := fine_page h
  unfold SeqAt.shaped
  rw [Bool.and_eq_true]
  exact ⟨f.lay, decide_eq_true (by omega)⟩
end My

set_option Elab.async false
set_option linter.all false
set_option maxRecDepth 100000
set_option maxHeartbeats 2000000
/-! A tuple whose whole object is in sight (frozen): it has no dict of its own, so that it can be asked by a method. -/
namespace My
open PySem PySem.Spec PyProof.Rows L2
/-- a tuple's object without a dict -/
def TD (o : Obj) : Prop := o.cls = .type "tuple" ∧ o.dict = none
section
variable {X : Cx} {K1 : PySem.W.Frag}
def rTupD (K : PySem.W.Frag) : List V → Hp → VK → Prop := fun xs H Q => ∃ p ys, xs = [.ref p] ∧ SqL K H p ys ∧ ∀ l o, H l = none → TD o → Q (.ref l) (upd H l (.frz o (.tup ys)))
theorem call_tupleD : CallR X (.type "tuple") (rTupD X.K) := by
  intro pins s σ H xs us Q I rs ⟨p, ys, ex, hp, q⟩
  subst ex
  obtain ⟨u, eu, ru⟩ := vals1 rs
  subst eu
  cases ru
  obtain ⟨vs, rv, pl, le⟩ := I.list hp
  have ln := rv.length
  refine call_tuple_list pl.isList (fun h' kp => ?_) (by rw [List.size_toArray]; omega)
  have J := I.kept (t' := s.toks) kp
  have at_ : (h'.push { cls := .type "tuple", data := .seq vs.toArray }).get? h'.objs.size = some { cls := .type "tuple", data := .seq vs.toArray } := Heap.get?_push_size _ rfl
  have G := J.laid (t' := s.toks) (h' := h'.push { cls := .type "tuple", data := .seq vs.toArray }) (fun b z e => Heap.get?_push_of_some _ e) (Nat.le_refl _) (show ObjOk X.prog X.w (upd H h'.objs.size (.frz { cls := .type "tuple", data := .seq vs.toArray } (.tup ys))) _ h'.objs.size (.frz { cls := .type "tuple", data := .seq vs.toArray } (.tup ys)) from ⟨at_, le, vs, rv, IsTup.new _ _⟩)
  exact ⟨.ref h'.objs.size, _, G, rfl, q _ _ (J.hok.fresh (Nat.le_refl _)) ⟨rfl, rfl⟩⟩
theorem call_tupleDK (hK : X.K = K1) : CallR X (.type "tuple") (rTupD K1) := by
  subst hK
  exact call_tupleD
variable {es : List Expr} {t : TA} {o e : Expr} {to : TE} {name : Str} {apos cpos : Pos} {id : String} {r : V → List V → Hp → VK → Prop}
def tBMD (r : V → List V → Hp → VK → Prop) (to : TE) (t : TA) : TE := fun σ H Q => to σ H fun x H1 => (∃ p ob u, x = .ref p ∧ H1 p = some (.frz ob u) ∧ TD ob) ∧ t σ H1 fun xs H2 => r x xs H2 Q
theorem pe_bmD (pa : PlainAttrs "tuple") (slot : Slot "tuple" name id) (ht : typeOf (.builtin id) = pure (.type "method_descriptor")) (hm : MtR X id r) (ho : PE X o to) (ha : PA X (e :: es) t)
    (hbase : attributeBase o name X.env (eval o X.env) = eval o X.env := by rfl)
    (hfew : ((backTo cpos (starEach (e :: es) X.env)).all (fun x => !x.1) && (backToKw cpos (keywordEach [] X.env)).all (fun x => x.1.isSome) && decide ((e :: es).length + ([] : List Keyword).length + (if ([] : List Keyword).isEmpty then 0 else 1) < 30)) = true := by rfl)
    (hline : (apos.endLine == cpos.line) = true := by rfl) (hst : starEach (e :: es) X.env = (false, eval e X.env) :: starEach es X.env := by rfl) (hpl : (backTo cpos (starEach es X.env)).any (·.1) = false := by rfl) :
    PE X (.Call (.Attribute o name apos) (e :: es) [] cpos) (tBMD r to t) := by
  refine ⟨fun pins s σ H Q I h => wpAny_Call_method_late hbase hfew hline rfl (thn (ho.run pins s σ H _ I h) fun v s1 ⟨x, H1, I1, r1, ⟨p, ob, u, ex, hp, td⟩, q1⟩ => ?_)⟩
  subst ex
  obtain rfl : v = Value.ref p := r1
  obtain ⟨g, _⟩ := I1.hok p _ hp
  refine ⟨"tuple", id, pa, slot, ht, ⟨_, g, td.1⟩, fun a e => by cases e; exact ⟨_, g, td.2⟩, ?_⟩
  have run := ha.run cpos pins s1 σ H1 _ I1 q1
  rw [hst] at run ⊢
  refine Calls.callWith_builtin (by show (false || (backTo cpos (starEach es X.env)).any (·.1)) = false; rw [hpl] <;> rfl) (Calls.evalArgs_plain ?_)
  exact thn run fun us s2 ⟨vs, H2, I2, r2, q2⟩ => hm pins s2 σ H2 (.ref p) vs (.ref p) us Q I2 rfl r2 q2
def rTupIx (K : PySem.W.Frag) : V → List V → Hp → VK → Prop := fun x xs H Q => ∃ p, ∃ ys : List Str, ∃ z j, x = .ref p ∧ xs = [.str z] ∧ SqT K H p (ys.map V.str) ∧ ys[j]? = some z ∧ (∀ m, m < j → ys[m]? ≠ some z) ∧ Q (.int (j : Nat)) H
theorem mt_tup_indexK (hK : X.K = K1) : MtR X "tuple.index" (rTupIx K1) := by
  subst hK
  exact mt_tup_index
end
end My

set_option Elab.async false
set_option linter.all false
set_option maxRecDepth 100000
set_option maxHeartbeats 2000000
/-! xs == [], xs != []: a list of any things against the list of none. -/
namespace My
open PySem PySem.Spec PyProof.Rows L2 PySem.SeqAt
def rEqE (K : PySem.W.Frag) (f : Bool → Bool) : R2 := fun x y H Q => ∃ (p q : Addr) (xs : List V), x = .ref p ∧ y = .ref q ∧ SqL K H p xs ∧ SqL K H q [] ∧ Q (.bl (f xs.isEmpty)) H
section
variable {X : Cx}
theorem op_eqE (hu : X.A.units + 1 < cLine) : OpR X (compareOp .Eq) (rEqE X.K fun b => b) := by
  intro pins s σ H x y v u Q I rx ry h
  obtain ⟨p, q, xs, rfl, rfl, hp, hq, h⟩ := h
  cases (show v = Value.ref p from rx)
  cases (show u = Value.ref q from ry)
  obtain ⟨us, r1, p1, _⟩ := I.list hp
  obtain ⟨ws, r2, p2, _⟩ := I.list hq
  cases r2
  cases r1 with
  | nil => exact RcAt.lists (e := fun _ => true) p1.isList p2.isList rfl (by omega) (fun j h1 _ => absurd h1 (Nat.not_lt_zero j)) X.prog X.w _ _ ⟨.bl true, H, I, rfl, h⟩
  | cons _ _ => exact RcAt.lists_lengths p1.isList p2.isList (by simp) (by omega) X.prog X.w _ _ ⟨.bl false, H, I, rfl, h⟩
theorem op_neE (hu : X.A.units + 1 < cLine) : OpR X (compareOp .NotEq) (rEqE X.K fun b => !b) := by
  intro pins s σ H x y v u Q I rx ry h
  obtain ⟨p, q, xs, rfl, rfl, hp, hq, h⟩ := h
  cases (show v = Value.ref p from rx)
  cases (show u = Value.ref q from ry)
  obtain ⟨us, r1, p1, _⟩ := I.list hp
  obtain ⟨ws, r2, p2, _⟩ := I.list hq
  cases r2
  cases r1 with
  | nil => exact RcNeAt.lists (e := fun _ => true) p1.isList p2.isList rfl (by omega) (fun j h1 _ => absurd h1 (Nat.not_lt_zero j)) X.prog X.w _ _ ⟨.bl false, H, I, rfl, h⟩
  | cons _ _ => exact RcNeAt.lists_lengths p1.isList p2.isList (by simp) (by omega) X.prog X.w _ _ ⟨.bl true, H, I, rfl, h⟩
end
end My

set_option Elab.async false
set_option linter.all false
set_option maxRecDepth 100000
set_option maxHeartbeats 2000000
/-! t == (), t != (): a tuple of any things against the tuple of none. -/
namespace My
open PySem PySem.Spec PyProof.Rows L2 PySem.SeqAt
def rEqTE (K : PySem.W.Frag) (f : Bool → Bool) : R2 := fun x y H Q => ∃ (p q : Addr) (xs : List V), x = .ref p ∧ y = .ref q ∧ SqT K H p xs ∧ SqT K H q [] ∧ Q (.bl (f xs.isEmpty)) H
section
variable {X : Cx}
theorem op_eqTE (hu : X.A.units + 1 < cLine) : OpR X (compareOp .Eq) (rEqTE X.K fun b => b) := by
  intro pins s σ H x y v u Q I rx ry h
  obtain ⟨p, q, xs, rfl, rfl, hp, hq, h⟩ := h
  cases (show v = Value.ref p from rx)
  cases (show u = Value.ref q from ry)
  obtain ⟨us, r1, p1, _⟩ := I.tuple hp
  obtain ⟨ws, r2, p2, _⟩ := I.tuple hq
  cases r2
  have e := RcAt.tuples (A := X.A) (e := fun _ => true) p1 p2 (by omega) (fun j _ h2 => absurd h2 (Nat.not_lt_zero j)) X.prog X.w
  cases r1 with
  | nil => exact e _ _ ⟨.bl true, H, I, rfl, h⟩
  | cons _ _ => exact e _ _ ⟨.bl false, H, I, by simp; rfl, h⟩
theorem op_neTE (hu : X.A.units + 1 < cLine) : OpR X (compareOp .NotEq) (rEqTE X.K fun b => !b) := by
  intro pins s σ H x y v u Q I rx ry h
  obtain ⟨p, q, xs, rfl, rfl, hp, hq, h⟩ := h
  cases (show v = Value.ref p from rx)
  cases (show u = Value.ref q from ry)
  obtain ⟨us, r1, p1, _⟩ := I.tuple hp
  obtain ⟨ws, r2, p2, _⟩ := I.tuple hq
  cases r2
  have e := RcNeAt.tuples (A := X.A) (e := fun _ => true) p1 p2 (by omega) (fun j _ h2 => absurd h2 (Nat.not_lt_zero j)) X.prog X.w
  cases r1 with
  | nil => exact e _ _ ⟨.bl false, H, I, rfl, h⟩
  | cons _ _ => exact e _ _ ⟨.bl true, H, I, by simp; rfl, h⟩
end
end My

set_option Elab.async false
set_option linter.all false
/-! Rules that name the fragment, for use inside comprehensions (the block's context must not stand in what they ask). -/
namespace My
open PySem PySem.Spec PyProof.Rows L2
def rLenK (K : PySem.W.Frag) : List V → Hp → VK → Prop := fun xs H Q => ∃ p ys, xs = [.ref p] ∧ (SqL K H p ys ∨ SqT K H p ys) ∧ Q (.int ys.length) H
section
variable {X : Cx}
theorem call_lenK : CallR X (.builtin "len") (rLenK X.K) := call_len_seq
variable {o e : Expr} {es : List Expr} {to : TE} {t : TA} {name : Str} {apos cpos : Pos} {T id : String} {r : V → List V → Hp → VK → Prop} {K1 : PySem.W.Frag}
theorem pe_bmK (hK : X.K = K1) (pa : PlainAttrs T) (slot : Slot T name id) (hty : typeOf (.builtin id) = pure (.type "method_descriptor")) (hm : MtR X id r) (ho : PE X o to) (ha : PA X (e :: es) t)
    (hbase : attributeBase o name X.env (eval o X.env) = eval o X.env := by rfl)
    (hfew : ((backTo cpos (starEach (e :: es) X.env)).all (fun x => !x.1) && (backToKw cpos (keywordEach [] X.env)).all (fun x => x.1.isSome)
      && decide ((e :: es).length + ([] : List Keyword).length + (if ([] : List Keyword).isEmpty then 0 else 1) < 30)) = true := by rfl)
    (hline : (apos.endLine == cpos.line) = true := by rfl) (hs : starEach (e :: es) X.env = (false, eval e X.env) :: starEach es X.env := by rfl) (hplain : (backTo cpos (starEach es X.env)).any (·.1) = false := by rfl) :
    PE X (.Call (.Attribute o name apos) (e :: es) [] cpos) (tBM K1 T r to t) := by
  subst hK
  exact pe_bm pa slot hty hm ho ha hbase hfew hline hs hplain
theorem pi_listK {tg : Expr} {te : TE} (hK : X.K = K1) (h : PE X e te) : PI X tg e (iList K1 te) := by
  subst hK
  exact pi_list h
theorem pi_tupK {tg : Expr} {te : TE} (hK : X.K = K1) (h : PE X e te) : PI X tg e (iTup K1 te) := by
  subst hK
  exact pi_tup h
end
end My

set_option Elab.async false
set_option linter.all false
set_option maxRecDepth 100000
set_option maxHeartbeats 2000000
/-! What a set asks of nested tuples: that none of a class of the program's own lies in them, and how their hash is made. -/
namespace My
open PySem PySem.Spec PyProof.Rows L2 PySem.SeqAt
section
variable {P : Program} {w : World} {A : Around} {E : Value → Shared → Prop} {s : Shared}
/-- no object of an own class within -/
def NoCls (P : Program) (w : World) (n : Nat) (s : Shared) (v : Value) : Prop := ∀ (A : Around) (E : Value → Shared → Prop) (Q : Bool → Shared → Prop), Q false s → wpAny (model P w) A (ofAClassStatement n v) Q E s
theorem NoCls.tuple {n : Nat} {a : Addr} {ob : Obj} {vs : Array Value} {m : Nat} (g1 : s.heap.get? a = some ob) (g2 : ob.cls = .type "tuple") (g3 : ob.data = .seq vs m) (al : ∀ v ∈ vs.toList, NoCls P w n s v) : NoCls P w (n + 1) s (.ref a) := by
  intro A E Q q
  unfold ofAClassStatement
  refine wpAny_bind (wpAny_typeOf (T := "tuple") ⟨ob, g1, g2⟩ ?_)
  dsimp only
  rw [if_pos (by decide : (("tuple" : String) == "tuple") = true)]
  refine wpAny_bind (wpAny_pure ?_)
  rw [if_neg (by decide : ¬ (!true) = true)]
  refine wpAny_bind (wpAny_seqItems g1 g3 ?_)
  dsimp only
  refine wpAny_bind (?_ : wpAny _ _ (forIn vs _ _) _ _ s)
  rw [← Array.forIn_toList]
  refine wpAny_forIn_list _ (fun left got now => got.1 = none ∧ now = s ∧ ∀ v ∈ left, NoCls P w n s v) _ (fun v left got now => ?_) (fun got now => ?_) _ _ ⟨rfl, rfl, al⟩
  · rintro ⟨_, rfl, all⟩
    refine wpAny_bind (all v (.head _) _ _ _ ?_)
    rw [if_neg Bool.false_ne_true]
    exact wpAny_pure ⟨rfl, rfl, fun u hu => all u (.tail _ hu)⟩
  · obtain ⟨g, h⟩ := got
    rintro ⟨rfl, rfl, _⟩
    exact wpAny_pure q
mutual
theorem noCls : ∀ (k : NestedKey) (v : Value) (n : Nat) (s : Shared), NestedIs s.heap k v → k.depth ≤ n → NoCls P w n s v
  | .none, _, n, s, x, _ => by cases x; intro A E Q q; cases n <;> exact wpAny_pure q
  | .num _, _, n, s, x, _ => by cases x <;> (intro A E Q q; cases n <;> exact wpAny_pure q)
  | .text _, _, n, s, x, _ => by cases x; intro A E Q q; cases n <;> exact wpAny_pure q
  | .tup ks, _, n, s, x, d => by
    cases x with
    | tup g1 g2 g3 al =>
      rw [NestedKey.depth] at d
      cases n with
      | zero => omega
      | succ n => exact .tuple g1 g2 g3 (noClsAll ks _ n s al (by omega))
theorem noClsAll : ∀ (ks : List NestedKey) (vs : List Value) (n : Nat) (s : Shared), NestedAll s.heap ks vs → NestedKey.depthAll ks ≤ n → ∀ v ∈ vs, NoCls P w n s v
  | [], _, n, s, x, _, v, hv => by cases x; cases hv
  | k :: ks, _, n, s, x, d, v, hv => by
    cases x with
    | cons x1 x2 =>
      rw [NestedKey.depthAll] at d
      rcases List.mem_cons.mp hv with e | hv
      · rw [e]; exact noCls k _ n s x1 (by omega)
      · exact noClsAll ks _ n s x2 (by omega) v hv
end
/-- whether the hash is by value is told, whatever the answer -/
def HashTold (P : Program) (w : World) (n : Nat) (s : Shared) (v : Value) : Prop := ∀ (A : Around) (E : Value → Shared → Prop) (Q : Bool → Shared → Prop), (∀ b, Q b s) → wpAny (model P w) A (hashByValue n v) Q E s
theorem HashTold.tuple {n : Nat} {a : Addr} {ob : Obj} {vs : Array Value} {m : Nat} (g1 : s.heap.get? a = some ob) (g2 : ob.cls = .type "tuple") (g3 : ob.data = .seq vs m) (al : ∀ v ∈ vs.toList, HashTold P w n s v) : HashTold P w (n + 1) s (.ref a) := by
  intro A E Q q
  unfold hashByValue
  refine wpAny_bind (wpAny_specialOf (T := "tuple") ⟨ob, g1, g2⟩ F.slot_tuple_hash.lookup ?_)
  refine (?_ : wpAny _ _ (seqItems? (.ref a) >>= _) _ _ s)
  refine wpAny_bind (wpAny_seqItems g1 g3 ?_)
  refine wpAny_bind (?_ : wpAny _ _ (forIn vs _ _) _ _ s)
  rw [← Array.forIn_toList]
  refine wpAny_forIn_list _ (fun left got now => got.1 = none ∧ now = s ∧ ∀ v ∈ left, HashTold P w n s v) _ (fun v left got now => ?_) (fun got now => ?_) _ _ ⟨rfl, rfl, al⟩
  · rintro ⟨_, rfl, all⟩
    refine wpAny_bind (all v (.head _) _ _ _ fun b => ?_)
    cases b with
    | false =>
      rw [if_pos (by decide : (!false) = true)]
      exact wpAny_pure (wpAny_pure (q false))
    | true =>
      rw [if_neg (by decide : ¬ (!true) = true)]
      exact wpAny_pure ⟨rfl, rfl, fun u hu => all u (.tail _ hu)⟩
  · obtain ⟨g, h⟩ := got
    rintro ⟨rfl, rfl, _⟩
    exact wpAny_pure (q true)
mutual
theorem hashTold : ∀ (k : NestedKey) (v : Value) (n : Nat) (s : Shared), NestedIs s.heap k v → k.depth ≤ n → HashTold P w n s v
  | .none, _, n, s, x, _ => by cases x; intro A E Q q; cases n <;> exact wpAny_pure (q _)
  | .num _, _, n, s, x, _ => by cases x <;> (intro A E Q q; cases n <;> exact wpAny_pure (q _))
  | .text _, _, n, s, x, _ => by cases x; intro A E Q q; cases n <;> exact wpAny_pure (q _)
  | .tup ks, _, n, s, x, d => by
    cases x with
    | tup g1 g2 g3 al =>
      rw [NestedKey.depth] at d
      cases n with
      | zero => omega
      | succ n => exact .tuple g1 g2 g3 (hashToldAll ks _ n s al (by omega))
theorem hashToldAll : ∀ (ks : List NestedKey) (vs : List Value) (n : Nat) (s : Shared), NestedAll s.heap ks vs → NestedKey.depthAll ks ≤ n → ∀ v ∈ vs, HashTold P w n s v
  | [], _, n, s, x, _, v, hv => by cases x; cases hv
  | k :: ks, _, n, s, x, d, v, hv => by
    cases x with
    | cons x1 x2 =>
      rw [NestedKey.depthAll] at d
      rcases List.mem_cons.mp hv with e | hv
      · rw [e]; exact hashTold k _ n s x1 (by omega)
      · exact hashToldAll ks _ n s x2 (by omega) v hv
end
end
end My

set_option Elab.async false
set_option linter.all false
set_option maxRecDepth 100000
set_option maxHeartbeats 4000000
/-! Sets of nested tuples: the search and the adding. -/
namespace My
open PySem PySem.Spec PyProof.Rows L2 PySem.SeqAt
def KeyAt (h : Heap) (k : NestedKey) (a : Addr) : Prop := NestedIs h k (.ref a) ∧ k.depth ≤ 8
theorem KeyAt.stay {h h' : Heap} {k : NestedKey} {a : Addr} (x : KeyAt h k a) (g : ∀ b o vs n, h.get? b = some o → o.data = .seq vs n → h'.get? b = some o) : KeyAt h' k a := ⟨NestedIs.at g _ _ x.1, x.2⟩
abbrev Ent := Addr × NestedKey
/-- what is kept of an entry -/
def kept (w : World) (p : Ent) : Int × Value := (p.2.hash w, .ref p.1)
def hsh (w : World) (p : Ent) : Int := p.2.hash w
/-- the state of a search behind c steps -/
def stp (t : SetTable) (h : Int) (c : Nat) : SetTable.Probe := nth t.mask (runAt t.mask (SetTable.bits h % (t.mask + 1)) (SetTable.bits h)) c
theorem stp_j (t : SetTable) (h : Int) (c : Nat) : (stp t h c).j = way t.mask h c := rfl
theorem stp_add (t : SetTable) (h : Int) (c d : Nat) : nth t.mask (stp t h c) d = stp t h (c + d) := (nth_add t.mask c _ d).symm
theorem nth_clean (m : Nat) : ∀ (c : Nat) (p : SetTable.Probe), p.dummy = none → (nth m p c).dummy = none
  | 0, _, e => e
  | c + 1, p, e => nth_clean m c (adv m p) (by unfold adv; split <;> exact e)
theorem stp_clean (t : SetTable) (h : Int) (c : Nat) : (stp t h c).dummy = none := nth_clean t.mask c _ rfl
structure SetN (w : World) (h : Heap) (a : Addr) (M : List Ent) (es : Array (Int × Value)) (ep : Nat) (t : SetTable) : Prop where
  ob : ∃ o, h.get? a = some o ∧ o.ExactSet ∧ o.data = .set es ep t
  rows : es.toList = M.map (kept w)
  tab : TabOk t (M.map (hsh w))
  nd : (M.map (·.2)).Nodup
  key : ∀ p ∈ M, KeyAt h p.2 p.1
  led : w.params.followText "set-order" = true ∨ t.led = true
  room : M.length * 5 < t.mask * 3
section
variable {P : Program} {w : World} {A : Around} {E : Value → Shared → Prop} {s : Shared} {a : Addr} {M : List Ent} {es : Array (Int × Value)} {ep : Nat} {t : SetTable}
theorem SetN.size {h : Heap} (Z : SetN w h a M es ep t) : es.size = M.length := by
  rw [← Array.length_toList, Z.rows, List.length_map]
theorem fits_of (e1 : t.place.size = es.size) (e2 : t.dummies = #[]) (l : es.size ≤ t.mask) : t.fits es.size = true := by
  have z : (#[] : Array Nat).size = 0 := rfl
  simp only [SetTable.fits, SetTable.fill, e2, Bool.and_eq_true, beq_iff_eq, decide_eq_true_eq]
  omega
theorem SetN.fits {h : Heap} (Z : SetN w h a M es ep t) : t.fits es.size = true := by
  have l1 := Z.tab.sz
  rw [List.length_map] at l1
  have l2 := Z.size
  have l3 := Z.room
  exact fits_of (by omega) Z.tab.dm (by omega)
theorem SetN.at {h : Heap} (Z : SetN w h a M es ep t) {i : Nat} {p : Ent} (e : M[i]? = some p) : es[i]? = some (kept w p) := by
  rw [← Array.getElem?_toList, Z.rows, List.getElem?_map, e]
  rfl
/-- a search among such tuples shows nothing -/
theorem seenN {k : NestedKey} {b : Addr} (kb : KeyAt s.heap k b) {ys : List Value} (al : ∀ y ∈ ys, ∃ k' c, y = Value.ref c ∧ KeyAt s.heap k' c) {Q : Bool → Shared → Prop} (q : Q false s) : wpAny (model P w) A (searchCouldBeSeen (.ref b) ys) Q E s := by
  unfold searchCouldBeSeen
  refine wpAny_bind (wpAny_forIn_list _ (fun left got now => got.1 = none ∧ now = s ∧ ∀ y ∈ left, ∃ k' c, y = Value.ref c ∧ KeyAt s.heap k' c) _ (fun y left got now => ?_) (fun got now => ?_) _ _ ⟨rfl, rfl, al⟩)
  · rintro ⟨_, rfl, all⟩
    obtain ⟨k', c, rfl, kc⟩ := all y (.head _)
    have nx : ∀ y ∈ left, ∃ k' c, y = Value.ref c ∧ KeyAt now.heap k' c := fun u hu => all u (.tail _ hu)
    dsimp only
    by_cases e : (b == c || (carriedByValue (.ref b) && carriedByValue (.ref c))) = true
    · exact wp_if_pos e (wpAny_pure ⟨rfl, rfl, nx⟩)
    · refine wp_if_neg e (wpAny_bind (quiet_key k _ 8 now kb.1 kb.2 _ _ _ ?_))
      rw [if_neg (by decide : ¬ (!true) = true)]
      refine wpAny_bind (quiet_key k' _ 8 now kc.1 kc.2 _ _ _ ?_)
      rw [if_neg (by decide : ¬ (!true) = true)]
      refine wpAny_bind (noCls k _ 8 now kb.1 kb.2 _ _ _ ?_)
      rw [if_neg Bool.false_ne_true]
      refine wpAny_bind (noCls k' _ 8 now kc.1 kc.2 _ _ _ ?_)
      rw [if_neg Bool.false_ne_true]
      exact wpAny_pure ⟨rfl, rfl, nx⟩
  · obtain ⟨g, h⟩ := got
    rintro ⟨rfl, rfl, _⟩
    exact wpAny_pure q
theorem sameMemN (t : SetTable) : t.sameMemory t.moves t.mask = some true := by
  simp only [SetTable.sameMemory, beq_self_eq_true, if_true]
/-- the search for a tuple, from the c-th step on; K: the first empty slot of its way -/
theorem findN (Z : SetN w s.heap a M es ep t) {x : Addr} {k : NestedKey} (kx : KeyAt s.heap k x) (un : A.units + 8 < cLine) {K : Nat} (Kf : K < 10 * SetTable.turns t.mask) (Ke : way t.mask (k.hash w) K ∉ t.place.toList)
    (Kb : ∀ c, c < K → way t.mask (k.hash w) c ∈ t.place.toList) {Q : SetFound → Shared → Prop} (yes : k ∈ M.map (·.2) → Q (.there none) s) (no : k ∉ M.map (·.2) → Q (.free (way t.mask (k.hash w) K) false) s) :
    ∀ (f c : Nat) (st : Option SetTable.Probe), st.getD (t.probeStart (k.hash w)) = stp t (k.hash w) c → c ≤ K → K < c + f →
      (∀ (i : Nat) (p : Ent), M[i]? = some p → p.2 = k → ∃ d, c ≤ d ∧ d < K ∧ t.place.toList[i]? = some (way t.mask (k.hash w) d)) → wpAny (model P w) A (setSearchFrom a (.ref x) (k.hash w) true f st) Q E s := by
  intro f
  induction f with
  | zero => intro c st _ l1 l2; omega
  | succ f ih =>
    intro c st est l1 l2 ahead
    obtain ⟨o, g1, g2, g3⟩ := Z.ob
    rw [setSearchFrom_succ]
    refine wpAny_bind (wpAny_setState_of g1 g3 Z.fits ?_)
    dsimp only
    refine wp_if_neg (by rw [SetTable.gaveWay, mask_odd Z.tab.mok]; decide) ?_
    have hAt : ∀ (i : Nat) (p : Ent), M[i]? = some p → (fun i => (es[i]?.map (·.1)).getD 0) i = hsh w p := fun i p e => by
      dsimp only
      rw [Z.at e]
      rfl
    rcases go_spec t Z.tab.ris Z.tab.dm (fun i => (es[i]?.map (·.1)).getD 0) (k.hash w) (10 * SetTable.turns t.mask) (K - c) (stp t (k.hash w) c) (stp_clean _ _ _) (by omega)
      (fun d hd => by rw [stp_add]; exact Kb (c + d) (by omega)) (by rw [stp_add, show c + (K - c) = K by omega]; exact Ke) with ⟨d, i, dl, di, dh, dn, dp⟩ | ⟨dn, dp⟩
    · have pr : t.probe (fun i => (es[i]?.map (·.1)).getD 0) (k.hash w) (st.getD (t.probeStart (k.hash w))) = some (.candidate (way t.mask (k.hash w) (c + d)) i (stp t (k.hash w) (c + (d + 1)))) := by
        rw [est, ← stp_j, ← stp_add, ← stp_add]
        exact dp
      rw [pr]
      dsimp only
      rw [stp_add, stp_j] at di
      have il : i < M.length := by
        have a1 := (List.getElem?_eq_some_iff.mp di).1
        have a2 := Z.tab.sz
        rw [List.length_map] at a2
        rw [Array.length_toList] at a1
        omega
      obtain ⟨p, ep⟩ : ∃ p, M[i]? = some p := ⟨_, List.getElem?_eq_getElem il⟩
      have pm := List.mem_of_getElem? ep
      have kp := Z.key p pm
      have go : wpAny (model P w) A (searchRest a (.ref x) (k.hash w) true f es t (way t.mask (k.hash w) (c + d)) i (stp t (k.hash w) (c + (d + 1)))) Q E s := by
        unfold searchRest
        rw [Z.at ep]
        refine wpAny_bind (wpAny_holding ((nestedKind P w).eqBool un kp kx (wpAny_bind (wpAny_setState_of g1 g3 Z.fits ?_))))
        dsimp only
        by_cases e : p.2 = k
        · exact wp_if_pos (by rw [decide_eq_true e]; rfl) (wpAny_pure (yes (List.mem_map.mpr ⟨p, pm, e⟩)))
        · refine wp_if_neg (by rw [decide_eq_false e]; decide) ?_
          have sl : t.slot (way t.mask (k.hash w) (c + d)) = .live i := slot_live Z.tab.ris di
          rw [sameMemN]
          dsimp only
          rw [if_pos rfl, sl]
          dsimp only
          rw [Z.at ep]
          dsimp only [kept]
          refine wpAny_bind (wpAny_isSame_ref_self (wpAny_bind (wpAny_pure ?_)))
          rw [if_pos rfl]
          dsimp only
          refine wp_if_neg (by rw [decide_eq_false e]; decide) (ih (c + (d + 1)) _ rfl (by omega) (by omega) fun i0 p0 h0 e0 => ?_)
          obtain ⟨d0, b1, b2, b3⟩ := ahead i0 p0 h0 e0
          refine ⟨d0, ?_, b2, b3⟩
          rcases Nat.lt_trichotomy d0 (c + d) with z | z | z
          · refine absurd ((hAt i0 p0 h0).trans (congrArg (NestedKey.hash w) e0)) (dn (d0 - c) i0 (by omega) ?_)
            rw [stp_add, stp_j, show c + (d0 - c) = d0 by omega]
            exact b3
          · rw [z] at b3
            have := slot_live Z.tab.ris b3
            rw [sl] at this
            injection this with this
            rw [← this, ep] at h0
            cases h0
            exact absurd e0 e
          · omega
      by_cases ld : t.led = true
      · exact wp_if_neg (by rw [ld]; decide) go
      · refine wp_if_pos (by rw [Bool.eq_false_iff.mpr ld]; rfl) (wpAny_bind (seenN kx (fun y hy => ?_) ?_))
        · obtain ⟨e, he, rfl⟩ := List.mem_map.mp hy
          have he : e ∈ es := by
            have := Array.mem_toList_iff.mp he
            exact (Array.mem_filter.mp this).1
          have he := Array.mem_toList_iff.mpr he
          rw [Z.rows] at he
          obtain ⟨p2, hp2, rfl⟩ := List.mem_map.mp he
          exact ⟨p2.2, p2.1, rfl, Z.key p2 hp2⟩
        · rw [if_neg Bool.false_ne_true]
          exact go
    · have pr : t.probe (fun i => (es[i]?.map (·.1)).getD 0) (k.hash w) (st.getD (t.probeStart (k.hash w))) = some (.empty (way t.mask (k.hash w) K) none) := by
        rw [est, show way t.mask (k.hash w) K = (nth t.mask (stp t (k.hash w) c) (K - c)).j by rw [stp_add, show c + (K - c) = K by omega, stp_j]]
        exact dp
      rw [pr]
      refine wpAny_pure (no fun km => ?_)
      obtain ⟨p0, pm, e0⟩ := List.mem_map.mp km
      obtain ⟨i0, h0⟩ := List.mem_iff_getElem?.mp pm
      obtain ⟨d0, b1, b2, b3⟩ := ahead i0 p0 h0 e0
      refine dn (d0 - c) i0 (by omega) ?_ ((hAt i0 p0 h0).trans (congrArg (NestedKey.hash w) e0))
      rw [stp_add, stp_j, show c + (d0 - c) = d0 by omega]
      exact b3
end
end My

set_option Elab.async false
set_option linter.all false
set_option maxRecDepth 100000
set_option maxHeartbeats 4000000
namespace My
open PySem PySem.Spec PyProof.Rows L2 PySem.SeqAt
section
variable {P : Program} {w : World} {A : Around} {E : Value → Shared → Prop} {s : Shared} {a : Addr} {M : List Ent} {es : Array (Int × Value)} {ep : Nat} {t : SetTable}
theorem lookN (Z : SetN w s.heap a M es ep t) {x : Addr} {k : NestedKey} (kx : KeyAt s.heap k x) (un : A.units + 8 < cLine) {Q : SetFound → Shared → Prop} (yes : k ∈ M.map (·.2) → Q (.there none) s)
    (no : ∀ K, k ∉ M.map (·.2) → way t.mask (k.hash w) K ∉ t.place.toList → (∀ c, c < K → way t.mask (k.hash w) c ∈ t.place.toList) → Q (.free (way t.mask (k.hash w) K) false) s) : wpAny (model P w) A (setSearch a (.ref x) (k.hash w) true) Q E s := by
  have l3 := Z.room
  obtain ⟨K, Kf, Ke, Kb⟩ := Z.tab.first (by rw [List.length_map]; omega) (k.hash w)
  have small : K < 100000 := by
    have : 10 * SetTable.turns t.mask ≤ 1420 := by
      rcases Z.tab.mok with e | e | e <;> rw [e] <;> decide
    omega
  refine findN Z kx un Kf Ke Kb yes (fun n => no K n Ke Kb) 100000 0 none rfl (Nat.zero_le _) (by omega) fun i p e1 e2 => ?_
  have a2 := Z.tab.sz
  rw [List.length_map] at a2
  have il : i < t.place.toList.length := by
    have := (List.getElem?_eq_some_iff.mp e1).1
    rw [Array.length_toList]
    omega
  have ej := List.getElem?_eq_getElem il
  obtain ⟨c, lc, e⟩ := Z.tab.before Ke (i := i) (by rw [List.getElem?_map, e1]; show some (hsh w p) = _; rw [hsh, e2]) ej
  exact ⟨c, Nat.zero_le _, lc, by rw [ej, e]⟩
theorem picks (Me : ∀ (i : Nat) (p : Ent), M[i]? = some p → es[i]? = some (kept w p)) : ∀ l : List Nat, (∀ i ∈ l, i < M.length) →
    l.filterMap (fun i => es[i]?) = (l.filterMap fun i => M[i]?).map (kept w) ∧ (l.filterMap fun i => M[i]?).map (hsh w) = l.map fun i => (es.map (·.1)).getD i 0
  | [], _ => ⟨rfl, rfl⟩
  | i :: l, h => by
    obtain ⟨h1, h2⟩ := picks Me l fun j hj => h j (.tail _ hj)
    obtain ⟨p, ep⟩ : ∃ p, M[i]? = some p := ⟨_, List.getElem?_eq_getElem (h i (.head _))⟩
    have ee := Me i p ep
    rw [List.filterMap_cons_some ee, List.filterMap_cons_some ep, List.map_cons, List.map_cons, List.map_cons, h1, h2]
    refine ⟨rfl, ?_⟩
    congr 1
    rw [Array.getD_eq_getD_getElem?, Array.getElem?_map, ee]
    rfl
theorem range_picks {α : Type} (M : List α) : ∀ n, n ≤ M.length → (List.range n).filterMap (fun i => M[i]?) = M.take n
  | 0, _ => rfl
  | n + 1, h => by
    have e := List.getElem?_eq_getElem (show n < M.length from h)
    rw [List.range_succ, List.filterMap_append, range_picks M n (by omega), List.filterMap_cons_some e, List.filterMap_nil, List.take_add_one, e]
    rfl
/-- all but the set stays -/
theorem KeyAt.but {h h' : Heap} {k : NestedKey} {b : Addr} {o : Obj} (x : KeyAt h k b) (g1 : h.get? a = some o) (g3 : o.data = .set es ep t) (sb : Heap.SameBut a h h') : KeyAt h' k b := x.stay fun c u vs n e d => (sb.2 c fun z => by
  rw [z, g1] at e
  cases e
  rw [g3] at d
  cases d).trans e
/-- the table laid anew -/
theorem relayN {o : Obj} (g1 : s.heap.get? a = some o) (g2 : o.ExactSet) (g3 : o.data = .set es ep t) (rows : es.toList = M.map (kept w)) (ft : t.fits es.size = true) (nd : (M.map (·.2)).Nodup) (key : ∀ p ∈ M, KeyAt s.heap p.2 p.1)
    (led : w.params.followText "set-order" = true ∨ t.led = true) {n N : Nat} (e1 : SetTable.sizeAbove n - 1 = N) (e2 : MaskOk N) (e3 : SetTable.sizeAbove n ≤ 128) (room : M.length * 5 < N * 3) {Q : Unit → Shared → Prop}
    (q : ∀ h' M' es' ep' t', Heap.SameBut a s.heap h' → SetN w h' a M' es' ep' t' → M'.Perm M → Q () { s with heap := h' }) : wpAny (model P w) A (setRelay a n) Q E s := by
  have sz : es.size = M.length := by rw [← Array.length_toList, rows, List.length_map]
  have Me : ∀ (i : Nat) (p : Ent), M[i]? = some p → es[i]? = some (kept w p) := fun i p e => by
    rw [← Array.getElem?_toList, rows, List.getElem?_map, e]
    rfl
  obtain ⟨t', ord, er, pm, tb, em, el, _, _⟩ := relaid_ok t (hs := es.map (·.1)) (wanted := n) e1 e2 (by rw [Array.size_map]; omega)
  rw [Array.size_map, sz] at pm
  obtain ⟨p1, p2⟩ := picks Me ord.toList fun i hi => List.mem_range.mp (pm.mem_iff.mp hi)
  have pM : (ord.toList.filterMap fun i => M[i]?).Perm M := by
    have := pm.filterMap fun i => M[i]?
    rw [range_picks M _ (Nat.le_refl _), List.take_length] at this
    exact this
  rw [← p2] at tb
  have re : (ord.filterMap (es[·]?)).toList = (ord.toList.filterMap fun i => M[i]?).map (kept w) := by
    rw [Array.toList_filterMap]
    exact p1
  generalize ord.toList.filterMap (fun i => M[i]?) = M' at tb pM re
  have s2 : (ord.filterMap (es[·]?)).size = es.size := by rw [← Array.length_toList, re, List.length_map, pM.length_eq, sz]
  rw [setRelay_eq]
  refine wpAny_bind (wpAny_setState_of g1 g3 ft ?_)
  dsimp only
  refine wp_if_neg (by rw [sizeLine_eq]; omega) ?_
  rw [er]
  refine wpAny_bind (wp_if_neg (by rw [s2]; simp) (wpAny_pure ?_))
  refine wpAny_storeSet_of g1 g3 ?_ (by rw [s2, sz, sizeLine_eq]; rcases e2 with z | z | z <;> omega)
  have sb : Heap.SameBut a s.heap (s.heap.update a (Obj.putSet (ord.filterMap (es[·]?)) t')) := Heap.SameBut.update ..
  refine q _ M' _ (ep + 1) t' sb ⟨⟨_, store_at g1 g3, ⟨g2.1, g2.2.1, g2.2.2⟩, rfl⟩, re, tb, (pM.map (·.2)).nodup_iff.mpr nd, fun p hp => (key p (pM.mem_iff.mp hp)).but g1 g3 sb, by rw [el]; exact led, ?_⟩ pM
  rw [pM.length_eq, em]
  exact room
theorem tab_plain {hs : List Int} (T : TabOk t hs) (b : Bool) : TabOk (if b = true then t else { t with plain := false }) hs := by
  cases b
  · exact ⟨T.ris, T.dm, T.sz, T.mok, T.bd, T.reach⟩
  · exact T
theorem pl_mask (b : Bool) : (if b = true then t else { t with plain := false }).mask = t.mask := by cases b <;> rfl
theorem pl_led (b : Bool) : (if b = true then t else { t with plain := false }).led = t.led := by cases b <;> rfl
theorem pl_fill (b : Bool) : (if b = true then t else { t with plain := false }).fill = t.fill := by cases b <;> rfl
theorem put_in (M : List Ent) (p : Nat) (e : Ent) : (M.take p ++ e :: M.drop p).Perm (e :: M) := by
  have h : (M.take p ++ e :: M.drop p).Perm (e :: (M.take p ++ M.drop p)) := List.perm_middle
  rw [List.take_append_drop] at h
  exact h
/-- a tuple is added -/
theorem addN (Z : SetN w s.heap a M es ep t) {x : Addr} {k : NestedKey} (kx : KeyAt s.heap k x) (un : A.units + 8 < cLine) (few : M.length < 76) {Q : Bool → Shared → Prop}
    (q : ∀ b h' M' es' ep' t', Heap.SameBut a s.heap h' → SetN w h' a M' es' ep' t' → (k ∈ M.map (·.2) → M' = M) → (k ∉ M.map (·.2) → M'.Perm ((x, k) :: M)) → Q b { s with heap := h' }) :
    wpAny (model P w) A (setAddHashed a (.ref x) (k.hash w)) Q E s := by
  obtain ⟨o, g1, g2, g3⟩ := Z.ob
  have sz := Z.size
  have l3 := Z.room
  unfold setAddHashed
  refine wpAny_holding ?_
  rw [show (100000 : Nat) = 99999 + 1 from rfl, setAddHashedIn_succ]
  refine wpAny_bind (wpAny_setState_of g1 g3 Z.fits ?_)
  dsimp only
  refine wp_if_neg (by simp [byScan, Value.scannable]) (wpAny_bind (lookN Z kx un (fun km => ?_) fun K kn Ke Kb => ?_))
  · exact wpAny_pure (q false s.heap M es ep t (Heap.SameBut.refl a s.heap) Z (fun _ => rfl) fun z => absurd km z)
  · refine wpAny_bind (wpAny_setState_of g1 g3 Z.fits ?_)
    dsimp only
    obtain ⟨q1, q2, q3, q4, q5, q6, q7, q8, q9⟩ := Z.tab.put Ke Kb
    generalize t.put (way t.mask (k.hash w) K) = pt at q1 q3 q4 q5 q6 q7 q8 q9 ⊢
    obtain ⟨t1, pl⟩ := pt
    dsimp only at q1 q3 q4 q5 q6 q7 q8 q9 ⊢
    subst q1
    have fin : ∀ b : Bool, wpAny (model P w) A (do
        storeSet a (SetTable.insertAt es (SetTable.below t.place (way t.mask (k.hash w) K)) (k.hash w, Value.ref x)) (if b = true then t1 else { t1 with plain := false })
        if (!false && (if b = true then t1 else { t1 with plain := false }).tooFull) = true then do
          setRelay a (SetTable.grown (es.size + 1))
          pure true
        else pure true) Q E s := fun b => by
      have r1 := tab_plain q3 b
      have r2 := (pl_mask (t := t1) b).trans q4
      have r3 := (pl_led (t := t1) b).trans q5
      have r4 := (pl_fill (t := t1) b).trans q9
      generalize (if b = true then t1 else { t1 with plain := false }) = t2 at r1 r2 r3 r4 ⊢
      generalize SetTable.below t.place (way t.mask (k.hash w) K) = pp at q2 r1 ⊢
      have pm := put_in M pp (x, k)
      have ins : (SetTable.insertAt es pp (k.hash w, Value.ref x)).toList = (M.take pp ++ (x, k) :: M.drop pp).map (kept w) := by
        rw [SetTable.toList_insertAt, Z.rows, List.map_append, List.map_cons, List.map_take, List.map_drop]
        rfl
      have r1 : TabOk t2 ((M.take pp ++ (x, k) :: M.drop pp).map (hsh w)) := by
        rw [List.map_append, List.map_cons, List.map_take, List.map_drop]
        exact r1
      generalize M.take pp ++ (x, k) :: M.drop pp = M1 at pm ins r1
      have ln : M1.length = M.length + 1 := pm.length_eq
      have s1 : (SetTable.insertAt es pp (k.hash w, Value.ref x)).size = M.length + 1 := by rw [← Array.length_toList, ins, List.length_map, ln]
      generalize SetTable.insertAt es pp (k.hash w, Value.ref x) = es1 at ins s1 ⊢
      have nd : (M1.map (·.2)).Nodup := by
        refine (pm.map (·.2)).nodup_iff.mpr ?_
        rw [List.map_cons]
        exact List.nodup_cons.mpr ⟨kn, Z.nd⟩
      refine wpAny_bind (wpAny_storeSet_of g1 g3 ?_ (by rw [s1, sizeLine_eq]; omega))
      have sb : Heap.SameBut a s.heap (s.heap.update a (Obj.putSet es1 t2)) := Heap.SameBut.update ..
      have gg := store_at (es' := es1) (t' := t2) g1 g3
      generalize s.heap.update a (Obj.putSet es1 t2) = h1 at sb gg ⊢
      have key : ∀ p ∈ M1, KeyAt h1 p.2 p.1 := fun p hp => by
        rcases List.mem_cons.mp (pm.mem_iff.mp hp) with e | hp
        · rw [e]; exact kx.but g1 g3 sb
        · exact (Z.key p hp).but g1 g3 sb
      have led : w.params.followText "set-order" = true ∨ t2.led = true := by rw [r3]; exact Z.led
      rw [List.length_map] at r4
      have tz := r1.sz
      rw [List.length_map, ln] at tz
      by_cases fu : t2.tooFull = true
      · have fu2 : (M.length + 1) * 5 ≥ t.mask * 3 := by
          unfold SetTable.tooFull at fu
          rw [decide_eq_true_eq, r4, r2] at fu
          exact fu
        refine wp_if_pos (by rw [fu]; rfl) (wpAny_bind ?_)
        rw [sz]
        have ft : t2.fits es1.size = true := fits_of (by omega) r1.dm (by rw [s1, r2]; rcases Z.tab.mok with e | e | e <;> rw [e] at l3 fu2 ⊢ <;> omega)
        have go : ∀ N, SetTable.sizeAbove (SetTable.grown (M.length + 1)) - 1 = N → MaskOk N → SetTable.sizeAbove (SetTable.grown (M.length + 1)) ≤ 128 → (M.length + 1) * 5 < N * 3 →
            wpAny (model P w) A (setRelay a (SetTable.grown (M.length + 1))) (fun _ now => wpAny (model P w) A (pure true) Q E now) E { s with heap := h1 } := fun N n1 n2 n3 n4 =>
          relayN (s := { s with heap := h1 }) gg ⟨g2.1, g2.2.1, g2.2.2⟩ rfl ins ft nd key led n1 n2 n3 (by rw [ln]; exact n4) fun h2 M2 es2 ep2 t3 sb2 Z2 pm2 => wpAny_pure (q true h2 M2 es2 ep2 t3 (sb.trans sb2) Z2 (fun z => absurd z kn) fun _ => pm2.trans pm)
        rcases Z.tab.mok with e | e | e
        · have e2 : M.length = 4 := by rw [e] at l3 fu2; omega
          exact go 31 (by rw [e2, size_20]) (.inr (.inl rfl)) (by rw [e2, size_20]; decide) (by omega)
        · have e2 : M.length = 18 := by rw [e] at l3 fu2; omega
          exact go 127 (by rw [e2, size_76]) (.inr (.inr rfl)) (by rw [e2, size_76]; decide) (by omega)
        · rw [e] at fu2; omega
      · refine wp_if_neg (by rw [Bool.eq_false_iff.mpr fu]; decide) (wpAny_pure (q true h1 M1 es1 (ep + 1) t2 sb ⟨⟨_, gg, ⟨g2.1, g2.2.1, g2.2.2⟩, rfl⟩, ins, r1, nd, key, led, ?_⟩ (fun z => absurd z kn) fun _ => pm))
        unfold SetTable.tooFull at fu
        rw [decide_eq_true_eq, r4] at fu
        rw [ln]
        omega
    by_cases e : t1.plain = true
    · exact wp_if_pos e (wpAny_bind (hashTold k _ 8 s kx.1 kx.2 _ _ _ fun b => fin b))
    · exact wp_if_neg e (wpAny_bind (wpAny_pure (fin true)))
end
end My

set_option Elab.async false
set_option linter.all false
set_option maxRecDepth 100000
set_option maxHeartbeats 4000000
/-! set(xs) of a list, by any word T i h of what the set is behind i items. -/
namespace My
open PySem PySem.Spec PyProof.Rows L2 PySem.SeqAt
section
variable {P : Program} {w : World} {A : Around} {E : Value → Shared → Prop} {s : Shared}
/-- what adding the items asks -/
structure Adds (P : Program) (w : World) (A : Around) (S : Addr) (wr : List Addr) (n : Nat) (Pv : Nat → Value → Prop) (T : Nat → Heap → Prop) : Prop where
  stay : ∀ i h h', T i h → (∀ b o, b ∉ wr → h.get? b = some o → h'.get? b = some o) → T i h'
  add : ∀ (i : Nat) (v : Value) (s : Shared) (Q : Bool → Shared → Prop) (E : Value → Shared → Prop), i < n → Pv i v → T i s.heap → (∀ b h' tk, T (i + 1) h' → s.toks ≤ tk → Heap.SameBut S s.heap h' → Q b { s with heap := h', toks := tk }) → wpAny (model P w) A (setAdd S v) Q E s
theorem updateG {I : Addr} {fp wr : List Addr} {G : Array GenState → Array GenState → Prop} {n : Nat} {Pv : Nat → Value → Prop} {St : Nat → Shared → Prop} {R : Result → Shared → Prop} {S : Addr} {T : Nat → Heap → Prop}
    (W : WalksS P w A.in1 I fp wr G n Pv St) (nf : S ∉ fp) (D : Adds P w A.in1 S wr n Pv T) : ∀ (k i : Nat) (s : Shared), n - i = k → i ≤ n → St i s → T i s.heap → (∀ s', Moved (S :: wr) G s s' → T n s'.heap → R (.ok (.ret .none)) s') →
      codeAny (model P w) A (.builtin "set.update.loop" ⟨[.ref S, .ref I], []⟩) R s := by
  have up : ∀ b ∈ wr, b ∈ S :: wr := fun b hb => .tail _ hb
  intro k
  induction k with
  | zero =>
    intro i s e l st ti q
    obtain rfl : i = n := by omega
    refine codeAny_builtin PyProof.Rows.F.entry_set_update_loop ?_
    rw [Around.under_plainId PyProof.Rows.F.plain_set_update_loop _]
    refine (?_ : wpAny _ A.in1 (pyNext (.ref I) >>= _) _ _ s)
    exact wpAny_bind (W.done s _ _ st fun s' m => wpAny_pure (q s' (m.mono up) (D.stay _ _ _ ti fun b o nb e => m.heap b o nb e)))
  | succ k ih =>
    intro i s e l st ti q
    have lt : i < n := by omega
    refine codeAny_builtin PyProof.Rows.F.entry_set_update_loop ?_
    rw [Around.under_plainId PyProof.Rows.F.plain_set_update_loop _]
    refine (?_ : wpAny _ A.in1 (pyNext (.ref I) >>= _) _ _ s)
    refine wpAny_bind (W.item i s _ _ lt st fun v s1 pv st1 m => ?_)
    refine (?_ : wpAny _ A.in1 (holding [v] (setAdd S v) >>= _) _ _ s1)
    refine wpAny_bind (wpAny_holding (D.add i v s1 _ _ lt pv (D.stay _ _ _ ti fun b o nb e => m.heap b o nb e) fun b h2 tk t2 ltk sb => ?_))
    refine wpAny_pure ⟨plainId_quiet PyProof.Rows.F.plain_set_update_loop _, ih (i + 1) _ (by omega) lt (W.frame _ s1 _ _ st1 ltk fun c hc o e => ?_) t2 fun s3 m3 t3 => ?_⟩
    · rw [sb.2 c (fun z => nf (by rw [← z]; exact hc))]; exact e
    · refine q s3 (Moved.trans W.gtrans ((m.mono up).then_heap ltk fun c o hc e => ?_) m3) t3
      rw [sb.2 c (fun z => hc (by rw [z]; exact .head _))]; exact e
/-- a set made new -/
def freshSet (w : World) : Obj := { cls := .type "set", dict := none, data := .set #[] 0 (.fresh 0 0 (!w.params.followText "set-order")) }
theorem callG {l : Addr} {items : Array Value} {Q : Value → Shared → Prop} {T : Nat → Heap → Prop} (hh : A.handled = none) (hl : s.heap.IsList l items)
    (D : Adds P w A.in1.in1.in1 s.heap.objs.size [s.heap.objs.size + 1] items.size (fun i v => items[i]? = some v) T)
    (t0 : ∀ h : Heap, h.get? s.heap.objs.size = some (freshSet w) → (∀ b o, s.heap.get? b = some o → h.get? b = some o) → T 0 h)
    (q : ∀ (h' : Heap) (tk : Nat), T items.size h' → (∀ b o, s.heap.get? b = some o → h'.get? b = some o) → Q (.ref s.heap.objs.size) { s with heap := h', toks := tk }) :
    wpAny (model P w) A (call (.type "set") [.ref l]) Q E s := by
  obtain ⟨c, tl, f1⟩ := PySem.F.called_set.mro
  have f2 := PySem.F.called_set.made
  have f3 := PySem.F.called_set.sub
  refine wpAny_call (codeAny_of_tree (?_ : wpAny _ _ (callAny (.type "set") _) _ _ _))
  refine wpAny_pure ⟨Code.quiet_builtin _ (by decide +kernel), codeAny_builtin PySem.F.entry_type_call ?_⟩
  rw [Around.under_plain (weight_type_call_type "set" [.ref l] []) rfl]
  have f4 := PySem.F.called_set.notType
  have f5 := PySem.F.called_set.canCreate
  have f6 := F.typeCall_set_1 (.ref l)
  repeat (any_goals (first | assumption | wp_step))
  refine codeAny_mono (code_set_led1 (.ref l) (E := E) (Q₁ := fun v now => v = .ref s.heap.objs.size ∧ now = { s with heap := s.heap.push (freshSet w) }) ⟨rfl, rfl⟩) fun r now hr => ?_
  match r, hr with
  | .error e, hr => exact hr
  | .ok (.ret v), hr =>
    obtain ⟨rfl, rfl⟩ := hr
    have hS : (s.heap.push (freshSet w)).get? s.heap.objs.size = some (freshSet w) := Heap.get?_push_size _ rfl
    have hT : Shared.TypeIs { s with heap := s.heap.push (freshSet w) } (.ref s.heap.objs.size) "set" := ⟨_, hS, rfl⟩
    have f7 := F.called_set.init.lookup
    have f8 := F.called_set.init.bind (.ref s.heap.objs.size)
    repeat (any_goals (first | assumption | wp_step))
    refine codeAny_mono (codeAny_call_builtin (R := wants (fun r s₂ => r = .none ∧ ∃ h' tk, s₂ = { s with heap := h', toks := tk } ∧ T items.size h' ∧ ∀ b o, s.heap.get? b = some o → h'.get? b = some o) E) F.called_set.init.plain F.entry_set_init (check_set_init_1 hT ?_)) fun r₂ s₂ hr₂ => ?_
    · obtain ⟨⟨ocls, odict, odata, oslots⟩, o1, o2, nl, o3⟩ := hl
      simp only at o2 o3
      subst o2 o3
      have o4 : (s.heap.push (freshSet w)).get? l = some { cls := .type "list", dict := odict, data := .seq items nl, slots := oslots } := Heap.get?_push_of_some _ o1
      have f9 := F.sub_list_set
      have f10 := F.sub_list_frozenset
      have f11 : (Value.type "list" == Value.type "dict") = false := by decide
      have hl1 : (s.heap.push (freshSet w)).IsList l items := ⟨_, o4, rfl, nl, rfl⟩
      have lS : l < s.heap.objs.size := Heap.lt_size o1
      have z1 : (s.heap.push (freshSet w)).objs.size = s.heap.objs.size + 1 := Heap.size_push ..
      unfold Builtin.«set.__init__» noKeywords Builtin.Frozenset.updateFrom
      generalize hPI : pyIter = PI
      wp_walk
      subst hPI
      refine wpAny_pyIter_list hl1 (wpAny_bind (wpAny_runValue ?_))
      have ne1 : l ≠ (s.heap.push (freshSet w)).objs.size := by rw [z1]; exact Nat.ne_of_lt (Nat.lt_succ_of_lt lS)
      have D2 := D
      rw [← z1] at D2
      refine updateG ((Walks.list (by simp [hh]) _ l ne1 items).toS) (S := s.heap.objs.size) (by rw [z1]; simp only [List.mem_cons, List.not_mem_nil, or_false, not_or]; exact ⟨Nat.ne_of_lt (Nat.lt_succ_self _), (Nat.ne_of_lt lS).symm⟩) D2 (items.size - 0) 0 _ rfl (Nat.zero_le _) ⟨⟨_, Heap.get?_push_size _ rfl, rfl, rfl⟩, hl1.push _⟩ (t0 _ (Heap.get?_push_of_some _ hS) fun b o e => Heap.get?_push_of_some _ (Heap.get?_push_of_some _ e)) fun s' m t1 => ?_
      obtain ⟨h', g', d', tk', os'⟩ := s'
      have eg : g' = s.gens := m.gens
      have ed : d' = s.drawn := m.drawn
      have eo : os' = s.os := m.os
      subst eg ed eo
      refine wpAny_pure (wpAny_pure ⟨rfl, h', tk', rfl, t1, fun b o e => ?_⟩)
      have lt := Heap.lt_size e
      refine m.heap b o ?_ (Heap.get?_push_of_some _ (Heap.get?_push_of_some _ e))
      rw [z1]
      simp only [List.mem_cons, List.not_mem_nil, or_false, not_or]
      exact ⟨Nat.ne_of_lt lt, Nat.ne_of_lt (Nat.lt_succ_of_lt lt)⟩
    · match r₂, hr₂ with
      | .error e, hr₂ => exact hr₂
      | .ok (.ret r), hr₂ =>
        obtain ⟨rfl, h', tk, rfl, t1, kp⟩ := hr₂
        repeat (any_goals (first | assumption | wp_step))
        exact q _ _ t1 kp
end
end My

set_option Elab.async false
set_option linter.all false
set_option maxRecDepth 100000
set_option maxHeartbeats 4000000
/-! sorted(xs) of tuples whose first places are texts. -/
namespace My
open PySem PySem.Spec PyProof.Rows L2 PySem.SeqAt PySem.W
section
variable {prog : Program} {w : World} {A : Around} {E : Value → Shared → Prop} {s : Shared}
theorem one_ltT {f : Bool} {x y : NestedKey} {a b : Value} {c : Bool} {n : Nat} {Q : Bool → Shared → Prop} (tx : f = true → ∃ z, x = .text z) (p : Ns s.heap x a) (q : Ns s.heap y b) (e : ltK x y = some c) (hd : x.depth ≤ n) (hu : A.units + n < cLine) (hq : Q c s) :
    wpAny (model prog w) A (oneLt' f a b) Q E s := by
  cases f with
  | false => exact one_ltN (fun z => by cases z) p q e hd hu hq
  | true =>
    obtain ⟨z, rfl⟩ := tx rfl
    cases p
    cases q with
    | text z' u =>
      rw [ltK] at e
      cases e
      exact oneLt_str hq
    | _ => simp [ltK] at e
theorem katLexT {fin : Bool} {n : Nat} {Q : Bool → Shared → Prop} {x y : NestedKey} {xs ys : List NestedKey} {a b : Value} {us vs : List Value} {c : Bool} (p : Ns s.heap x a) (ps : NsAll s.heap xs us) (q : Ns s.heap y b) (qs : NsAll s.heap ys vs) (tx : ∃ z, x = .text z)
    (e : ltAll (x :: xs) (y :: ys) = some c) (hd : ∀ z ∈ x :: xs, z.depth ≤ n) (hu : A.units + n < cLine) (hf : fin = decide ((a :: us).length < (b :: vs).length)) (hq : Q c s) : KatLex prog w A true fin Q ((a :: us).zip (b :: vs)) 0 s := by
  rw [List.zip_cons_cons]
  have dx := hd x (.head _)
  refine kat_cons (eqAt_key x y A s _ _ p.is q.is (by omega) prog w _ _ ?_)
  rw [← NestedKey.decide_eq]
  rw [ltAll] at e
  by_cases h : x = y
  · rw [if_pos h] at e
    rw [decide_eq_true h]
    exact kat_yes (katLexN xs ys 1 _ _ c ps qs e (fun z hz => hd z (.tail _ hz)) hu (fun _ hi => absurd hi (by decide)) (by rw [hf]; simp) hq)
  · rw [if_neg h] at e
    rw [decide_eq_false h]
    exact kat_no (one_ltT (n := n) (fun _ => tx) p q e dx hu hq)
theorem each_text {h : Heap} : ∀ {vs : List Value} {ks : List NestedKey}, EachIs (fun v k => Ns h k v) vs ks → (∀ k ∈ ks, ∃ z r, k = .tup (.text z :: r)) → ∃ fs, KatTups h vs fs ∧ fs.length = vs.length ∧ ∀ f ∈ fs, ∃ z t, f = Value.str z t
  | _, _, .nil, _ => ⟨[], KatTups.nil, rfl, fun f hf => by cases hf⟩
  | _, _, .cons (b := k) p t, hk => by
    obtain ⟨fs, h1, h2, h3⟩ := each_text t fun k hk2 => hk k (.tail _ hk2)
    obtain ⟨z, r, rfl⟩ := hk k (.head _)
    cases p with
    | @tup a o vs n _ ho hc hd hr =>
      cases q : vs.toList with
      | nil => rw [q] at hr; cases hr
      | cons f fr =>
        rw [q] at hr
        cases hr with
        | cons p1 p2 =>
          obtain ⟨u, rfl⟩ : ∃ u, f = Value.str z u := by cases p1; exact ⟨_, rfl⟩
          refine ⟨_ :: fs, KatTups.cons ho hc hd (by rw [← Array.getElem?_toList, q]; rfl) h1, by rw [List.length_cons, List.length_cons, h2], fun g hg => ?_⟩
          rcases List.mem_cons.mp hg with rfl | hg
          · exact ⟨_, _, rfl⟩
          · exact h3 g hg
theorem sortsT {vs : List Value} {ks : List NestedKey} {n : Nat} (e : EachIs (fun v k => Ns s.heap k v) vs ks) (hh : ∀ k ∈ ks, ∃ z r, k = .tup (.text z :: r)) (hc : ∀ k ∈ ks, ∀ k' ∈ ks, ∃ c, ltK k k' = some c) (hd : ∀ k ∈ ks, k.depth ≤ n) (hu : A.units + n < cLine) :
    SortsAt prog w A s (nkKind s.heap ks) vs := by
  refine ⟨fun v hv => ?_, tuples' ((Value.type "str") != Value.type "tuple"), ?_, fun h2 E Q hq => ?_⟩
  · obtain ⟨k, hk, p⟩ := e.left v hv
    exact ⟨_, nk_some hk p⟩
  · intro E x y a b Q ha hb hq
    obtain ⟨k, hk, p, rfl⟩ := nk_inv ha
    obtain ⟨k', hk', p', rfl⟩ := nk_inv hb
    obtain ⟨c, ec⟩ := hc k hk k' hk'
    have dk := hd k hk
    obtain ⟨z, r, rfl⟩ := hh k hk
    obtain ⟨z', r', rfl⟩ := hh k' hk'
    rw [depth_tup] at dk
    rw [ltK] at ec
    have hq : Q (lexT (toks (.tup (.text z :: r))) (toks (.tup (.text z' :: r')))) s := hq
    rw [lex_tup ec] at hq
    cases p with
    | @tup _ _ vs1 _ _ h1 h2 h3 h4 =>
      cases p' with
      | @tup _ _ vs2 _ _ k1 k2 k3 k4 =>
        refine kat_lt h1 h3 k1 k3 ?_
        cases e1 : vs1.toList with
        | nil => rw [e1] at h4; cases h4
        | cons a1 us =>
          cases e2 : vs2.toList with
          | nil => rw [e2] at k4; cases k4
          | cons b1 ws =>
            rw [e1] at h4
            rw [e2] at k4
            cases h4 with
            | cons p1 p2 =>
              cases k4 with
              | cons q1 q2 =>
                refine katLexT (n := n) p1 p2 q1 q2 ⟨z, rfl⟩ ec (fun x hx => ?_) hu ?_ hq
                · have := depth_mem hx
                  omega
                · rw [← e1, ← e2]
                  simp
  · obtain ⟨fs, t1, t2, t3⟩ := each_text e hh
    refine kat_kind (T := Value.type "str") t1 (by omega) (fun f hf => ?_) (beq_self_eq_true _) hq
    obtain ⟨z, t, rfl⟩ := t3 f hf
    exact looks_reads (Reads.str z t)
end
end My

set_option Elab.async false
set_option linter.all false
set_option maxRecDepth 100000
set_option maxHeartbeats 4000000
/-! sorted(xs) of nested tuples. -/
namespace My
open PySem PySem.Spec PyProof.Rows L2 PySem.SeqAt PySem.W
mutual
theorem Ns.stay {h h' : Heap} (g : ∀ b o, h.get? b = some o → o.cls = .type "tuple" → h'.get? b = some o) : ∀ {k : NestedKey} {v : Value}, Ns h k v → Ns h' k v
  | .none, _, .none => .none
  | .num _, _, .int i t => .int i t
  | .text _, _, .text x t => .text x t
  | .tup _, _, .tup e c d r => .tup (g _ _ e c) c d (NsAll.stay g r)
theorem NsAll.stay {h h' : Heap} (g : ∀ b o, h.get? b = some o → o.cls = .type "tuple" → h'.get? b = some o) : ∀ {ks : List NestedKey} {vs : List Value}, NsAll h ks vs → NsAll h' ks vs
  | [], _, .nil => .nil
  | _ :: _, _, .cons a r => .cons (Ns.stay g a) (NsAll.stay g r)
end
/-- what sorting asks of the keys -/
structure Sbl (ks : List NestedKey) : Prop where
  heads : (∀ k ∈ ks, ∃ z r, k = .tup (.text z :: r)) ∨ ∀ k ∈ ks, ∃ i r, k = .tup (.num i :: r)
  cmp : ∀ k ∈ ks, ∀ k' ∈ ks, ∃ c, ltK k k' = some c
  deep : ∀ k ∈ ks, k.depth ≤ 50
theorem each_of {X : Cx} {pins : List (Addr × Obj)} {σ : L2.St} {H : Hp} {s : Shared} (I : Inv X pins σ H s) : ∀ {xs : List V} {ks : List NestedKey} {vs : List Value}, NkAll H xs ks → Vals xs vs → EachIs (fun v k => Ns s.heap k v) vs ks
  | _, _, _, .nil, .nil => .nil
  | _, _, _, .cons a h, .cons r1 r2 => .cons (a.ns I r1) (each_of I h r2)
/-- the items with their keys, sorted -/
def srt (xs : List V) (ks : List NestedKey) : List (V × NestedKey) := (xs.zip ks).mergeSort (leF id)
section
variable {X : Cx} {pins : List (Addr × Obj)} {σ : L2.St} {H : Hp} {s : Shared} {E : Value → Shared → Prop}
theorem sort_tail {xs : List V} {vs : List Value} {ks : List NestedKey} {Q : Value → Shared → Prop} (I : Inv X pins σ H s) (un : X.A.units + 60 < cLine) (rv : Vals xs vs) (nk : NkAll H xs ks) (sb : Sbl ks) (hz : vs.length ≤ sizeLine) (p : Addr) (ep : p = s.heap.objs.size)
    (q : ∀ s', Inv X pins σ (upd H p (.lst ((srt xs ks).map Prod.fst))) s' → Q (.ref p) s') :
    wpAny (model X.prog X.w) X.A.in1 (call (.builtin "list.sort") [.ref p]) (fun _ s' => Q (.ref p) s') E { s with heap := s.heap.push (seqObj "list" vs.toArray 0) } := by
  subst ep
  have ho : (s.heap.push (seqObj "list" vs.toArray 0)).get? s.heap.objs.size = some (seqObj "list" vs.toArray 0) := Heap.get?_push_size _ rfl
  have up : ∀ b o, s.heap.get? b = some o → (s.heap.push (seqObj "list" vs.toArray 0)).get? b = some o := fun b o e => Heap.get?_push_of_some _ e
  have e0 := each_of I nk rv
  have e1 : EachIs (fun v k => Ns (sortingHeap (s.heap.push (seqObj "list" vs.toArray 0)) s.heap.objs.size vs) k v) vs ks := e0.mono fun v k n => n.stay fun b o e _ => sortingHeap_old (Nat.ne_of_lt (Heap.lt_size e)) (up b o e)
  have S : SortsAt X.prog X.w X.A.in1.in1 { s with heap := sortingHeap (s.heap.push (seqObj "list" vs.toArray 0)) s.heap.objs.size vs } (nkKind (sortingHeap (s.heap.push (seqObj "list" vs.toArray 0)) s.heap.objs.size vs) ks) vs := by
    rcases sb.heads with h | h
    · exact sortsT (n := 50) (s := { s with heap := sortingHeap (s.heap.push (seqObj "list" vs.toArray 0)) s.heap.objs.size vs }) e1 h sb.cmp sb.deep (by show X.A.units + 1 + 1 + 50 < cLine; omega)
    · exact sortsN (n := 50) (s := { s with heap := sortingHeap (s.heap.push (seqObj "list" vs.toArray 0)) s.heap.objs.size vs }) e1 h sb.cmp sb.deep (by show X.A.units + 1 + 1 + 50 < cLine; omega)
  refine wpAny_call_entry slot_list_sort ⟨_, ho, rfl⟩ entry_list_sort (list_sort_vals (s := { s with heap := s.heap.push (seqObj "list" vs.toArray 0) }) ho S hz ⟨_, rfl, ?_⟩) (args_list_sort _)
  have lk : xs.length = ks.length := nk.length
  have out := sortVals_each (κ := nkKind (sortingHeap (s.heap.push (seqObj "list" vs.toArray 0)) s.heap.objs.size vs) ks) (rev := false) (R := fun (v : Value) (b : V × NestedKey) => RelV b.1 v) (ks := vs) (vs := vs) (bs := xs.zip ks) (fun b => toks b.2) (zip_each rv lk) (each_snd ((each_mem e1).mono fun v k q => nk_some q.2 q.1) lk)
  have rel : Vals ((srt xs ks).map Prod.fst) (sortVals (nkKind (sortingHeap (s.heap.push (seqObj "list" vs.toArray 0)) s.heap.objs.size vs) ks) false vs vs) := each_vals out
  generalize sortVals (nkKind (sortingHeap (s.heap.push (seqObj "list" vs.toArray 0)) s.heap.objs.size vs) ks) false vs vs = os at rel ⊢
  have lo : ((srt xs ks).map Prod.fst).length ≤ sizeLine := by
    have := rv.length
    rw [List.length_map, srt, List.length_mergeSort, List.length_zip]
    omega
  obtain ⟨c, gc⟩ := sortedHeap_at (vs := vs) (out := os.toArray) ho
  refine q _ (I.laid (t' := s.toks) (fun b o e => ?_) (Nat.le_refl _) ⟨lo, os, c, rel, gc⟩)
  have lt := Heap.lt_size e
  rw [sortedHeap_old (Nat.ne_of_lt lt) (by rw [size_push']; exact Nat.lt_succ_of_lt lt)]
  exact up b o e
/-- sorted(xs), a list -/
def rSortL (K : PySem.W.Frag) : List V → Hp → VK → Prop := fun vs H Q => ∃ (l : Addr) (xs : List V) (ks : List NestedKey), vs = [.ref l] ∧ SqL K H l xs ∧ NkAll H xs ks ∧ Sbl ks ∧ xs.length ≤ 1000 ∧ ∀ p, H p = none → Q (.ref p) (upd H p (.lst ((srt xs ks).map Prod.fst)))
theorem cr_sortL (un : X.A.units + 64 < cLine) : CallR X (.builtin "sorted") (rSortL X.K) := by
  intro pins s σ H vs us Q I r h
  obtain ⟨l, xs, ks, rfl, hl, nk, sb, lx, q⟩ := h
  rw [Vals.ref1 r]
  obtain ⟨its, rv, pl, hz⟩ := I.list hl
  have lv : its.length ≤ sizeLine := by rw [← rv.length, sizeLine_eq]; omega
  refine Calls.call_function_entry kind_sorted plain_sorted entry_sorted (args_sorted1 _) ?_
  unfold Builtin.«sorted»
  refine wpAny_bind (m := checkCount "sorted" 1 1 _) (wpAny_pure (wpAny_bind (collect_list pl.isList ?_ lv)))
  have k1 : ∀ b o, s.heap.get? b = some o → ((s.heap.push (seqObj "list" #[] 0)).update s.heap.objs.size (Obj.mapSeq (· ++ its.toArray))).get? b = some o := fun b o e => by
    have lt := Heap.lt_size e
    rw [Heap.get?_update_ne _ _ _ _ (Nat.ne_of_lt lt)]
    exact Heap.get?_push_of_some _ e
  have I1 : Inv X pins σ H { s with heap := (s.heap.push (seqObj "list" #[] 0)).update s.heap.objs.size (Obj.mapSeq (· ++ its.toArray)), toks := s.toks } := I.kept k1
  have fresh := I1.hok.fresh (Nat.le_refl _)
  refine wpAny_bind (wpAny_newList ?_ lv)
  refine wpAny_bind (wpAny_holding (sort_tail (Q := fun v s' => wpAny (model X.prog X.w) X.A.in1 (ret v) _ _ s') I1 (by omega) rv nk sb lv _ rfl fun s' J => wpAny_pure ⟨_, rfl, .ref _, _, J, rfl, q _ fresh⟩))
end
end My

set_option Elab.async false
set_option linter.all false
set_option maxRecDepth 100000
set_option maxHeartbeats 4000000
/-! set(xs), sorted(set) of nested tuples. -/
namespace My
open PySem PySem.Spec PyProof.Rows L2 PySem.SeqAt PySem.W
/-- the set at a, but for the tuples themselves -/
def SetW (w : World) (h : Heap) (a : Addr) (M : List Ent) : Prop := ∃ (es : Array (Int × Value)) (ep : Nat) (t : SetTable), (∃ o, h.get? a = some o ∧ o.ExactSet ∧ o.data = .set es ep t) ∧ es.toList = M.map (kept w) ∧ TabOk t (M.map (hsh w)) ∧ (M.map (·.2)).Nodup ∧
  (w.params.followText "set-order" = true ∨ t.led = true) ∧ M.length * 5 < t.mask * 3
theorem SetN.w {w : World} {h : Heap} {a : Addr} {M : List Ent} {es : Array (Int × Value)} {ep : Nat} {t : SetTable} (Z : SetN w h a M es ep t) : SetW w h a M := ⟨es, ep, t, Z.ob, Z.rows, Z.tab, Z.nd, Z.led, Z.room⟩
theorem SetW.full {w : World} {h : Heap} {a : Addr} {M : List Ent} (Z : SetW w h a M) (k : ∀ p ∈ M, KeyAt h p.2 p.1) : ∃ es ep t, SetN w h a M es ep t := let ⟨es, ep, t, a, b, c, d, e, f⟩ := Z; ⟨es, ep, t, a, b, c, d, k, e, f⟩
theorem SetW.nd {w : World} {h : Heap} {a : Addr} {M : List Ent} (Z : SetW w h a M) : (M.map (·.2)).Nodup := let ⟨_, _, _, _, _, _, d, _⟩ := Z; d
def SetO (w : World) (a : Addr) (M : List Ent) : HO := .ext fun h => SetW w h a M
theorem setO_new {P : Program} {w : World} {H : Hp} {h : Heap} {a : Addr} {M : List Ent} (Z : SetW w h a M) : ObjOk P w H h a (SetO w a M) := by
  have ⟨es, ep, t, ⟨o, g, r⟩, q⟩ := Z
  refine ⟨Z, ⟨o, g⟩, fun h1 h2 p k => ?_⟩
  have ⟨es', ep', t', ⟨o', g', r'⟩, q'⟩ := (p : SetW w h1 a M)
  exact ⟨es', ep', t', ⟨o', k o' g', r'⟩, q'⟩
/-- what the set has got of the first i items -/
structure Gets (ks : List Ent) (i : Nat) (M : List Ent) : Prop where
  sub : ∀ p ∈ M, p ∈ ks.take i
  all : ∀ p ∈ ks.take i, p.2 ∈ M.map (·.2)
  len : M.length ≤ i
theorem Gets.none (ks : List Ent) : Gets ks 0 [] := ⟨(fun p h => by cases h), (fun p h => by rw [List.take_zero] at h; cases h), Nat.le_refl _⟩
theorem Gets.next {ks M M' : List Ent} {i : Nat} {x : Ent} (g : Gets ks i M) (e : ks[i]? = some x) (c1 : x.2 ∈ M.map (·.2) → M' = M) (c2 : x.2 ∉ M.map (·.2) → M'.Perm (x :: M)) : Gets ks (i + 1) M' := by
  have tk : ks.take (i + 1) = ks.take i ++ [x] := by rw [List.take_add_one, e]; rfl
  by_cases c : x.2 ∈ M.map (·.2)
  · rw [c1 c]
    refine ⟨fun p hp => ?_, fun p hp => ?_, Nat.le_succ_of_le g.len⟩
    · rw [tk]; exact List.mem_append_left _ (g.sub p hp)
    · rw [tk] at hp
      rcases List.mem_append.mp hp with h | h
      · exact g.all p h
      · rw [List.mem_singleton.mp h]; exact c
  · have pm := c2 c
    refine ⟨fun p hp => ?_, fun p hp => ?_, by rw [pm.length_eq]; exact Nat.succ_le_succ g.len⟩
    · rw [tk]
      rcases List.mem_cons.mp (pm.mem_iff.mp hp) with h | h
      · rw [h]; exact List.mem_append_right _ (.head _)
      · exact List.mem_append_left _ (g.sub p h)
    · rw [(pm.map (·.2)).mem_iff, List.map_cons]
      rw [tk] at hp
      rcases List.mem_append.mp hp with h | h
      · exact .tail _ (g.all p h)
      · rw [List.mem_singleton.mp h]; exact .head _
theorem addsN {P : Program} {w : World} {A : Around} {h0 : Heap} {S : Addr} {wr : List Addr} {ks : List Ent} {n : Nat} {Pv : Nat → Value → Prop} (hn : n = ks.length) (few : ks.length ≤ 76) (pv : ∀ i v, Pv i v → ∃ p, ks[i]? = some p ∧ v = .ref p.1) (kk : ∀ p ∈ ks, KeyAt h0 p.2 p.1) (nS : h0.get? S = none)
    (nw : ∀ b ∈ wr, h0.get? b = none) (Sw : S ∉ wr) (un : A.units + 8 < cLine) : Adds P w A S wr n Pv (fun i h => (∃ M es ep t, SetN w h S M es ep t ∧ Gets ks i M) ∧ ∀ b o, h0.get? b = some o → h.get? b = some o) where
  stay := fun i h h' ⟨⟨M, es, ep, t, Z, g⟩, kp⟩ st => by
    have kp' : ∀ b o, h0.get? b = some o → h'.get? b = some o := fun b o e => st b o (fun z => by rw [nw b z] at e; cases e) (kp b o e)
    obtain ⟨o, g1, g2⟩ := Z.ob
    exact ⟨⟨M, es, ep, t, ⟨⟨o, st _ _ Sw g1, g2⟩, Z.rows, Z.tab, Z.nd, fun p hp => (kk p (List.mem_of_mem_take (g.sub p hp))).stay fun b o _ _ e _ => kp' b o e, Z.led, Z.room⟩, g⟩, kp'⟩
  add := fun i v s Q E lt pvi ⟨⟨M, es, ep, t, Z, g⟩, kp⟩ q => by
    obtain ⟨p, ep, rfl⟩ := pv i v pvi
    have kx : KeyAt s.heap p.2 p.1 := (kk p (List.mem_of_getElem? ep)).stay fun b o _ _ e _ => kp b o e
    unfold setAdd
    refine wpAny_holding (wpAny_bind ((nestedKind P w).pyHash un kx ?_))
    refine addN (s := { s with toks := s.toks + p.2.draws }) Z kx un (by have := g.len; omega) fun b h' M' es' ep' t' sb Z' c1 c2 => q b h' _ ⟨⟨M', es', ep', t', Z', g.next ep c1 c2⟩, fun c o e => ?_⟩ (Nat.le_add_right _ _) sb
    exact (sb.2 c (fun z => by rw [z, nS] at e; cases e)).trans (kp c o e)
theorem fresh_set {w : World} {h : Heap} {a : Addr} (g : h.get? a = some (freshSet w)) : SetN w h a [] #[] 0 (.fresh 0 0 (!w.params.followText "set-order")) where
  ob := ⟨_, g, ⟨rfl, rfl, rfl⟩, rfl⟩
  rows := rfl
  tab := ⟨List.Pairwise.nil, rfl, rfl, .inl rfl, (fun x hx => by cases hx), fun i h j hi => by simp at hi⟩
  nd := List.nodup_nil
  key := fun p hp => by cases hp
  led := by
    cases e : w.params.followText "set-order"
    · exact .inr rfl
    · exact .inl rfl
  room := by show 0 * 5 < 7 * 3; decide
theorem vals_ref : ∀ {ks : List Ent} {us : List Value}, Vals (ks.map fun p => V.ref p.1) us → us = ks.map fun p => Value.ref p.1
  | [], _, .nil => rfl
  | p :: ks, _, .cons r t => by cases r; rw [vals_ref t]; rfl
theorem ref_vals : ∀ (ks : List Ent), Vals (ks.map fun p => V.ref p.1) (ks.map fun p => Value.ref p.1)
  | [] => .nil
  | p :: ks => .cons rfl (ref_vals ks)
section
variable {X : Cx}
theorem Nk.keyAt {pins : List (Addr × Obj)} {σ : L2.St} {H : Hp} {s : Shared} (I : Inv X pins σ H s) {k : NestedKey} {a : Addr} (n : Nk H (.ref a) k) (d : k.depth ≤ 8) : KeyAt s.heap k a := ⟨(n.ns I rfl).is, d⟩
/-- set(xs), xs a list of nested tuples -/
def rSetN (K : PySem.W.Frag) (w : World) : List V → Hp → VK → Prop := fun xs H Q => ∃ (l : Addr) (ks : List Ent), xs = [V.ref l] ∧ SqL K H l (ks.map fun p => V.ref p.1) ∧ (∀ p ∈ ks, Nk H (.ref p.1) p.2 ∧ p.2.depth ≤ 8) ∧ ks.length ≤ 76 ∧
  ∀ a M, H a = none → (∀ p ∈ M, p ∈ ks) → (∀ p ∈ ks, p.2 ∈ M.map (·.2)) → (M.map (·.2)).Nodup → Q (.ref a) (upd H a (SetO w a M))
theorem cr_setN (hc : X.calm = true) (hu : X.A.units + 64 < cLine) : CallR X (.type "set") (rSetN X.K X.w) := by
  intro pins s σ H xs us Q I r h
  obtain ⟨l, ks, rfl, hl, hk, few, q⟩ := h
  rw [Vals.ref1 r]
  obtain ⟨its, rv, pl, hz⟩ := I.list hl
  have ei := vals_ref rv
  have non : ∀ b, s.heap.objs.size ≤ b → s.heap.get? b = none := fun b lb => by
    cases e : s.heap.get? b with
    | none => rfl
    | some o => exact absurd (Nat.lt_of_lt_of_le (Heap.lt_size e) lb) (Nat.lt_irrefl _)
  refine callG (P := X.prog) (w := X.w) (items := its.toArray) (I.ok.hd hc) pl.isList (addsN (h0 := s.heap) (ks := ks) (by rw [List.size_toArray, ei, List.length_map]) few (fun i v e => ?_) (fun p hp => (hk p hp).1.keyAt I (hk p hp).2) (non _ (Nat.le_refl _)) (fun b hb => ?_) ?_ (by show X.A.units + 1 + 1 + 1 + 8 < cLine; omega))
    (fun h g kp => ⟨⟨[], _, _, _, fresh_set g, .none ks⟩, kp⟩) fun h' tk t1 kp => ?_
  · rw [List.getElem?_toArray, ei, List.getElem?_map] at e
    cases e2 : ks[i]? with
    | none => rw [e2] at e; cases e
    | some p => rw [e2] at e; exact ⟨p, rfl, (Option.some.inj e).symm⟩
  · rw [List.mem_singleton.mp hb]; exact non _ (Nat.le_succ _)
  · intro z
    exact Nat.ne_of_lt (Nat.lt_succ_self _) (List.mem_singleton.mp z)
  · obtain ⟨⟨M, es, ep, t, Z, g⟩, _⟩ := t1
    rw [List.size_toArray, ei, List.length_map] at g
    refine ⟨.ref s.heap.objs.size, upd H s.heap.objs.size (SetO X.w s.heap.objs.size M), I.laid (t' := tk) kp (Nat.le_refl _) (setO_new Z.w), rfl, q _ M (I.hok.fresh (Nat.le_refl _)) (fun p hp => List.mem_of_mem_take (g.sub p hp)) (fun p hp => g.all p (by rw [List.take_length]; exact hp)) Z.nd⟩
/-- sorted(set) -/
def rSortS (w : World) : List V → Hp → VK → Prop := fun vs H Q => ∃ (a : Addr) (M : List Ent), vs = [V.ref a] ∧ H a = some (SetO w a M) ∧ (∀ p ∈ M, Nk H (.ref p.1) p.2 ∧ p.2.depth ≤ 8) ∧ Sbl (M.map (·.2)) ∧
  ∀ (M' : List Ent) (p : Addr), M'.Perm M → H p = none → Q (.ref p) (upd H p (.lst ((srt (M'.map fun q => V.ref q.1) (M'.map (·.2))).map Prod.fst)))
theorem perm_lift {α β : Type} {f : α → β} {l m : List β} (p : l.Perm m) : ∀ M : List α, m = M.map f → ∃ M' : List α, M'.Perm M ∧ l = M'.map f := by
  induction p with
  | nil =>
    intro M e
    cases M with
    | nil => exact ⟨[], .nil, rfl⟩
    | cons a M => cases e
  | cons x p ih =>
    intro M e
    cases M with
    | nil => cases e
    | cons a M =>
      rw [List.map_cons] at e
      injection e with e1 e2
      obtain ⟨M', pm, rfl⟩ := ih M e2
      exact ⟨a :: M', pm.cons a, by rw [List.map_cons, e1]⟩
  | swap x y l =>
    intro M e
    match M, e with
    | a :: b :: M, e =>
      rw [List.map_cons, List.map_cons] at e
      injection e with e1 e2
      injection e2 with e2 e3
      exact ⟨b :: a :: M, .swap _ _ _, by rw [List.map_cons, List.map_cons, e1, e2, e3]⟩
  | trans p q ih1 ih2 =>
    intro M e
    obtain ⟨M1, p1, e1⟩ := ih2 M e
    obtain ⟨M2, p2, e2⟩ := ih1 M1 e1
    exact ⟨M2, p2.trans p1, e2⟩
theorem nk_ents {H : Hp} : ∀ {M : List Ent}, (∀ p ∈ M, Nk H (.ref p.1) p.2) → NkAll H (M.map fun p => V.ref p.1) (M.map (·.2))
  | [], _ => .nil
  | p :: M, h => .cons (h p (.head _)) (nk_ents fun q hq => h q (.tail _ hq))
theorem cr_sortS (hc : X.calm = true) (hu : X.A.units + 64 < cLine) : CallR X (.builtin "sorted") (rSortS X.w) := by
  intro pins s σ H vs us Q I r h
  obtain ⟨a, M, rfl, ha, hk, sb, q⟩ := h
  rw [Vals.ref1 r]
  obtain ⟨es, ep, t, Z⟩ := SetW.full (I.hok a _ ha).1 fun p hp => (hk p hp).1.keyAt I (hk p hp).2
  obtain ⟨o, g1, g2, g3⟩ := Z.ob
  have sz := Z.size
  have l3 := Z.room
  have lM : M.length ≤ 76 := by rcases Z.tab.mok with e | e | e <;> rw [e] at l3 <;> omega
  refine Calls.call_function_entry kind_sorted plain_sorted entry_sorted (args_sorted1 _) ?_
  unfold Builtin.«sorted»
  refine wpAny_bind (m := checkCount "sorted" 1 1 _) (wpAny_pure (wpAny_bind (collect_set (A := X.A.in1) (I.ok.hd hc) ⟨o, g1, g2.1, g3⟩ Z.fits (by unfold scanBound; omega) Z.tab.ris Z.led fun s1 vs k1 hz e1 e2 pm => ?_)))
  rw [Z.rows, List.map_map] at pm
  obtain ⟨M', pM, rfl⟩ := perm_lift pm M rfl
  have I1 : Inv X pins σ H s1 := I.call' (ch := []) e2 (Un.kept k1) (I.hok.kept k1) (by rw [e1]; exact I.bare) (fun _ z => nomatch z)
  have fresh := I1.hok.fresh (Nat.le_refl _)
  have lv : (M'.map fun q => Value.ref q.1).length ≤ sizeLine := by rw [List.length_map, pM.length_eq, sizeLine_eq]; omega
  have sb' : Sbl (M'.map (·.2)) := ⟨sb.heads.imp (fun h k hk => h k ((pM.map (·.2)).mem_iff.mp hk)) (fun h k hk => h k ((pM.map (·.2)).mem_iff.mp hk)), fun k hk k' hk' => sb.cmp k ((pM.map (·.2)).mem_iff.mp hk) k' ((pM.map (·.2)).mem_iff.mp hk'), fun k hk => sb.deep k ((pM.map (·.2)).mem_iff.mp hk)⟩
  refine wpAny_bind (wpAny_newList ?_ lv)
  refine wpAny_bind (wpAny_holding (sort_tail (Q := fun v s' => wpAny (model X.prog X.w) X.A.in1 (ret v) _ _ s') I1 (by omega) (ref_vals M') (nk_ents fun p hp => (hk p (pM.mem_iff.mp hp)).1) sb' lv _ rfl fun s' J => wpAny_pure ⟨_, rfl, .ref _, _, J, rfl, q M' _ pM fresh⟩))
end
end My

set_option Elab.async false
set_option linter.all false
set_option maxRecDepth 100000
set_option maxHeartbeats 2000000
/-! {x for .. in ..}, x a tuple of numbers, texts and such tuples. -/
namespace My
open PySem PySem.Spec PyProof.Rows L2 PySem.SeqAt PySem.W
section
variable {X : Cx}
/-- D.add(x) -/
theorem add_in {pins : List (Addr × Obj)} {σ : L2.St} {H : Hp} {s : Shared} {E : Value → Shared → Prop} {D a : Addr} {M : List Ent} {k : NestedKey} {Q : Value → Shared → Prop} (hu : X.A.units + 64 < cLine) (I : L2.Inv X pins σ H s) (hD : H D = some (SetO X.w D M))
    (hM : ∀ p ∈ M, Nk H (.ref p.1) p.2 ∧ p.2.depth ≤ 8) (hk : Nk H (.ref a) k) (dk : k.depth ≤ 8) (few : M.length < 76)
    (q : ∀ M' s', (k ∈ M.map (·.2) → M' = M) → (k ∉ M.map (·.2) → M'.Perm ((a, k) :: M)) → L2.Inv X pins σ (upd H D (SetO X.w D M')) s' → Q .none s') : wpAny (model X.prog X.w) X.A (call (.builtin "set.add") [.ref D, .ref a]) Q E s := by
  have Z0 : SetW X.w s.heap D M := (I.hok D _ hD).1
  obtain ⟨es, ep, t, Z⟩ := Z0.full fun p hp => Nk.keyAt I (hM p hp).1 (hM p hp).2
  obtain ⟨o, g1, g2, g3⟩ := Z.ob
  have kx : KeyAt s.heap k a := hk.keyAt I dk
  refine wpAny_call_entry PySem.F.slot_set_add ⟨o, g1, g2.1⟩ PySem.F.entry_set_add ?_ (PySem.F.args_set_add_2 _ _)
  unfold Builtin.«set.add» Builtin.Frozenset.oneOther Builtin.Frozenset.addrOf setAdd
  simp only [List.isEmpty_nil, bind_assoc]
  refine wpAny_bind (wpAny_pure ?_)
  try dsimp only
  refine wpAny_bind (wpAny_pure (wpAny_bind (wpAny_holding (wpAny_bind ((nestedKind X.prog X.w).pyHash (by show X.A.units + 1 + 8 < cLine; omega) kx ?_)))))
  refine addN (s := { s with toks := s.toks + k.draws }) Z kx (by show X.A.units + 1 + 8 < cLine; omega) few fun b h' M' es' ep' t' sb Z' c1 c2 => ?_
  obtain ⟨o', g', _⟩ := Z'.ob
  exact wpAny_pure ⟨_, rfl, q M' _ c1 c2 (I.write (e := D) (t' := s.toks + k.draws) (by rw [hD]; trivial) (.inl rfl) (fun b u hb hu => (sb.2 b hb).trans hu) ⟨o', g'⟩ (setO_new Z'.w))⟩
def ScStep (w : World) (J : It) (g : TG) (tt : TT) (te : TE) (vs : List Nat) (σ : L2.St) (D : Addr) (Qd : Hp → Prop) (W : Nat → Nat → Hp → Prop) (i m : Nat) (H : Hp) : Prop :=
  (J.stop i H ∧ Qd H) ∨ (J.go i H ∧ ∃ Nx : Hp → Prop, (∀ H', Nx H' → ∃ m', m' < m ∧ W (i + 1) m' H') ∧ ∀ x H', J.yld i H x H' →
    g x (wipe σ vs) H' fun σ2 H2 => wipe σ2 vs = wipe σ vs ∧ tt σ2 H2 fun b H3 => if b = true then te σ2 H3 fun y H4 =>
      ∃ a k M, y = .ref a ∧ H4 D = some (SetO w D M) ∧ (∀ p ∈ M, Nk H4 (.ref p.1) p.2 ∧ p.2.depth ≤ 8) ∧ Nk H4 (.ref a) k ∧ k.depth ≤ 8 ∧ M.length < 76 ∧ (∀ M', (k ∈ M.map (·.2) → M' = M) → (k ∉ M.map (·.2) → M'.Perm ((a, k) :: M)) → Nx (upd H4 D (SetO w D M'))) else Nx H3)
def tScN (w : World) (wi : TI) (g : TG) (tt : TT) (te : TE) (vs : List Nat) : TE := fun σ H Q => wi σ H fun J H1 => ∀ D, H1 D = none →
  ∃ W : Nat → Nat → Hp → Prop, (∃ m, W 0 m (upd H1 D (SetO w D []))) ∧ ∀ i m H', W i m H' → ScStep w J g tt te vs σ D (fun H2 => Q (.ref D) H2) W i m H'
theorem scN_core {pins : List (Addr × Obj)} {s : Shared} {σ : L2.St} {H : Hp} {Q : VK} {ex tg iter : Expr} {ifs : List Expr} {scope : Scope} {own : List (Str × Nat)} {pos pos' : Pos} {wi : TI} {g : TG} {tt : TT} {te : TE} {use : Option (Value → Sem Unit)} {Qf : Value → Shared → Prop}
    (hu : X.A.units + 64 < cLine) (calm : X.calm = true) (nd : X.N.Nodup) (I : L2.Inv X pins σ H s) (hi : PI X tg iter wi) (ok : BlkOk X.N X.env.scope scope own)
    (hg : ∀ s H C cl fp, PG (Blk X scope s H C cl fp) tg g) (ht : ∀ s H C cl fp, PTs (Blk X scope s H C cl fp) ifs tt) (he : ∀ s H C cl fp, PE (Blk X scope s H C cl fp) ex te)
    (fold : ∀ x, foldedSetIterable iter X.env x = pure x) (h : tScN X.w wi g tt te (own.map (·.2)) σ H Q)
    (back : ∀ D C s' m H', L2.Inv X pins σ H' s' → Q (.ref D) H' → s'.heap.Ns C m → FpOk X pins H' C → compPost (model X.prog X.w) X.A X.xe use Qf (.ref D) C (.ok .next) s') :
    wpAny (model X.prog X.w) X.A (comprehension (.SetComp ex [⟨tg, iter, ifs, 0⟩] scope pos) scope X.env pos' (newSet (.type "set")) false (eval iter X.env) use) Qf X.xe s := by
  have free : ∀ y ∈ scope.names, y.2 = .free → ∃ c, X.env.cells.lookup y.1 = some c := by
    intro y hy e
    exact (ok.free y hy e).elim (fun k => I.ok.has _ (.inl k)) fun k => I.ok.has _ (.inr k)
  refine wpAny_comprehension_free (use := use) rfl fold (closure_ok free) ok.kind (fun y hy e => by rw [ok.uniq y hy, e]) (thn (hi.run pins s σ H _ I h) fun xv s1 hx => thn hx ?_)
  rintro itv s2 ⟨it, fp, tn, J, H2, rfl, I2, T, st2, f2, q⟩
  refine PpSet.newSet_ok (newEnv_comp ?_)
  obtain ⟨D, hD⟩ : ∃ D, D = s2.heap.objs.size := ⟨_, rfl⟩
  rw [← hD]
  have fresh : H2 D = none := I2.hok.fresh (Nat.le_of_eq hD.symm)
  obtain ⟨W, ⟨m0, w0⟩, turn⟩ := q D fresh
  obtain ⟨s3, hs3⟩ : ∃ s3 : Shared, s3 = { s2 with heap := s2.heap.push (freshSet X.w) } := ⟨_, rfl⟩
  have I3 : L2.Inv X pins σ (upd H2 D (SetO X.w D [])) s3 := by
    rw [hs3]
    refine I2.laid (t' := s2.toks) (fun b o e => Heap.get?_push_of_some _ e) (Nat.le_of_eq hD.symm) ?_
    rw [hD]
    exact setO_new (fresh_set (Heap.get?_push_size _ rfl)).w
  have h3 : s3.heap = s2.heap.push (freshSet X.w) := by rw [hs3]
  have old : ∀ b ∈ fp, b < s2.heap.objs.size := fun b hb => let ⟨o, e, _⟩ := T.obj _ _ st2 b hb; Heap.lt_size e
  have f3 : ∀ b ∈ fp, FpOk X pins (upd H2 D (SetO X.w D [])) b ∧ b < s3.heap.objs.size := by
    intro b hb
    have lt := old b hb
    refine ⟨⟨?_, (f2 b hb).2⟩, by rw [h3, Heap.size_push]; exact Nat.lt_succ_of_lt lt⟩
    rw [upd_ne (by rw [hD]; exact Nat.ne_of_lt lt)]
    exact (f2 b hb).1
  have st3 : tn 0 s3.heap := T.keep _ _ _ st2 fun b _ o e => by rw [h3]; exact Heap.get?_push_of_some _ e
  have I4 := block_start I3 ok nd f3
  obtain ⟨cl, hcl⟩ : ∃ cl, cl = cellsFrom (s3.heap.objs.size + 1) scope.names (cloFrom X.env.cells scope.names []) := ⟨_, rfl⟩
  obtain ⟨C, hC⟩ : ∃ C, C = s3.heap.objs.size := ⟨_, rfl⟩
  obtain ⟨H3, hH3⟩ : ∃ H3, H3 = upd H2 D (SetO X.w D []) := ⟨_, rfl⟩
  rw [← hcl, ← hC, ← hH3] at I4
  rw [← hH3] at I3 f3 w0
  obtain ⟨s4, hs4⟩ : ∃ s4 : Shared, s4 = { s3 with heap := pushCells (s3.heap.push { cls := .type "dict", data := .dict #[] }) scope.names } := ⟨_, rfl⟩
  rw [← hs4] at I4
  rw [show ({ s2 with heap := s2.heap.push { cls := .type "set", dict := none, data := .set #[] 0 (.fresh 0 0 (!X.w.params.followText "set-order")) } } : Shared) = s3 from hs3.symm]
  show codeAny _ _ (.compStart (.SetComp ex [⟨tg, iter, ifs, 0⟩] scope pos) 0 (.ref it) (.ref D) (compEnvC scope (cellsFrom (s3.heap.objs.size + 1) scope.names (cloFrom X.env.cells scope.names [])) s3.heap.objs.size X.env)) (compPost (model X.prog X.w) X.A X.xe use Qf (.ref D) s3.heap.objs.size) { s3 with heap := pushCells (s3.heap.push { cls := .type "dict", data := .dict #[] }) scope.names }
  rw [← hcl, ← hC, ← hs4]
  have pg := hg s3 H3 C cl fp
  have pt := ht s3 H3 C cl fp
  have pe := he s3 H3 C cl fp
  have cL : (compEnvC scope cl C X.env).locals = C := rfl
  have nfp : ∀ b ∈ fp, H3 b = none := fun b hb => (f3 b hb).1.1
  have st4 : tn 0 s4.heap := T.keep _ _ _ st3 fun b _ o e => by rw [hs4]; exact pushCells_keeps _ _ _ _ (Heap.get?_push_of_some _ e)
  have stat : ∀ {σ' : L2.St} {H' : Hp} {s' : Shared}, L2.Inv (Blk X scope s3 H3 C cl fp) [] σ' H' s' → (∀ b ∈ fp, H' b = none) → ∀ b ∈ fp, FpOk (Blk X scope s3 H3 C cl fp) [] H' b := by
    intro σ' H' s' I' hn b hb
    exact ⟨hn b hb, (I'.ok.exf b hb).1, I'.ok.exfs b hb, .inl hb, fun x c e => (I'.ok.exf b hb).2 x c e, fun p hp => absurd (show p ∈ ([] : List (Addr × Obj)) ++ [] from hp) (by simp)⟩
  have loop : codeAny (model X.prog X.w) X.A (.compLoop (.SetComp ex [⟨tg, iter, ifs, 0⟩] scope pos) 0 (.ref it) (.ref D) (compEnvC scope cl C X.env)) (compPost (model X.prog X.w) X.A X.xe use Qf (.ref D) C) s4 := by
    refine PpSet.compLoopS_any (fun n s' => ∃ i H', L2.Inv (Blk X scope s3 H3 C cl fp) [] (wipe σ (own.map (·.2))) H' s' ∧ tn i s'.heap ∧ (∀ b ∈ fp, H' b = none) ∧ W i n H') ?_ m0 ⟨0, H3, I4, st4, nfp, w0⟩
    rintro n s5 ⟨i, H5, I5, st5, n5, w5⟩
    rcases turn i n H5 w5 with ⟨stop, qq⟩ | ⟨go, Nx, hNx, step⟩
    · refine thnF (T.done (Blk X scope s3 H3 C cl fp) rfl rfl rfl calm i [] s5 _ H5 (fun _ _ => False) I5 (stat I5 n5) st5 stop) ?_
      rintro r s6 ⟨rfl, I6⟩
      have I7 : L2.Inv X pins σ H5 s6 := I3.call' (ch := fp) I6.os I6.base I6.hok I6.bare fun b hb => ⟨(f3 b hb).1.2.2.2.1, (f3 b hb).1.2.1, (f3 b hb).1.2.2.2.2.1, (f3 b hb).1.2.2.2.2.2⟩
      have nC : H5 C = none := I6.free
      obtain ⟨m, hn, _⟩ := I6.loc
      exact back D C s6 m H5 I7 qq hn (I3.fpOk (Nat.le_of_eq hC.symm) nC)
    · refine thnF (T.item (Blk X scope s3 H3 C cl fp) rfl rfl rfl calm i [] s5 _ H5 (fun _ _ => False) I5 (stat I5 n5) st5 go) ?_
      rintro r s6 ⟨u, rfl, h6⟩
      refine thnF h6 ?_
      rintro _ s7 ⟨x, H7, I7, r7, y7, st7, n7⟩
      refine thnF (pg.run _ s7 _ H7 x u _ (I7.pinned (stat I7 n7) (T.obj _ _ st7)) r7 (step x H7 y7)) ?_
      rintro _ s8 ⟨σ8, H8, I8, hw8, q8⟩
      refine thnF (pt.run _ s8 σ8 H8 _ I8 q8) ?_
      rintro b s9 ⟨H9, I9, q9⟩
      have fin : ∀ {s' : Shared} {H' : Hp}, L2.Inv (Blk X scope s3 H3 C cl fp) ([] ++ pinsAt fp s7.heap) σ8 H' s' → Nx H' → ∃ m, m < n ∧ ∃ i H', L2.Inv (Blk X scope s3 H3 C cl fp) [] (wipe σ (own.map (·.2))) H' s' ∧ tn i s'.heap ∧ (∀ b ∈ fp, H' b = none) ∧ W i m H' := by
        intro s' H' I' nx
        obtain ⟨m', lt, w'⟩ := hNx H' nx
        have pin : ∀ b ∈ fp, ∀ o, s7.heap.get? b = some o → s'.heap.get? b = some o ∧ H' b = none := by
          intro b hb o e
          have z := I'.pin (b, o) (List.mem_append_right _ (List.mem_append_right _ (mem_pinsAt hb e)))
          exact ⟨z.1, z.2.1⟩
        refine ⟨m', lt, i + 1, H', (I'.unpinned (pins := [])).weak (by rw [← hw8, wipe_length]) (fun j v e => ?_), T.keep _ _ _ st7 fun b hb o e => (pin b hb o e).1, fun b hb => ?_, w'⟩
        · rw [← hw8] at e
          exact (wipe_some e).1
        · obtain ⟨o, e, _⟩ := T.obj _ _ st7 b hb
          exact (pin b hb o e).2
      cases b with
      | false =>
        simp only [Bool.false_eq_true, if_false] at q9 ⊢
        exact fin I9 q9
      | true =>
        simp only [if_true] at q9 ⊢
        refine thnF (pe.run _ s9 σ8 H9 _ I9 q9) ?_
        rintro z s10 ⟨y, H10, I10, r10, a, k, M, rfl, hD10, hM, nk, dk, few, nx⟩
        cases r10
        exact add_in (X := Blk X scope s3 H3 C cl fp) hu I10 hD10 hM nk dk few fun M' s11 c1 c2 I11 => fin I11 (nx M' c1 c2)
  exact PpSet.codeAny_compStart_set loop (T.self X.A 0 _ _ _ st4 loop)
end
section
variable {X : Cx} {ex tg iter : Expr} {ifs : List Expr} {scope : Scope} {own : List (Str × Nat)} {pos : Pos} {wi : TI} {g : TG} {tt : TT} {te : TE}
/-- as a value -/
theorem pe_scN (hu : X.A.units + 64 < cLine) (calm : X.calm = true) (nd : X.N.Nodup) (hi : PI X tg iter wi) (ok : BlkOk X.N X.env.scope scope own)
    (hg : ∀ s H C cl fp, PG (Blk X scope s H C cl fp) tg g) (ht : ∀ s H C cl fp, PTs (Blk X scope s H C cl fp) ifs tt) (he : ∀ s H C cl fp, PE (Blk X scope s H C cl fp) ex te)
    (fold : ∀ x, foldedSetIterable iter X.env x = pure x := by intro _; rfl) : PE X (.SetComp ex [⟨tg, iter, ifs, 0⟩] scope pos) (tScN X.w wi g tt te (own.map (·.2))) := by
  constructor
  intro pins s σ H Q I h
  rw [PpSet.eval_SetComp]
  refine scN_core hu calm nd I hi ok hg ht he fold h ?_
  rintro D C s' m H' I' q hn ⟨f0, f1, f2, f3, f4, f5⟩
  exact ⟨m, hn, fun h2 sb => ⟨.ref D, H', I'.turned (t' := s'.toks) (fun b o hb e => (sb.2 b hb).trans e) f0 f1 f3 f4 f5, rfl, q⟩⟩
end
/-- a walk's turns -/
theorem scN_it {w : World} {J : It} {n : Nat} {G : Hp → Prop} {Y : Nat → Hp → V → Hp → Prop} (wk : Walk J n G Y) {g : TG} {tt : TT} {te : TE} {vs : List Nat} {σ : L2.St} {H1 : Hp} {D : Addr} {Qd : Hp → Prop} (Pv : Nat → Hp → Prop) (h0 : Pv 0 (upd H1 D (SetO w D []))) (hG : ∀ i H, i ≤ n → Pv i H → G H)
    (hs : ∀ i x H H', i < n → Pv i H → Y i H x H' → g x (wipe σ vs) H' fun σ2 H2 => wipe σ2 vs = wipe σ vs ∧ tt σ2 H2 fun b H3 => if b = true then te σ2 H3 fun y H4 =>
      ∃ a k M, y = .ref a ∧ H4 D = some (SetO w D M) ∧ (∀ p ∈ M, Nk H4 (.ref p.1) p.2 ∧ p.2.depth ≤ 8) ∧ Nk H4 (.ref a) k ∧ k.depth ≤ 8 ∧ M.length < 76 ∧ (∀ M', (k ∈ M.map (·.2) → M' = M) → (k ∉ M.map (·.2) → M'.Perm ((a, k) :: M)) → Pv (i + 1) (upd H4 D (SetO w D M'))) else Pv (i + 1) H3)
    (hd : ∀ H, Pv n H → Qd H) : ∃ W : Nat → Nat → Hp → Prop, (∃ m, W 0 m (upd H1 D (SetO w D []))) ∧ ∀ i m H', W i m H' → ScStep w J g tt te vs σ D Qd W i m H' := by
  refine ⟨fun i m H => m = n - i ∧ i ≤ n ∧ Pv i H, ⟨n, by simp, Nat.zero_le _, h0⟩, ?_⟩
  rintro i m H ⟨rfl, hi, p⟩
  have q := hG i H hi p
  by_cases lt : i < n
  · exact .inr ⟨wk.goes i H lt q, Pv (i + 1), fun H' p' => ⟨n - (i + 1), by omega, rfl, lt, p'⟩, fun x H' y => hs i x H H' lt p (wk.yields i H x H' lt q y)⟩
  · obtain rfl : i = n := by omega
    exact .inl ⟨wk.stops H q, hd H p⟩
end My

set_option Elab.async false
set_option linter.all false
set_option maxRecDepth 100000
set_option maxHeartbeats 2000000
/-! sorted(xs, key=f), xs a list of tuples. -/
namespace My
open PySem PySem.Spec PyProof.Rows L2 PySem.SeqAt
theorem un64 {k : Nat} {A : Around} (r : Room k A) : A.units + 64 < cLine := by have := r.un; omega
section
variable {X : Cx} {f : Addr} {fd : FuncData} {ps : List Str} {j : Nat} {F : NestedKey → NestedKey} {C : NestedKey → Prop}
def rSortKL (K : PySem.W.Frag) (f : Addr) (F : NestedKey → NestedKey) (C : NestedKey → Prop) : List V → List V → Hp → VK → Prop := fun vs zs H Q => ∃ (l : Addr) (xs : List V) (ks : List NestedKey), vs = [.ref l] ∧ zs = [.ref f] ∧ SqL K H l xs ∧ NkAll H xs ks ∧ (∀ k ∈ ks, C k) ∧
  (∀ k ∈ ks, ∃ i r, F k = .tup (.num i :: r)) ∧ (∀ k ∈ ks, ∀ k' ∈ ks, ∃ c, ltK (F k) (F k') = some c) ∧ (∀ k ∈ ks, (F k).depth ≤ 50) ∧ xs.length ≤ 1000 ∧ ∀ H' p, Same H H' → H' p = none → H p = none → Q (.ref p) (upd H' p (.lst (((xs.zip ks).mergeSort (leF F)).map Prod.fst)))
theorem cr_sortKL (G : FnOk X.prog X.w X.K X.mg X.base CX0 j f fd ps (spKey F C)) (hr : Room (j + 1) X.A) (hb : Binds X.K fd ps []) : CallRK X (.builtin "sorted") [Str.ofString "key"] (rSortKL X.K f F C) := by
  intro pins s σ H vs zs us ws Q I r1 r2 h
  obtain ⟨l, xs, ks, rfl, rfl, hl, nk, hC, hh, hc, hd, lx, q⟩ := h
  obtain ⟨u, rfl, ru⟩ := vals1 r1
  obtain ⟨u2, rfl, ru2⟩ := vals1 r2
  cases ru
  cases ru2
  obtain ⟨its, rv, pl, hz⟩ := I.list hl
  have lv : its.length ≤ sizeLine := by rw [← rv.length, sizeLine_eq]; omega
  show wpAny _ _ (call (.builtin "sorted") [.ref l] [(Str.ofString "key", .ref f)]) _ _ _
  refine call_function_entry_kw kind_sorted plain_sorted entry_sorted (ksk_s1 _ _) ?_
  unfold Builtin.«sorted»
  refine wpAny_bind (m := checkCount "sorted" 1 1 _) (wpAny_pure ?_)
  refine wpAny_bind (collect_list pl.isList ?_ lv)
  have k1 : ∀ b o, s.heap.get? b = some o → ((s.heap.push (seqObj "list" #[] 0)).update s.heap.objs.size (Obj.mapSeq (· ++ its.toArray))).get? b = some o := fun b o e => by
    have lt := Heap.lt_size e
    rw [Heap.get?_update_ne _ _ _ _ (Nat.ne_of_lt lt)]
    exact Heap.get?_push_of_some _ e
  have I1 : Inv X pins σ H { s with heap := (s.heap.push (seqObj "list" #[] 0)).update s.heap.objs.size (Obj.mapSeq (· ++ its.toArray)), toks := s.toks } := I.kept k1
  generalize (s.heap.push (seqObj "list" #[] 0)).update s.heap.objs.size (Obj.mapSeq (· ++ its.toArray)) = h' at I1 ⊢
  refine wpAny_bind (wpAny_newList ?_ lv)
  show wpAny _ _ _ _ _ { s with heap := h'.push (seqObj "list" its.toArray 0), toks := s.toks }
  have I2 : L2.Inv X pins σ H { s with heap := h'.push (seqObj "list" its.toArray 0), toks := s.toks } := I1.kept (t' := s.toks) fun b u e => Heap.get?_push_of_some _ e
  have hoL : (h'.push (seqObj "list" its.toArray 0)).get? h'.objs.size = some (seqObj "list" its.toArray 0) := Heap.get?_push_size _ rfl
  have fresh : H h'.objs.size = none := I1.hok.fresh (Nat.le_refl _)
  have fp : FpOk X pins H h'.objs.size := I1.fpOk (Nat.le_refl _) fresh
  refine wpAny_bind (wpAny_holding (wpAny_call_entry_kw slot_list_sort ⟨_, hoL, rfl⟩ entry_list_sort ?_ (ksk_l1 _ _)))
  rw [ksk_t1]
  refine sort_key (X := X) (pins := pins) (σ := σ) (H := H) (s := { s with heap := h'.push (seqObj "list" its.toArray 0), toks := s.toks }) G hr hb I2 fp hoL rv nk hC hh hc hd lv fun H' s' sm nh I3 => ?_
  exact ⟨_, rfl, wpAny_pure ⟨_, rfl, .ref h'.objs.size, _, I3, rfl, q H' _ sm nh fresh⟩⟩
end
end My

set_option Elab.async false
set_option linter.all false
set_option maxRecDepth 100000
set_option maxHeartbeats 2000000
/-! Pairs of texts in order. -/
namespace My
open PySem PySem.Spec PyProof.Rows L2 PySem.SeqAt PySem.W
def sayK (p : Str × Str) : NestedKey := .tup [.text p.1, .text p.2]
theorem sayK_inj {p q : Str × Str} (e : sayK p = sayK q) : p = q := by
  unfold sayK at e
  injection e with e
  simp only [List.cons.injEq, NestedKey.text.injEq, and_true] at e
  exact Prod.ext e.1 e.2
theorem say_depth (p : Str × Str) : (sayK p).depth ≤ 8 := by
  unfold sayK
  simp only [NestedKey.depthAll, NestedKey.depth]
  decide
theorem say_lt (p q : Str × Str) : ∃ c, ltK (sayK p) (sayK q) = some c := by
  unfold sayK
  rw [ltK]
  exact lt_step (lt_text _ _) (lt_step (lt_text _ _) lt_nil)
def befK (a b : NestedKey) : Bool := lexT (toks a) (toks b)
theorem bef_lt (p q : Str × Str) : ltK (sayK p) (sayK q) = some (befK (sayK p) (sayK q)) := by
  obtain ⟨c, e⟩ := say_lt p q
  rw [e]
  unfold sayK at e
  rw [ltK] at e
  exact congrArg some (lex_tup e).symm
theorem bef_flip {p q : Str × Str} (ne : p ≠ q) : befK (sayK q) (sayK p) = !befK (sayK p) (sayK q) := by
  have h1 := bef_lt p q
  have h2 := bef_lt q p
  rw [flipK _ _ _ (fun z => ne (sayK_inj z)) h1] at h2
  exact (Option.some.inj h2).symm
/-- strictly rising -/
def Rs (l : List NestedKey) : Prop := l.Pairwise fun a b => befK a b = true
theorem rs_unique : ∀ {l m : List NestedKey}, Rs l → Rs m → (∀ k, k ∈ l ↔ k ∈ m) → l = m
  | [], [], _, _, _ => rfl
  | [], b :: _, _, _, h => absurd ((h b).mpr (.head _)) (by simp)
  | a :: _, [], _, _, h => absurd ((h a).mp (.head _)) (by simp)
  | a :: l, b :: m, hl, hm, h => by
    obtain ⟨l1, l2⟩ := List.pairwise_cons.mp hl
    obtain ⟨m1, m2⟩ := List.pairwise_cons.mp hm
    have irr : ∀ k, befK k k = false := fun k => lex_irrefl _
    have ea : a = b := by
      rcases List.mem_cons.mp ((h a).mp (.head _)) with e | e
      · exact e
      · rcases List.mem_cons.mp ((h b).mpr (.head _)) with e2 | e2
        · exact e2.symm
        · have : befK a a = true := lex_trans _ _ _ (l1 b e2) (m1 a e)
          rw [irr] at this
          cases this
    subst ea
    have n1 : a ∉ l := fun z => by have := l1 a z; rw [irr] at this; cases this
    have n2 : a ∉ m := fun z => by have := m1 a z; rw [irr] at this; cases this
    rw [rs_unique l2 m2 fun k => ⟨fun hk => ((List.mem_cons.mp ((h k).mp (.tail _ hk))).resolve_left fun e => n1 (e ▸ hk)), fun hk => ((List.mem_cons.mp ((h k).mpr (.tail _ hk))).resolve_left fun e => n2 (e ▸ hk))⟩]
theorem say_sbl {ks : List NestedKey} (h : ∀ k ∈ ks, ∃ p, k = sayK p) : Sbl ks where
  heads := .inl fun k hk => by obtain ⟨p, rfl⟩ := h k hk; exact ⟨_, _, rfl⟩
  cmp := fun k hk k' hk' => by
    obtain ⟨p, rfl⟩ := h k hk
    obtain ⟨q, rfl⟩ := h k' hk'
    exact say_lt p q
  deep := fun k hk => by
    obtain ⟨p, rfl⟩ := h k hk
    exact Nat.le_trans (say_depth p) (by decide)
theorem zip_ents (M : List Ent) : (M.map fun q => V.ref q.1).zip (M.map (·.2)) = M.map fun p => (V.ref p.1, p.2) := by
  induction M with
  | nil => rfl
  | cons a l ih => rw [List.map_cons, List.map_cons, List.zip_cons_cons, ih]; rfl
theorem srt_ok {H : Hp} {M : List Ent} (hk : ∀ p ∈ M, Nk H (.ref p.1) p.2) (hs : ∀ p ∈ M, ∃ q, p.2 = sayK q) (nd : (M.map (·.2)).Nodup) :
    ∃ ls, NkAll H ((srt (M.map fun q => V.ref q.1) (M.map (·.2))).map Prod.fst) ls ∧ Rs ls ∧ (∀ k, k ∈ ls ↔ k ∈ M.map (·.2)) ∧ ls.length = M.length := by
  unfold srt
  rw [zip_ents]
  have pm := List.mergeSort_perm (M.map fun p => (V.ref p.1, p.2)) (leF id)
  have pw := sort_pairwise (sortLe_total (listOrd itemOrd) false fun b : V × NestedKey => toks (id b.2)) (M.map fun p => (V.ref p.1, p.2))
  change List.Pairwise (fun a b => leF id a b = true) ((M.map fun p => (V.ref p.1, p.2)).mergeSort (leF id)) at pw
  generalize (M.map fun p => (V.ref p.1, p.2)).mergeSort (leF id) = l at pm pw ⊢
  have mem : ∀ b ∈ l, ∃ p ∈ M, b = (V.ref p.1, p.2) := fun b hb => by
    obtain ⟨p, hp, e⟩ := List.mem_map.mp (pm.mem_iff.mp hb)
    exact ⟨p, hp, e.symm⟩
  have pk : (l.map Prod.snd).Perm (M.map (·.2)) := by
    have := pm.map Prod.snd
    rwa [List.map_map] at this
  refine ⟨l.map Prod.snd, nk_pairs fun b hb => ?_, ?_, fun k => pk.mem_iff, by rw [pk.length_eq, List.length_map]⟩
  · obtain ⟨p, hp, rfl⟩ := mem b hb
    exact hk p hp
  · have nl2 : l.Pairwise fun a b => a.2 ≠ b.2 := List.pairwise_map.mp (pk.nodup_iff.mpr nd)
    refine List.pairwise_map.mpr ((pw.and nl2).imp_of_mem fun {a b} ha hb h => ?_)
    obtain ⟨p, hp1, rfl⟩ := mem a ha
    obtain ⟨q, hq1, rfl⟩ := mem b hb
    obtain ⟨x, ex⟩ := hs p hp1
    obtain ⟨y, ey⟩ := hs q hq1
    have h1 : (!befK q.2 p.2) = true := h.1
    have h2 : p.2 ≠ q.2 := h.2
    show befK p.2 q.2 = true
    rw [ex, ey] at h1 h2 ⊢
    rw [bef_flip (fun z => h2 (by rw [z]))] at h1
    simpa using h1
/-- how a list of such pairs is shown -/
theorem datas_say (ls : List NestedKey) (ps : List (Str × Str)) (h : ls = ps.map sayK) : NestedKey.datas ls = ps.map fun p => PyData.tuple [.str p.1, .str p.2] := by
  subst h
  induction ps with
  | nil => simp [NestedKey.datas]
  | cons a l ih => rw [List.map_cons, List.map_cons, NestedKey.datas, ih]; simp [sayK, NestedKey.data, NestedKey.datas]
end My

set_option Elab.async false
set_option linter.all false
set_option maxRecDepth 100000
set_option maxHeartbeats 2000000
namespace L52
open PySem PySem.Spec PyProof.Rows L2 My
def topS (i : Nat) : Stmt := PySem.Challenge.pw_cardsback_k52_whole_ranks_while_houses_j.main.body.getD i (.Pass ⟨0, 0, 0, 0⟩)
abbrev s_ways_from : Stmt := topS 6
abbrev N_ways_from : List Str := ["some", "a", "ways", "fresh", "further", "name", "way", "saying"]
theorem S_ways_from : FnScope N_ways_from ["some", "a"] (defScope s_ways_from) := ⟨rfl, rfl, rfl, by decide +kernel, rfl, by decide +kernel, by decide +kernel⟩
abbrev s_goes_ahead : Stmt := topS 7
abbrev N_goes_ahead : List Str := ["names", "some", "a", "b"]
theorem S_goes_ahead : FnScope N_goes_ahead ["names", "some", "a", "b"] (defScope s_goes_ahead) := ⟨rfl, rfl, rfl, by decide +kernel, rfl, by decide +kernel, by decide +kernel⟩
abbrev s_is_free : Stmt := topS 8
abbrev N_is_free : List Str := ["some", "left", "name", "ahead", "behind"]
theorem S_is_free : FnScope N_is_free ["some", "left", "name"] (defScope s_is_free) := ⟨rfl, rfl, rfl, by decide +kernel, rfl, by decide +kernel, by decide +kernel⟩
abbrev s_any_ring : Stmt := topS 9
abbrev N_any_ring : List Str := ["names", "some", "name", "ring"]
theorem S_any_ring : FnScope N_any_ring ["names", "some"] (defScope s_any_ring) := ⟨rfl, rfl, rfl, by decide +kernel, rfl, by decide +kernel, by decide +kernel⟩
abbrev s_ranked : Stmt := topS 10
abbrev N_ranked : List Str := ["names", "some", "order", "left", "free", "name"]
theorem S_ranked : FnScope N_ranked ["names", "some"] (defScope s_ranked) := ⟨rfl, rfl, rfl, by decide +kernel, rfl, by decide +kernel, by decide +kernel⟩
abbrev s_page_day : Stmt := topS 14
abbrev N_page_day : List Str := ["page"]
theorem S_page_day : FnScope N_page_day ["page"] (defScope s_page_day) := ⟨rfl, rfl, rfl, by decide +kernel, rfl, by decide +kernel, by decide +kernel⟩
abbrev s_page_kind : Stmt := topS 15
abbrev N_page_kind : List Str := ["page"]
theorem S_page_kind : FnScope N_page_kind ["page"] (defScope s_page_kind) := ⟨rfl, rfl, rfl, by decide +kernel, rfl, by decide +kernel, by decide +kernel⟩
abbrev s_names_of : Stmt := topS 16
abbrev N_names_of : List Str := ["page", "form", "part"]
theorem S_names_of : FnScope N_names_of ["page"] (defScope s_names_of) := ⟨rfl, rfl, rfl, by decide +kernel, rfl, by decide +kernel, by decide +kernel⟩
abbrev s_page_place : Stmt := topS 17
abbrev N_page_place : List Str := ["page"]
theorem S_page_place : FnScope N_page_place ["page"] (defScope s_page_place) := ⟨rfl, rfl, rfl, by decide +kernel, rfl, by decide +kernel, by decide +kernel⟩
abbrev s_in_order : Stmt := topS 18
abbrev N_in_order : List Str := ["some", "unlike", "page"]
theorem S_in_order : FnScope N_in_order ["some"] (defScope s_in_order) := ⟨rfl, rfl, rfl, by decide +kernel, rfl, by decide +kernel, by decide +kernel⟩
abbrev s_with_page : Stmt := topS 20
abbrev N_with_page : List Str := ["book", "page"]
theorem S_with_page : FnScope N_with_page ["book", "page"] (defScope s_with_page) := ⟨rfl, rfl, rfl, by decide +kernel, rfl, by decide +kernel, by decide +kernel⟩
abbrev s_up_to : Stmt := topS 21
abbrev N_up_to : List Str := ["book", "day", "page"]
theorem S_up_to : FnScope N_up_to ["book", "day"] (defScope s_up_to) := ⟨rfl, rfl, rfl, by decide +kernel, rfl, by decide +kernel, by decide +kernel⟩
abbrev s_can_be_done : Stmt := topS 24
abbrev N_can_be_done : List Str := ["homes", "known", "page", "names", "name"]
theorem S_can_be_done : FnScope N_can_be_done ["homes", "known", "page"] (defScope s_can_be_done) := ⟨rfl, rfl, rfl, by decide +kernel, rfl, by decide +kernel, by decide +kernel⟩
abbrev s_turn_houses : Stmt := topS 25
abbrev N_turn_houses : List Str := ["homes", "known", "page", "kind", "names"]
theorem S_turn_houses : FnScope N_turn_houses ["homes", "known", "page"] (defScope s_turn_houses) := ⟨rfl, rfl, rfl, by decide +kernel, rfl, by decide +kernel, by decide +kernel⟩
abbrev s_walk_houses : Stmt := topS 26
abbrev N_walk_houses : List Str := ["book", "day", "homes", "known", "marks", "page", "done"]
theorem S_walk_houses : FnScope N_walk_houses ["book", "day"] (defScope s_walk_houses) := ⟨rfl, rfl, rfl, by decide +kernel, rfl, by decide +kernel, by decide +kernel⟩
abbrev s_standing : Stmt := topS 27
abbrev N_standing : List Str := ["book", "day", "homes", "known", "marks", "name"]
theorem S_standing : FnScope N_standing ["book", "day"] (defScope s_standing) := ⟨rfl, rfl, rfl, by decide +kernel, rfl, by decide +kernel, by decide +kernel⟩
abbrev s_sayings : Stmt := topS 29
abbrev N_sayings : List Str := ["book", "day", "homes", "known", "marks", "pairs", "page", "done", "a", "b"]
theorem S_sayings : FnScope N_sayings ["book", "day"] (defScope s_sayings) := ⟨rfl, rfl, rfl, by decide +kernel, rfl, by decide +kernel, by decide +kernel⟩
abbrev s_standing_names : Stmt := topS 31
abbrev N_standing_names : List Str := ["book", "day", "name", "home"]
theorem S_standing_names : FnScope N_standing_names ["book", "day"] (defScope s_standing_names) := ⟨rfl, rfl, rfl, by decide +kernel, rfl, by decide +kernel, by decide +kernel⟩
abbrev s_ranks : Stmt := topS 32
abbrev N_ranks : List Str := ["book", "day"]
theorem S_ranks : FnScope N_ranks ["book", "day"] (defScope s_ranks) := ⟨rfl, rfl, rfl, by decide +kernel, rfl, by decide +kernel, by decide +kernel⟩
abbrev s_first_of : Stmt := topS 33
abbrev N_first_of : List Str := ["book", "day", "names", "there", "name", "word", "told"]
theorem S_first_of : FnScope N_first_of ["book", "day", "names"] (defScope s_first_of) := ⟨rfl, rfl, rfl, by decide +kernel, rfl, by decide +kernel, by decide +kernel⟩
abbrev s_first_place : Stmt := topS 35
abbrev N_first_place : List Str := ["things", "is_amiss", "k"]
theorem S_first_place : FnScope N_first_place ["things", "is_amiss"] (defScope s_first_place) := ⟨rfl, rfl, rfl, by decide +kernel, rfl, by decide +kernel, by decide +kernel⟩
abbrev s_order_fault : Stmt := topS 36
abbrev N_order_fault : List Str := ["names", "some", "thing", "path"]
theorem S_order_fault : FnScope N_order_fault ["names", "some", "thing"] (defScope s_order_fault) := ⟨rfl, rfl, rfl, by decide +kernel, rfl, by decide +kernel, by decide +kernel⟩
abbrev s_ring_fault : Stmt := topS 37
abbrev N_ring_fault : List Str := ["some", "thing", "path", "firsts", "saying"]
theorem S_ring_fault : FnScope N_ring_fault ["some", "thing"] (defScope s_ring_fault) := ⟨rfl, rfl, rfl, by decide +kernel, rfl, by decide +kernel, by decide +kernel⟩
abbrev s_lets_order : Stmt := topS 38
abbrev N_lets_order : List Str := ["names", "some", "thing", "fault"]
theorem S_lets_order : FnScope N_lets_order ["names", "some", "thing"] (defScope s_lets_order) := ⟨rfl, rfl, rfl, by decide +kernel, rfl, by decide +kernel, by decide +kernel⟩
abbrev s_lets_ring : Stmt := topS 39
abbrev N_lets_ring : List Str := ["names", "some", "thing", "fault"]
theorem S_lets_ring : FnScope N_lets_ring ["names", "some", "thing"] (defScope s_lets_ring) := ⟨rfl, rfl, rfl, by decide +kernel, rfl, by decide +kernel, by decide +kernel⟩
abbrev s_w_feed : Stmt := topS 41
abbrev N_w_feed : List Str := ["_law_script"]
theorem S_w_feed : FnScope N_w_feed ["_law_script"] (defScope s_w_feed) := ⟨rfl, rfl, rfl, by decide +kernel, rfl, by decide +kernel, by decide +kernel⟩
abbrev s_w_draw : Stmt := topS 42
abbrev N_w_draw : List Str := ["_law_feed_here", "_law_many", "_law_found", "_law_cell", "_law_mixed"]
theorem S_w_draw : FnScope N_w_draw ["_law_feed_here", "_law_many"] (defScope s_w_draw) := ⟨rfl, rfl, rfl, by decide +kernel, rfl, by decide +kernel, by decide +kernel⟩
abbrev s_w_names : Stmt := topS 43
abbrev N_w_names : List Str := ["_law_feed_here", "_law_many", "_law_letters", "_law_k", "_law_figs", "_law_pool", "_law_head", "_law_mark"]
theorem S_w_names : FnScope N_w_names ["_law_feed_here", "_law_many"] (defScope s_w_names) := ⟨rfl, rfl, rfl, by decide +kernel, rfl, by decide +kernel, by decide +kernel⟩
abbrev s_w_page : Stmt := topS 44
abbrev N_w_page : List Str := ["_law_feed_here", "_law_names_here", "_law_day", "_law_kind", "_law_at", "_law_a", "_law_b", "_law_home"]
theorem S_w_page : FnScope N_w_page ["_law_feed_here", "_law_names_here", "_law_day"] (defScope s_w_page) := ⟨rfl, rfl, rfl, by decide +kernel, rfl, by decide +kernel, by decide +kernel⟩
abbrev s_w_book : Stmt := topS 45
abbrev N_w_book : List Str := ["_law_feed_here", "_law_names_here", "_law_base", "_law_pages", "_law_many", "_law_turn", "_law_name", "_law_k"]
theorem S_w_book : FnScope N_w_book ["_law_feed_here", "_law_names_here", "_law_base"] (defScope s_w_book) := ⟨rfl, rfl, rfl, by decide +kernel, rfl, by decide +kernel, by decide +kernel⟩
abbrev s_w_let : Stmt := topS 46
abbrev N_w_let : List Str := ["_law_names_here", "_law_some", "_law_told", "_law_found"]
theorem S_w_let : FnScope N_w_let ["_law_names_here", "_law_some", "_law_told"] (defScope s_w_let) := ⟨rfl, rfl, rfl, by decide +kernel, rfl, by decide +kernel, by decide +kernel⟩
abbrev s_w_day_right : Stmt := topS 47
abbrev N_w_day_right : List Str := ["_law_feed_here", "_law_book_here", "_law_day", "_law_later", "_law_houses", "_law_some", "_law_told", "_law_other", "_law_row", "_law_due", "_law_at", "_law_name", "_law_home"]
theorem S_w_day_right : FnScope N_w_day_right ["_law_feed_here", "_law_book_here", "_law_day", "_law_later"] (defScope s_w_day_right) := ⟨rfl, rfl, rfl, by decide +kernel, rfl, by decide +kernel, by decide +kernel⟩
abbrev s_w_gone_up_right : Stmt := topS 48
abbrev N_w_gone_up_right : List Str := ["_law_book_here", "_law_day", "_law_houses", "_law_some", "_law_at", "_law_a", "_law_b", "_law_part", "_law_whole", "_law_rest", "_law_held", "_law_told", "_law_name", "_law_pair", "_law_home"]
theorem S_w_gone_up_right : FnScope N_w_gone_up_right ["_law_book_here", "_law_day", "_law_houses", "_law_some", "_law_at"] (defScope s_w_gone_up_right) := ⟨rfl, rfl, rfl, by decide +kernel, rfl, by decide +kernel, by decide +kernel⟩
abbrev s_law : Stmt := topS 49
abbrev N_law : List Str := ["_law_script", "_law_feed_here", "_law_base", "_law_names_here", "_law_pages", "_law_book_here", "_law_later", "_law_day", "_law_k"]
theorem S_law : FnScope N_law ["_law_script"] (defScope s_law) := ⟨rfl, rfl, rfl, by decide +kernel, rfl, by decide +kernel, by decide +kernel⟩
def clsS (i j : Nat) : Stmt := match topS i with | .ClassDef _ _ _ b _ _ _ _ _ _ _ => b.getD j (.Pass ⟨0, 0, 0, 0⟩) | _ => .Pass ⟨0, 0, 0, 0⟩
abbrev s_NoPaper : Stmt := clsS 2 0
abbrev N_NoPaper : List Str := ["self", "word", "path"]
theorem S_NoPaper : FnScope N_NoPaper ["self", "word", "path"] (defScope s_NoPaper) := ⟨rfl, rfl, rfl, by decide +kernel, rfl, by decide +kernel, by decide +kernel⟩
abbrev s_NoHouse : Stmt := clsS 3 0
abbrev N_NoHouse : List Str := ["self", "name"]
theorem S_NoHouse : FnScope N_NoHouse ["self", "name"] (defScope s_NoHouse) := ⟨rfl, rfl, rfl, by decide +kernel, rfl, by decide +kernel, by decide +kernel⟩
abbrev s_NoOrder : Stmt := clsS 4 0
abbrev N_NoOrder : List Str := ["self", "ring"]
theorem S_NoOrder : FnScope N_NoOrder ["self", "ring"] (defScope s_NoOrder) := ⟨rfl, rfl, rfl, by decide +kernel, rfl, by decide +kernel, by decide +kernel⟩
structure Tx (K : PySem.W.Frag) (mg : Str → Option Value) (w : World) where
  f_ways_from : Addr
  d_ways_from : FuncData
  F_ways_from : Fun K "ways_from" "ways_from" s_ways_from f_ways_from d_ways_from
  g_ways_from : mg "ways_from" = some (.ref f_ways_from)
  b_ways_from : Binds K d_ways_from ["some", "a"] []
  f_goes_ahead : Addr
  d_goes_ahead : FuncData
  F_goes_ahead : Fun K "goes_ahead" "goes_ahead" s_goes_ahead f_goes_ahead d_goes_ahead
  g_goes_ahead : mg "goes_ahead" = some (.ref f_goes_ahead)
  b_goes_ahead : Binds K d_goes_ahead ["names", "some", "a", "b"] []
  f_is_free : Addr
  d_is_free : FuncData
  k_is_free : Addr
  P_is_free : Addr
  F_is_free : GE.FunC K "is_free" "is_free" s_is_free f_is_free d_is_free k_is_free
  g_is_free : mg "is_free" = some (.ref f_is_free)
  b_is_free : Binds K d_is_free ["some", "left", "name"] []
  f_any_ring : Addr
  d_any_ring : FuncData
  F_any_ring : Fun K "any_ring" "any_ring" s_any_ring f_any_ring d_any_ring
  g_any_ring : mg "any_ring" = some (.ref f_any_ring)
  b_any_ring : Binds K d_any_ring ["names", "some"] []
  f_ranked : Addr
  d_ranked : FuncData
  F_ranked : Fun K "ranked" "ranked" s_ranked f_ranked d_ranked
  g_ranked : mg "ranked" = some (.ref f_ranked)
  b_ranked : Binds K d_ranked ["names", "some"] []
  f_page_day : Addr
  d_page_day : FuncData
  F_page_day : Fun K "page_day" "page_day" s_page_day f_page_day d_page_day
  g_page_day : mg "page_day" = some (.ref f_page_day)
  b_page_day : Binds K d_page_day ["page"] []
  f_page_kind : Addr
  d_page_kind : FuncData
  F_page_kind : Fun K "page_kind" "page_kind" s_page_kind f_page_kind d_page_kind
  g_page_kind : mg "page_kind" = some (.ref f_page_kind)
  b_page_kind : Binds K d_page_kind ["page"] []
  f_names_of : Addr
  d_names_of : FuncData
  k_names_of : Addr
  P_names_of : Addr
  F_names_of : GE.FunC K "names_of" "names_of" s_names_of f_names_of d_names_of k_names_of
  g_names_of : mg "names_of" = some (.ref f_names_of)
  b_names_of : Binds K d_names_of ["page"] []
  f_page_place : Addr
  d_page_place : FuncData
  F_page_place : Fun K "page_place" "page_place" s_page_place f_page_place d_page_place
  g_page_place : mg "page_place" = some (.ref f_page_place)
  b_page_place : Binds K d_page_place ["page"] []
  f_in_order : Addr
  d_in_order : FuncData
  F_in_order : Fun K "in_order" "in_order" s_in_order f_in_order d_in_order
  g_in_order : mg "in_order" = some (.ref f_in_order)
  b_in_order : Binds K d_in_order ["some"] []
  f_with_page : Addr
  d_with_page : FuncData
  F_with_page : Fun K "with_page" "with_page" s_with_page f_with_page d_with_page
  g_with_page : mg "with_page" = some (.ref f_with_page)
  b_with_page : Binds K d_with_page ["book", "page"] []
  f_up_to : Addr
  d_up_to : FuncData
  k_up_to : Addr
  P_up_to : Addr
  F_up_to : GE.FunC K "up_to" "up_to" s_up_to f_up_to d_up_to k_up_to
  g_up_to : mg "up_to" = some (.ref f_up_to)
  b_up_to : Binds K d_up_to ["book", "day"] []
  f_can_be_done : Addr
  d_can_be_done : FuncData
  k_can_be_done : Addr
  P_can_be_done : Addr
  F_can_be_done : GE.FunC K "can_be_done" "can_be_done" s_can_be_done f_can_be_done d_can_be_done k_can_be_done
  g_can_be_done : mg "can_be_done" = some (.ref f_can_be_done)
  b_can_be_done : Binds K d_can_be_done ["homes", "known", "page"] []
  f_turn_houses : Addr
  d_turn_houses : FuncData
  F_turn_houses : Fun K "turn_houses" "turn_houses" s_turn_houses f_turn_houses d_turn_houses
  g_turn_houses : mg "turn_houses" = some (.ref f_turn_houses)
  b_turn_houses : Binds K d_turn_houses ["homes", "known", "page"] []
  f_walk_houses : Addr
  d_walk_houses : FuncData
  F_walk_houses : Fun K "walk_houses" "walk_houses" s_walk_houses f_walk_houses d_walk_houses
  g_walk_houses : mg "walk_houses" = some (.ref f_walk_houses)
  b_walk_houses : Binds K d_walk_houses ["book", "day"] []
  f_standing : Addr
  d_standing : FuncData
  F_standing : Fun K "standing" "standing" s_standing f_standing d_standing
  g_standing : mg "standing" = some (.ref f_standing)
  b_standing : Binds K d_standing ["book", "day"] []
  f_sayings : Addr
  d_sayings : FuncData
  F_sayings : Fun K "sayings" "sayings" s_sayings f_sayings d_sayings
  g_sayings : mg "sayings" = some (.ref f_sayings)
  b_sayings : Binds K d_sayings ["book", "day"] []
  f_standing_names : Addr
  d_standing_names : FuncData
  k_standing_names : Addr
  P_standing_names : Addr
  F_standing_names : GE.FunC K "standing_names" "standing_names" s_standing_names f_standing_names d_standing_names k_standing_names
  g_standing_names : mg "standing_names" = some (.ref f_standing_names)
  b_standing_names : Binds K d_standing_names ["book", "day"] []
  f_ranks : Addr
  d_ranks : FuncData
  F_ranks : Fun K "ranks" "ranks" s_ranks f_ranks d_ranks
  g_ranks : mg "ranks" = some (.ref f_ranks)
  b_ranks : Binds K d_ranks ["book", "day"] []
  f_first_of : Addr
  d_first_of : FuncData
  F_first_of : Fun K "first_of" "first_of" s_first_of f_first_of d_first_of
  g_first_of : mg "first_of" = some (.ref f_first_of)
  b_first_of : Binds K d_first_of ["book", "day", "names"] []
  f_first_place : Addr
  d_first_place : FuncData
  F_first_place : Fun K "first_place" "first_place" s_first_place f_first_place d_first_place
  g_first_place : mg "first_place" = some (.ref f_first_place)
  b_first_place : Binds K d_first_place ["things", "is_amiss"] []
  f_order_fault : Addr
  d_order_fault : FuncData
  k_order_fault : Addr
  P_order_fault : Addr
  F_order_fault : GE.FunC K "order_fault" "order_fault" s_order_fault f_order_fault d_order_fault k_order_fault
  g_order_fault : mg "order_fault" = some (.ref f_order_fault)
  b_order_fault : Binds K d_order_fault ["names", "some", "thing"] []
  f_ring_fault : Addr
  d_ring_fault : FuncData
  k_ring_fault : Addr
  P_ring_fault : Addr
  F_ring_fault : GE.FunC K "ring_fault" "ring_fault" s_ring_fault f_ring_fault d_ring_fault k_ring_fault
  g_ring_fault : mg "ring_fault" = some (.ref f_ring_fault)
  b_ring_fault : Binds K d_ring_fault ["some", "thing"] []
  f_lets_order : Addr
  d_lets_order : FuncData
  F_lets_order : Fun K "lets_order" "lets_order" s_lets_order f_lets_order d_lets_order
  g_lets_order : mg "lets_order" = some (.ref f_lets_order)
  b_lets_order : Binds K d_lets_order ["names", "some", "thing"] []
  f_lets_ring : Addr
  d_lets_ring : FuncData
  F_lets_ring : Fun K "lets_ring" "lets_ring" s_lets_ring f_lets_ring d_lets_ring
  g_lets_ring : mg "lets_ring" = some (.ref f_lets_ring)
  b_lets_ring : Binds K d_lets_ring ["names", "some", "thing"] []
  f_w_feed : Addr
  d_w_feed : FuncData
  F_w_feed : Fun K "_law_feed" "_law_feed" s_w_feed f_w_feed d_w_feed
  g_w_feed : mg "_law_feed" = some (.ref f_w_feed)
  b_w_feed : Binds K d_w_feed ["_law_script"] []
  f_w_draw : Addr
  d_w_draw : FuncData
  F_w_draw : Fun K "_law_draw" "_law_draw" s_w_draw f_w_draw d_w_draw
  g_w_draw : mg "_law_draw" = some (.ref f_w_draw)
  b_w_draw : Binds K d_w_draw ["_law_feed_here", "_law_many"] []
  f_w_names : Addr
  d_w_names : FuncData
  F_w_names : Fun K "_law_names" "_law_names" s_w_names f_w_names d_w_names
  g_w_names : mg "_law_names" = some (.ref f_w_names)
  b_w_names : Binds K d_w_names ["_law_feed_here", "_law_many"] []
  f_w_page : Addr
  d_w_page : FuncData
  F_w_page : Fun K "_law_page" "_law_page" s_w_page f_w_page d_w_page
  g_w_page : mg "_law_page" = some (.ref f_w_page)
  b_w_page : Binds K d_w_page ["_law_feed_here", "_law_names_here", "_law_day"] []
  f_w_book : Addr
  d_w_book : FuncData
  F_w_book : Fun K "_law_book" "_law_book" s_w_book f_w_book d_w_book
  g_w_book : mg "_law_book" = some (.ref f_w_book)
  b_w_book : Binds K d_w_book ["_law_feed_here", "_law_names_here", "_law_base"] []
  f_w_let : Addr
  d_w_let : FuncData
  F_w_let : Fun K "_law_let" "_law_let" s_w_let f_w_let d_w_let
  g_w_let : mg "_law_let" = some (.ref f_w_let)
  b_w_let : Binds K d_w_let ["_law_names_here", "_law_some", "_law_told"] []
  f_w_day_right : Addr
  d_w_day_right : FuncData
  F_w_day_right : Fun K "_law_day_right" "_law_day_right" s_w_day_right f_w_day_right d_w_day_right
  g_w_day_right : mg "_law_day_right" = some (.ref f_w_day_right)
  b_w_day_right : Binds K d_w_day_right ["_law_feed_here", "_law_book_here", "_law_day", "_law_later"] []
  f_w_gone_up_right : Addr
  d_w_gone_up_right : FuncData
  F_w_gone_up_right : Fun K "_law_gone_up_right" "_law_gone_up_right" s_w_gone_up_right f_w_gone_up_right d_w_gone_up_right
  g_w_gone_up_right : mg "_law_gone_up_right" = some (.ref f_w_gone_up_right)
  b_w_gone_up_right : Binds K d_w_gone_up_right ["_law_book_here", "_law_day", "_law_houses", "_law_some", "_law_at"] []
  f_law : Addr
  d_law : FuncData
  F_law : Fun K "law" "law" s_law f_law d_law
  g_law : mg "law" = some (.ref f_law)
  b_law : Binds K d_law ["_law_script"] []
  a_KINDS : Addr
  c_KINDS : mg "KINDS" = some (.ref a_KINDS)
  w_KINDS : KT K a_KINDS [.str "house", .str "part", .str "join", .str "home", .str "mourn", .str "ahead", .str "card", .str "visit"]
  wn_KINDS : ∃ o, K.lookup a_KINDS = some o ∧ o.cls = .type "tuple" ∧ o.dict = none
  a_FORMS : Addr
  c_FORMS : mg "FORMS" = some (.ref a_FORMS)
  w_FORMS_house : ∃ r, KDct K w a_FORMS "house" (.ref r) ∧ KT K r [.str "name", .str "home"]
  w_FORMS_part : ∃ r, KDct K w a_FORMS "part" (.ref r) ∧ KT K r [.str "name", .str "name", .str "home"]
  w_FORMS_join : ∃ r, KDct K w a_FORMS "join" (.ref r) ∧ KT K r [.str "name", .str "name"]
  w_FORMS_home : ∃ r, KDct K w a_FORMS "home" (.ref r) ∧ KT K r [.str "name", .str "home"]
  w_FORMS_mourn : ∃ r, KDct K w a_FORMS "mourn" (.ref r) ∧ KT K r [.str "name", .str "many"]
  w_FORMS_ahead : ∃ r, KDct K w a_FORMS "ahead" (.ref r) ∧ KT K r [.str "name", .str "name"]
  w_FORMS_card : ∃ r, KDct K w a_FORMS "card" (.ref r) ∧ KT K r [.str "name", .str "name"]
  w_FORMS_visit : ∃ r, KDct K w a_FORMS "visit" (.ref r) ∧ KT K r [.str "name", .str "name"]
  a_COMING : Addr
  c_COMING : mg "COMING" = some (.ref a_COMING)
  w_COMING : KT K a_COMING [.str "house", .str "part"]
  wn_COMING : ∃ o, K.lookup a_COMING = some o ∧ o.cls = .type "tuple" ∧ o.dict = none
  m_all : mg "all" = none
  m_any : mg "any" = none
  m_isinstance : mg "isinstance" = none
  m_len : mg "len" = none
  m_list : mg "list" = none
  m_range : mg "range" = none
  m_sorted : mg "sorted" = none
  m_tuple : mg "tuple" = none
  m_zip : mg "zip" = none
  C_CardsError : Addr
  gC_CardsError : mg "CardsError" = some (.ref C_CardsError)
  C_NoPaper : Addr
  gC_NoPaper : mg "NoPaper" = some (.ref C_NoPaper)
  f_NoPaper : Addr
  d_NoPaper : FuncData
  F_NoPaper : Fun K "__init__" "NoPaper.__init__" s_NoPaper f_NoPaper d_NoPaper
  bi_NoPaper : Binds K d_NoPaper ["self", "word", "path"] []
  oex_NoPaper : OexC K C_NoPaper
  xf_NoPaper : XfC K C_NoPaper
  ic_NoPaper : PySem.W.findIn K (.ref C_NoPaper) "__init__" = some (some (.ref f_NoPaper))
  ti_NoPaper : PySem.W.typeIn K (.ref f_NoPaper) = some (.type "function")
  no_NoPaper_word : PySem.W.findIn K (.ref C_NoPaper) "word" = some none
  no_NoPaper_path : PySem.W.findIn K (.ref C_NoPaper) "path" = some none
  kv_NoPaper : PySem.W.kitOne K (.ref C_NoPaper) (.type "ValueError") = some true
  ks_NoPaper : PySem.W.kitOne K (.ref C_NoPaper) (.ref C_NoPaper) = some true
  te_NoPaper : PySem.W.exmOne K (.ref C_NoPaper) (.ref C_CardsError) = some true
  tm_NoPaper : PySem.W.exmOne K (.ref C_NoPaper) (.ref C_NoPaper) = some true
  C_NoHouse : Addr
  gC_NoHouse : mg "NoHouse" = some (.ref C_NoHouse)
  f_NoHouse : Addr
  d_NoHouse : FuncData
  F_NoHouse : Fun K "__init__" "NoHouse.__init__" s_NoHouse f_NoHouse d_NoHouse
  bi_NoHouse : Binds K d_NoHouse ["self", "name"] []
  oex_NoHouse : OexC K C_NoHouse
  xf_NoHouse : XfC K C_NoHouse
  ic_NoHouse : PySem.W.findIn K (.ref C_NoHouse) "__init__" = some (some (.ref f_NoHouse))
  ti_NoHouse : PySem.W.typeIn K (.ref f_NoHouse) = some (.type "function")
  no_NoHouse_name : PySem.W.findIn K (.ref C_NoHouse) "name" = some none
  kv_NoHouse : PySem.W.kitOne K (.ref C_NoHouse) (.type "ValueError") = some true
  ks_NoHouse : PySem.W.kitOne K (.ref C_NoHouse) (.ref C_NoHouse) = some true
  te_NoHouse : PySem.W.exmOne K (.ref C_NoHouse) (.ref C_CardsError) = some true
  C_NoOrder : Addr
  gC_NoOrder : mg "NoOrder" = some (.ref C_NoOrder)
  f_NoOrder : Addr
  d_NoOrder : FuncData
  F_NoOrder : Fun K "__init__" "NoOrder.__init__" s_NoOrder f_NoOrder d_NoOrder
  bi_NoOrder : Binds K d_NoOrder ["self", "ring"] []
  oex_NoOrder : OexC K C_NoOrder
  xf_NoOrder : XfC K C_NoOrder
  ic_NoOrder : PySem.W.findIn K (.ref C_NoOrder) "__init__" = some (some (.ref f_NoOrder))
  ti_NoOrder : PySem.W.typeIn K (.ref f_NoOrder) = some (.type "function")
  no_NoOrder_ring : PySem.W.findIn K (.ref C_NoOrder) "ring" = some none
  kv_NoOrder : PySem.W.kitOne K (.ref C_NoOrder) (.type "ValueError") = some true
  ks_NoOrder : PySem.W.kitOne K (.ref C_NoOrder) (.ref C_NoOrder) = some true
  te_NoOrder : PySem.W.exmOne K (.ref C_NoOrder) (.ref C_CardsError) = some true
structure Tb {K : PySem.W.Frag} {mg : Str → Option Value} {w : World} (T : Tx K mg w) (base : Heap) : Prop where
  b_is_free : GxR.TabB base mg T.k_is_free T.P_is_free
  b_names_of : GxR.TabB base mg T.k_names_of T.P_names_of
  b_up_to : GxR.TabB base mg T.k_up_to T.P_up_to
  b_can_be_done : GxR.TabB base mg T.k_can_be_done T.P_can_be_done
  b_standing_names : GxR.TabB base mg T.k_standing_names T.P_standing_names
  b_order_fault : GxR.TabB base mg T.k_order_fault T.P_order_fault
  b_ring_fault : GxR.TabB base mg T.k_ring_fault T.P_ring_fault
/-- the tables of the codes that have some -/
def tbs {K : PySem.W.Frag} {mg : Str → Option Value} {w : World} (T : Tx K mg w) : LT.TL := ⟨[T.P_is_free, T.P_names_of, T.P_up_to, T.P_can_be_done, T.P_standing_names], [(T.P_order_fault, ("order_fault" : Str) ++ (".<locals>." : Str) ++ ("<lambda>" : Str)), (T.P_ring_fault, ("ring_fault" : Str) ++ (".<locals>." : Str) ++ ("<lambda>" : Str))]⟩
section
variable {P : Program} {w : World} {K : PySem.W.Frag} {mg : Str → Option Value} {base : Heap}
/-- the feed: a list of the cells' list and three numbers -/
def fd4 (c : Addr) (sp re ca : Int) : List V := [.ref c, .int sp, .int re, .int ca]
def FeedC (H : Hp) (t c : Addr) (n : Nat) : Prop := ∃ (ns : List Int) (sp re ca : Int),
  H t = some (.lst (fd4 c sp re ca)) ∧ H c = some (.lst (ns.map V.int)) ∧ ns.length ≤ 63 ∧ 0 ≤ sp ∧ 0 ≤ re ∧ 0 ≤ ca ∧ ca ≤ n ∧ c ≠ t
theorem FeedC.updO {H : Hp} {t c b : Addr} {n : Nat} {o : HO} (h : FeedC H t c n) (h1 : b ≠ t) (h2 : b ≠ c) : FeedC (upd H b o) t c n := by
  obtain ⟨ns, sp, re, ca, e1, e2, r⟩ := h
  exact ⟨ns, sp, re, ca, by rw [upd_ne h1.symm]; exact e1, by rw [upd_ne h2.symm]; exact e2, r⟩
theorem FeedC.ne {H : Hp} {t c p : Addr} {n : Nat} (h : FeedC H t c n) (hp : H p = none) : p ≠ t ∧ p ≠ c := by
  obtain ⟨ns, sp, re, ca, e1, e2, _⟩ := h
  refine ⟨fun z => ?_, fun z => ?_⟩
  · rw [z, e1] at hp
    cases hp
  · rw [z, e2] at hp
    cases hp
theorem FeedC.same {H H' : Hp} {t c : Addr} {n : Nat} (h : FeedC H t c n) (s : Same H H') : FeedC H' t c n := by
  obtain ⟨ns, sp, re, ca, h1, h2, h3⟩ := h
  exact ⟨ns, sp, re, ca, s _ _ h1, s _ _ h2, h3⟩
theorem FeedC.new {H : Hp} {t c p : Addr} {o : HO} {n : Nat} (h : FeedC H t c n) (hp : H p = none) : FeedC (upd H p o) t c n := h.same (same_upd hp)
theorem FeedC.gk {Ts : List Addr} {H H' : Hp} {t c : Addr} {n : Nat} (h : FeedC H t c n) (k : Gk Ts H H') : FeedC H' t c n := by
  obtain ⟨ns, sp, re, ca, h1, h2, h3⟩ := h
  exact ⟨ns, sp, re, ca, k.1 _ _ h1 (fun ps z => by cases z), k.1 _ _ h2 (fun ps z => by cases z), h3⟩
theorem FeedC.mono {H : Hp} {t c : Addr} {n m : Nat} (h : FeedC H t c n) (le : n ≤ m) : FeedC H t c m := by
  obtain ⟨ns, sp, re, ca, h1, h2, h3, h4, h5, h6, h7, h8⟩ := h
  exact ⟨ns, sp, re, ca, h1, h2, h3, h4, h5, h6, by omega, h8⟩
theorem kp_fresh {H H1 : Hp} {t p : Addr} {o : HO} (hp : H p = none) (k : Kp t H H1) : Kp t H (upd H1 p o) := fun b x n h => by
  rw [upd_ne (ne_of_none h hp)]
  exact k b x n h
theorem kp_none {H H1 : Hp} {t p : Addr} (k : Kp t H H1) (hp : H1 p = none) (n : p ≠ t) : H p = none := by
  cases e : H p with
  | none => rfl
  | some o =>
    have := k p o n e
    rw [hp] at this
    cases this
def spFeed (K : PySem.W.Frag) : Sp := fun vs H Q _ => ∃ (a : Addr) (ns : List Int), vs = [.ref a] ∧ SqL K H a (ns.map V.int) ∧
  ∀ t c H', Same H H' → H t = none → FeedC H' t c 0 → Q (.ref t) H'
theorem ok_feed (T : Tx K mg w) : FnOk P w K mg base CX0 1 T.f_w_feed T.d_w_feed ["_law_script"] (spFeed K) := by
  refine T.F_w_feed.ok S_w_feed (fun vs H Q E h => ?_) (fun cdv A outer s H vs Q E hr h => ?_)
  · obtain ⟨a, ns, rfl, _⟩ := h
    rfl
  · obtain ⟨a, ns, rfl, hS, q⟩ := h
    refine ⟨_, (pss_one (ps_ret (pe_lst (pa_cons (pe_slice sl_list (pv 0) po_none (po_some pe_int)) (pa_cons pe_int (pa_cons pe_int (pa_cons pe_int pa_nil))))))), ?_⟩
    refine ⟨_, rfl, _, rfl, a, _, rfl, hS, fun c nc => ?_⟩
    have s1 := same_upd (o := .lst (cutV (ns.map V.int) none (some 63))) nc
    refine ⟨sz (by show 4 ≤ 1000; decide), fun t nt => ?_⟩
    have s2 := same_upd (o := .lst (fd4 c 0 0 0)) nt
    have hct : c ≠ t := ne_of_none (upd_same (H := H) (a := c) (o := .lst (cutV (ns.map V.int) none (some 63)))) nt
    refine q t c _ (s1.trans s2) (upd_free nt).2 ⟨ns.take 63, 0, 0, 0, upd_same, ?_, ?_, by decide, by decide, by decide, by decide, hct⟩
    · rw [upd_ne hct, upd_same]
      congr 2
      unfold cutV
      rw [HT.sIx_none, show HT.sIx (ns.map V.int).length (ns.map V.int).length (some 63) = min 63 (ns.map V.int).length from HT.sIx_nat _ _ 63]
      simp only [List.drop_zero, Nat.sub_zero, List.length_map, ← List.map_take]
      congr 1
      rw [← List.take_take]
      simp
    · rw [List.length_take]
      omega
theorem pow5c (y c : Int) (h0 : 0 ≤ c) (h1 : c ≤ 1000001) : CPow (y % 2147483647 + 104729 * c) 5 := by
  have := Int.emod_nonneg y (show (2147483647 : Int) ≠ 0 by decide)
  have := Int.emod_lt_of_pos y (show (0 : Int) < 2147483647 by decide)
  exact ⟨by decide, by decide, by omega⟩
def spDraw : Sp := fun vs H Q _ => ∃ (t : Addr) (m : Int) (n : Nat) (c : Addr), vs = [.ref t, .int m] ∧ 0 < m ∧ m < 1000000 ∧ FeedC H t c n ∧ n < 1000000 ∧
  ∀ v H', 0 ≤ v → v < m → FeedC H' t c (n + 1) → Kp t H H' → Q (.int v) H'
theorem ok_draw (T : Tx K mg w) : FnOk P w K mg base CX0 1 T.f_w_draw T.d_w_draw ["_law_feed_here", "_law_many"] (spDraw) := by
  refine T.F_w_draw.ok S_w_draw (fun vs H Q E h => ?_) (fun cdv A outer s H vs Q E hr h => ?_)
  · obtain ⟨t, m, n, c, rfl, _⟩ := h
    rfl
  · obtain ⟨t, m, n, c, rfl, m0, m1, ⟨ns, sp, re, ca, hT, hC, hn, sp0, re0, ca0, ca1, hct⟩, n1, q⟩ := h
    refine ⟨_, (pss_cons (ps_asg (pe_op op_add (pe_ix ix_list (pv 0) pe_int (fun _ _ => rfl)) pe_int) (pg_sub (pv 0) pe_int set_list))
      (pss_cons (ps_if (pt_cmpR op_gt (pe_ix ix_list (pv 0) pe_int (fun _ _ => rfl)) pe_int (nomark _)) (pss_cons (ps_set (i := 2) S_w_draw.nd rfl (.inl rfl) (pe_op op_mod (pe_ix ix_list (pv 0) pe_int (fun _ _ => rfl)) (pv 1)))
      (pss_cons (ps_asg (pe_op op_fdiv (pe_ix ix_list (pv 0) pe_int (fun _ _ => rfl)) (pv 1)) (pg_sub (pv 0) pe_int set_list))
      (pss_one (ps_ret (pv 2))))) pss_nil)
      (pss_cons (ps_set (i := 3) S_w_draw.nd rfl (.inl rfl) pe_int)
      (pss_cons (ps_if (pt_cmpR (op_neE (hu_of hr)) (pe_ix ix_list (pv 0) pe_int (fun _ _ => rfl)) (pe_lst pa_nil) (nomark _)) (pss_one (ps_set (i := 3) S_w_draw.nd rfl (.inl rfl) (pe_ix ix_list (pe_ix ix_list (pv 0) pe_int (fun _ _ => rfl)) (pe_op op_mod (pe_ix ix_list (pv 0) pe_int (fun _ _ => rfl)) (pe_callB call_len_seq (by rfl) T.m_len PySem.boot_len (pa_cons (pe_ix ix_list (pv 0) pe_int (fun _ _ => rfl)) pa_nil))) (fun _ _ => rfl)))) pss_nil)
      (pss_cons (ps_asg (pe_op op_add (pe_ix ix_list (pv 0) pe_int (fun _ _ => rfl)) pe_int) (pg_sub (pv 0) pe_int set_list))
      (pss_cons (ps_if (PW.pt (pw_and (pt_cmpR op_ge (pv 3) (pe_op op_pow pe_int pe_int) (nomark _)) (pw_and1 (pt_cmpR op_le (pe_ix ix_list (pv 0) pe_int (fun _ _ => rfl)) (pe_callB call_len_seq (by rfl) T.m_len PySem.boot_len (pa_cons (pe_ix ix_list (pv 0) pe_int (fun _ _ => rfl)) pa_nil)) (nomark _))))) (pss_cons (ps_asg (pe_op op_fdiv (pv 3) (pv 1)) (pg_sub (pv 0) pe_int set_list))
      (pss_one (ps_ret (pe_op op_mod (pv 3) (pv 1))))) pss_nil)
      (pss_cons (ps_set (i := 4) S_w_draw.nd rfl (.inl rfl) (pe_op op_mod (pe_op op_pow (pe_op op_add (pe_op op_add (pe_op op_mod (pv 3) pe_int) (pe_op op_mul pe_int (pe_ix ix_list (pv 0) pe_int (fun _ _ => rfl)))) pe_int) pe_int) pe_int))
      (pss_one (ps_ret (pe_op op_mod (pe_op op_fdiv (pe_op op_mod (pe_op op_pow (pe_op op_add (pv 4) (pe_op op_mul pe_int (pe_ix ix_list (pv 0) pe_int (fun _ _ => rfl)))) pe_int) pe_int) pe_int) (pv 1))))))))))), ?_⟩
    have a3 : ∀ sp re ca : Int, atI (fd4 c sp re ca) 3 = some (.int ca) := fun _ _ _ => rfl
    have a2 : ∀ sp re ca : Int, atI (fd4 c sp re ca) 2 = some (.int re) := fun _ _ _ => rfl
    have a1 : ∀ sp re ca : Int, atI (fd4 c sp re ca) 1 = some (.int sp) := fun _ _ _ => rfl
    have a0 : ∀ sp re ca : Int, atI (fd4 c sp re ca) 0 = some (.ref c) := fun _ _ _ => rfl
    refine ⟨_, rfl, t, _, 3, _, rfl, rfl, .inl (.inl hT), a3 _ _ _, ca, 1, rfl, rfl, ?_⟩
    refine ⟨.ref t, rfl, t, _, 3, 3, rfl, rfl, hT, rfl, ?_⟩
    have hT1 := upd_same (H := H) (a := t) (o := .lst (fd4 c sp re (ca + 1)))
    have hC1 : upd H t (.lst (fd4 c sp re (ca + 1))) c = some (.lst (ns.map V.int)) := by
      rw [upd_ne hct]
      exact hC
    have hK1 : Kp t H (upd H t (.lst (fd4 c sp re (ca + 1)))) := (Kp.refl t H).own
    show tSeq _ _ _ _ (upd H t (.lst (fd4 c sp re (ca + 1))))
    generalize upd H t (.lst (fd4 c sp re (ca + 1))) = H1 at hT1 hC1 hK1 ⊢
    refine ⟨.ref t, rfl, t, _, 2, _, rfl, rfl, .inl (.inl hT1), a2 _ _ _, re, 0, rfl, rfl, _, rfl, ite2 (fun e => ?_) (fun e => ?_)⟩
    · have e : re > 0 := of_decide_eq_true e
      refine ⟨.ref t, rfl, t, _, 2, _, rfl, rfl, .inl (.inl hT1), a2 _ _ _, _, rfl, re, m, rfl, rfl, m0, ?_⟩
      refine ⟨.ref t, rfl, t, _, 2, _, rfl, rfl, .inl (.inl hT1), a2 _ _ _, _, rfl, re, m, rfl, rfl, ⟨m0, by omega⟩, .ref t, rfl, t, _, 2, 2, rfl, rfl, hT1, rfl, ?_⟩
      refine ⟨_, rfl, ?_⟩
      refine q _ _ (Int.emod_nonneg _ (by omega)) (Int.emod_lt_of_pos _ m0) ⟨ns, sp, re / m, ca + 1, upd_same, ?_, hn, sp0, Int.ediv_nonneg re0 (by omega), by omega, by omega, hct⟩ hK1.own
      rw [upd_ne hct]
      exact hC1
    · have nt' := hct
      refine ⟨_, rfl, t, _, 0, _, rfl, rfl, .inl (.inl hT1), a0 _ _ _, ?_⟩
      refine ⟨sz (by show 0 ≤ 1000; decide), fun z nz => ?_⟩
      have sz1 := same_upd (o := .lst []) nz
      have hT1 := sz1 _ _ hT1
      have hC1 := sz1 _ _ hC1
      have hz1 := upd_same (H := H1) (a := z) (o := .lst [])
      have hK1 : Kp t H (upd H1 z (.lst [])) := hK1.new nz
      generalize upd H1 z (.lst []) = H1 at hT1 hC1 hK1 hz1 ⊢
      refine ⟨c, z, _, rfl, rfl, .inl (.inl hC1), .inl (.inl hz1), _, rfl, ite2 (fun e2 => ?a) (fun e2 => ?b)⟩
      case' a =>
        have e2 : ns ≠ [] := fun z => by rw [z] at e2; exact absurd e2 (by decide)
        have e2 : 0 < ns.length := List.length_pos_iff.mpr e2
        have b0 : 0 ≤ sp % (ns.length : Int) := Int.emod_nonneg _ (by omega)
        have b1 : sp % (ns.length : Int) < ns.length := Int.emod_lt_of_pos _ (by omega)
        have bn : (sp % (ns.length : Int)).toNat < ns.length := by omega
        refine ⟨_, rfl, t, _, 0, _, rfl, rfl, .inl (.inl hT1), a0 _ _ _, _, rfl, t, _, 1, _, rfl, rfl, .inl (.inl hT1), a1 _ _ _, _, rfl, t, _, 0, _, rfl, rfl, .inl (.inl hT1), a0 _ _ _, c, _, rfl, .inl (.inl (.inl hC1)), _, _, rfl, rfl, (by rw [List.length_map]; omega), c, _, _, .int (ns[(sp % (ns.length : Int)).toNat]), rfl, rfl, .inl (.inl hC1), (by
          rw [List.length_map]
          refine at_of (j := (sp % (ns.length : Int)).toNat) (by omega) ?_
          rw [List.getElem?_map, List.getElem?_eq_getElem bn]
          rfl), ?_⟩
        generalize ns[(sp % (ns.length : Int)).toNat] = cell
      all_goals
        refine ⟨_, rfl, t, _, 1, _, rfl, rfl, .inl (.inl hT1), a1 _ _ _, sp, 1, rfl, rfl, .ref t, rfl, t, _, 1, 1, rfl, rfl, hT1, rfl, ?_⟩
        have hT2 := upd_same (H := H1) (a := t) (o := .lst (fd4 c (sp + 1) re (ca + 1)))
        have hC2 : upd H1 t (.lst (fd4 c (sp + 1) re (ca + 1))) c = some (.lst (ns.map V.int)) := by
          rw [upd_ne hct]
          exact hC1
        have hK2 : Kp t H (upd H1 t (.lst (fd4 c (sp + 1) re (ca + 1)))) := hK1.own
        show tSeq _ _ _ _ (upd H1 t (.lst (fd4 c (sp + 1) re (ca + 1))))
        generalize upd H1 t (.lst (fd4 c (sp + 1) re (ca + 1))) = H2 at hT2 hC2 hK2 ⊢
        refine ⟨_, rfl, _, _, rfl, rfl, ⟨by decide, by decide, by decide⟩, _, _, rfl, rfl, _, rfl, ite2 (fun e4 => ?_) (fun e4 => iteF ?_)⟩
      any_goals refine ⟨_, rfl, t, _, 1, _, rfl, rfl, .inl (.inl hT2), a1 _ _ _, _, rfl, t, _, 0, _, rfl, rfl, .inl (.inl hT2), a0 _ _ _, c, _, rfl, .inl (.inl (.inl hC2)), _, _, rfl, rfl, _, rfl, ite2 (fun e5 => ?_) (fun e5 => ?_)⟩
      any_goals
        refine ⟨_, rfl, _, rfl, _, m, rfl, rfl, ⟨m0, by omega⟩, .ref t, rfl, t, _, 2, 2, rfl, rfl, hT2, rfl, ?_⟩
        refine ⟨_, rfl, _, rfl, _, m, rfl, rfl, m0, ?_⟩
        refine q _ _ (Int.emod_nonneg _ (by omega)) (Int.emod_lt_of_pos _ m0) ⟨ns, sp + 1, _, ca + 1, upd_same, (by rw [upd_ne hct]; exact hC2), hn, by omega, Int.ediv_nonneg ?_ (by omega), by omega, by omega, hct⟩ hK2.own
        have e4 := of_decide_eq_true e4
        exact Int.le_trans (by decide) e4
      all_goals
        refine ⟨_, rfl, _, _, rfl, rfl, (by decide : (0 : Int) < 2147483629), _, rfl, t, _, 3, _, rfl, rfl, .inl (.inl hT2), a3 _ _ _, _, _, rfl, rfl, .inl ⟨by decide, by decide⟩, _, _, rfl, rfl, _, _, rfl, rfl, _, _, rfl, rfl, pow5 _ (by omega) (by omega), _, _, rfl, rfl, (by decide : (0 : Int) < 2147483647), ?_⟩
        refine ⟨_, rfl, _, rfl, t, _, 3, _, rfl, rfl, .inl (.inl hT2), a3 _ _ _, _, _, rfl, rfl, .inl ⟨by decide, by decide⟩, _, _, rfl, rfl, _, _, rfl, rfl, pow5c _ _ (by omega) (by omega), _, _, rfl, rfl, (by decide : (0 : Int) < 2147483587), _, _, rfl, rfl, ⟨by decide, by decide⟩, _, rfl, _, m, rfl, rfl, m0, ?_⟩
        exact q _ _ (Int.emod_nonneg _ (by omega)) (Int.emod_lt_of_pos _ m0) ⟨ns, sp + 1, re, ca + 1, hT2, hC2, hn, by omega, re0, by omega, by omega, hct⟩ hK2
end
end L52

set_option Elab.async false
set_option linter.all false
set_option maxRecDepth 100000
set_option maxHeartbeats 2000000
namespace L52
open PySem PySem.Spec PyProof.Rows L2 My
section
variable {P : Program} {w : World} {K : PySem.W.Frag} {mg : Str → Option Value} {base : Heap}
theorem join_sg : ∀ {ks : List Nat}, TL.tl (Str.join "" (ks.map sg)) = ks
  | [] => rfl
  | [k] => rfl
  | k :: l :: r => by
    show TL.tl (sg k ++ "" ++ Str.join "" ((l :: r).map sg)) = _
    rw [TL.tl_append, TL.tl_append, join_sg (ks := l :: r)]
    rfl
theorem erase_map {α β : Type} (f : α → β) : ∀ (l : List α) (k : Nat), (l.map f).eraseIdx k = (l.eraseIdx k).map f
  | [], _ => rfl
  | _ :: _, 0 => rfl
  | a :: l, k + 1 => by
    show f a :: (l.map f).eraseIdx k = f a :: (l.eraseIdx k).map f
    rw [erase_map f l k]
theorem erase_perm {α : Type} : ∀ {l : List α} {k : Nat} (h : k < l.length), (l[k] :: l.eraseIdx k).Perm l
  | _ :: _, 0, _ => List.Perm.refl _
  | a :: l, k + 1, h => (List.Perm.swap _ _ _).trans ((erase_perm (l := l) (k := k) (Nat.lt_of_succ_lt_succ h)).cons a)
/-- a name as the document has it -/
def Nm (z : Str) : Prop := 1 ≤ z.length ∧ z.length ≤ 8 ∧ ∀ c ∈ z.cps.toList, 97 ≤ c ∧ c ≤ 122
theorem Nm.plain {z : Str} (h : Nm z) : Plain z := ⟨by have := h.2.1; omega, fun c hc => by have := h.2.2 c hc; omega⟩
theorem letterX {x : Int} (h0 : 0 ≤ x) (h1 : x < 26) : atI (Str.ofString "abcdefghijklmnopqrstuvwxyz").cps.toList x = some (97 + x.toNat) := by
  obtain ⟨k, hk, rfl⟩ : ∃ k : Nat, k < 26 ∧ x = (k : Int) := ⟨x.toNat, by omega, by omega⟩
  have := (show ∀ k : Fin 26, ((Str.ofString "abcdefghijklmnopqrstuvwxyz").cps.toList[k.val]? == some (97 + k.val)) = true by decide +kernel) ⟨k, hk⟩
  exact atI_nat (by simpa using this)
theorem len_tl (z : Str) : z.length = (TL.tl z).length := (Array.length_toList (xs := z.cps)).symm
/-- the pool of names, k pairs put in -/
structure Pool (ws : List Str) (k : Nat) : Prop where
  len : ws.length = 2 * k
  nm : ∀ z ∈ ws, Nm z
  sh : ∀ z ∈ ws, z.length ≤ k
  nd : ws.Nodup
theorem Pool.next {ws : List Str} {k : Nat} (h : Pool ws k) (k8 : k < 8) {hd : List Nat} (hl : hd.length = k) (hh : ∀ c ∈ hd, 97 ≤ c ∧ c ≤ 122) {a b : Nat} (ha : 97 ≤ a ∧ a ≤ 122) (hb : 97 ≤ b ∧ b ≤ 122) (ab : a ≠ b) {x y : Str} (ex : TL.tl x = hd ++ [a]) (ey : TL.tl y = hd ++ [b]) : Pool (ws ++ [x, y]) (k + 1) := by
  have lx : x.length = k + 1 := by rw [len_tl, ex, List.length_append, hl]; rfl
  have ly : y.length = k + 1 := by rw [len_tl, ey, List.length_append, hl]; rfl
  have nx : Nm x := ⟨by omega, by omega, fun c hc => by
    have hc : c ∈ TL.tl x := hc
    rw [ex] at hc
    rcases List.mem_append.mp hc with h | h
    · exact hh c h
    · rw [List.mem_singleton.mp h]; exact ha⟩
  have ny : Nm y := ⟨by omega, by omega, fun c hc => by
    have hc : c ∈ TL.tl y := hc
    rw [ey] at hc
    rcases List.mem_append.mp hc with h | h
    · exact hh c h
    · rw [List.mem_singleton.mp h]; exact hb⟩
  refine ⟨by rw [List.length_append, h.len]; show _ + 2 = _; omega, fun z hz => ?_, fun z hz => ?_, ?_⟩
  · rcases List.mem_append.mp hz with e | e
    · exact h.nm z e
    · rcases List.mem_cons.mp e with rfl | e
      · exact nx
      · rw [List.mem_singleton.mp e]; exact ny
  · rcases List.mem_append.mp hz with e | e
    · exact Nat.le_succ_of_le (h.sh z e)
    · rcases List.mem_cons.mp e with rfl | e
      · omega
      · rw [List.mem_singleton.mp e]; omega
  · refine List.nodup_append.mpr ⟨h.nd, ?_, fun z hz z' hz' e => ?_⟩
    · refine List.nodup_cons.mpr ⟨fun e => ?_, List.nodup_cons.mpr ⟨(fun e => by cases e), List.nodup_nil⟩⟩
      have e := List.mem_singleton.mp e
      rw [e, ey] at ex
      exact ab (by have := List.append_cancel_left ex; injection this with h; exact h.symm)
    · have := h.sh z hz
      subst e
      rcases List.mem_cons.mp hz' with rfl | e
      · omega
      · rw [List.mem_singleton.mp e] at this; omega
def spFNm : Sp := fun vs H Q _ => ∃ (t c : Addr) (m n : Nat), vs = [.ref t, .int m] ∧ m ≤ 9 ∧ FeedC H t c n ∧ n < 900000 ∧
  ∀ (p : Addr) (zs : List Str) (H' : Hp), H' p = some (.tup (zs.map V.str)) → zs.length = m → (∀ z ∈ zs, Nm z) → zs.Nodup → sortedS zs = true → FeedC H' t c (n + 8 + m) → Kp t H H' → H p = none → Q (.ref p) H'
theorem ok_fnm (T : Tx K mg w) : FnOk P w K mg base CX0 2 T.f_w_names T.d_w_names ["_law_feed_here", "_law_many"] (spFNm) := by
  have G_w_draw : FnOk P w K mg base CX0 1 T.f_w_draw T.d_w_draw ["_law_feed_here", "_law_many"] (spDraw) := ok_draw T
  refine T.F_w_names.ok S_w_names (fun vs H Q E h => ?_) (fun cdv A outer s H vs Q E hr h => ?_)
  · obtain ⟨t, c, m, n, rfl, _⟩ := h
    rfl
  · obtain ⟨t, c, m, n, rfl, m9, hT, hn, q⟩ := h
    refine ⟨_, (pss_cons (ps_set (i := 2) S_w_names.nd rfl (.inr rfl) pe_str)
      (pss_cons (ps_setLc (i := 4) (own := [("_law_k", 3)]) (g := gName 3) (tt := tYes) (by rfl) S_w_names.nd rfl rfl (sw_true rfl rfl rfl (by decide +kernel)) (pi_range1 (by rfl) T.m_range (pa_cons pe_int pa_nil)) (blkOk_by (own := [("_law_k", 3)]) (N := N_w_names) (sc := defScope s_w_names) (by decide +kernel)) (fun _ _ _ _ _ => (pg_name (i := 3) S_w_names.nd rfl (.inl rfl))) (fun _ _ _ _ _ => pts_nil) (fun _ _ _ _ _ => (pe_call G_w_draw hr (by rfl) T.g_w_draw T.F_w_draw.kp T.b_w_draw .nil pass0 (pa_cons (pv 0) (pa_cons pe_int pa_nil)))))
      (pss_cons (ps_set (i := 5) S_w_names.nd rfl (.inr rfl) (pe_lst pa_nil))
      (pss_cons (ps_for PassesOwn.never rfl (pi_range1 (by rfl) T.m_range (pa_cons pe_int pa_nil)) (pg_name (i := 3) S_w_names.nd rfl (.inl rfl))
      (pss_cons (ps_set (i := 6) S_w_names.nd rfl (.inl rfl) (pe_join pe_str (pe_lc (own := [("_law_mark", 7)]) (g := gName 7) (tt := tYes) (by rfl) S_w_names.nd (pi_list (pe_slice sl_list (pv 4) po_none (po_some (pv 3)))) (blkOk_by (own := [("_law_mark", 7)]) (N := N_w_names) (sc := defScope s_w_names) (by decide +kernel)) (fun _ _ _ _ _ => (pg_name (i := 7) S_w_names.nd rfl (.inl rfl))) (fun _ _ _ _ _ => pts_nil) (fun _ _ _ _ _ => (pe_ix ix_str (pv 2) (pv 7) (fun _ _ => rfl))))))
      (pss_one (ps_set (i := 5) S_w_names.nd rfl (.inr rfl) (pe_op op_cat (pv 5) (pe_lst (pa_cons (pe_op op_add_str (pv 6) (pe_ix ix_str (pv 2) (pe_ix ix_list (pv 4) (pv 3) (fun _ _ => rfl)) (fun _ _ => rfl))) (pa_cons (pe_op op_add_str (pv 6) (pe_ix ix_str (pv 2) (pe_op op_mod (pe_op op_add (pe_ix ix_list (pv 4) (pv 3) (fun _ _ => rfl)) pe_int) pe_int) (fun _ _ => rfl))) pa_nil))))))))
      (pss_one (ps_ret (pe_callTy call_tuple_of (by rfl) T.m_tuple (by decide +kernel) (pa_cons (pe_callB cr_sortedS (by rfl) T.m_sorted (by decide +kernel) (pa_cons (pe_lc (own := [("_law_k", 3)]) (g := gName 3) (tt := tYes) (by rfl) S_w_names.nd (pi_range1 (by rfl) T.m_range (pa_cons (pv 1) pa_nil)) (blkOk_by (own := [("_law_k", 3)]) (N := N_w_names) (sc := defScope s_w_names) (by decide +kernel)) (fun _ _ _ _ _ => (pg_name (i := 3) S_w_names.nd rfl (.inl rfl))) (fun _ _ _ _ _ => pts_nil) (fun _ _ _ _ _ => (pe_bmK (K1 := K) rfl PySem.F.plainAttrs_list PySem.F.slot_list_pop PySem.F.type_list_pop mt_popAt (pv 5) (pa_cons (pe_call G_w_draw hr (by rfl) T.g_w_draw T.F_w_draw.kp T.b_w_draw .nil pass0 (pa_cons (pv 0) (pa_cons (pe_callB (r := rLenK K) call_lenK (by rfl) T.m_len PySem.boot_len (pa_cons (pv 5) pa_nil)) pa_nil))) pa_nil)))) pa_nil)) pa_nil)))))))), ?_⟩
    refine ⟨8, rfl, by decide, by decide, fun F nF => ?_⟩
    refine lc_range (lo := 0) (n := 8) (fun i Hx => ∃ fs : List Int, Hx F = some (.lst (fs.map V.int)) ∧ fs.length = i ∧ (∀ f ∈ fs, 0 ≤ f ∧ f < 26) ∧ FeedC Hx t c (n + i) ∧ Kp t H Hx) ⟨[], upd_same, rfl, (fun f hf => by cases hf), hT.new nF, (Kp.refl t H).new nF⟩ ?_ ?_
    · rintro i Hx hi ⟨fs, hF, hl, hb, hTx, hKx⟩
      obtain ⟨f1, f2⟩ := hT.ne nF
      refine ⟨rfl, tYesT ?_⟩
      refine ⟨_, rfl, t, 26, n + i, c, rfl, by decide, by decide, hTx, by omega, fun v H1 v0 v1 hT1 hK1 => ?_⟩
      have h1 := hK1 _ _ f1 hF
      refine ⟨_, h1, small1000 (by rw [List.length_map]; omega), fs ++ [v], by rw [upd_same, List.map_append]; rfl, by rw [List.length_append, hl]; rfl, fun f hf => ?_, hT1.updO f1 f2, kp_fresh nF (hKx.trans hK1)⟩
      rcases List.mem_append.mp hf with h | h
      · exact hb f h
      · rw [List.mem_singleton.mp h]; exact ⟨v0, v1⟩
    · rintro H1 ⟨fs, hF, hl, hb, hT1, hK1⟩
      obtain ⟨f1, f2⟩ := hT.ne nF
      refine ⟨sz (by show 0 ≤ 1000; decide), fun p0 n0 => ?_⟩
      have s0 := same_upd (o := .lst []) n0
      refine ⟨8, rfl, by decide, by decide, ?_⟩
      refine for_range (lo := 0) (n := 8) (fun i σ Hx => ∃ (y3 y6 y7 : Option V) (p : Addr) (ws : List Str), σ = [some (.ref t), some (.int m), some (.str "abcdefghijklmnopqrstuvwxyz"), y3, some (.ref F), some (.ref p), y6, y7] ∧ Hx p = some (.lst (ws.map V.str)) ∧ Pool ws i ∧ Same H1 Hx ∧ H1 p = none) ⟨_, _, _, p0, [], rfl, upd_same, ⟨rfl, (fun z hz => by cases hz), (fun z hz => by cases hz), List.nodup_nil⟩, s0, n0⟩ ?_ ?_
      · rintro i σ Hx hi ⟨y3, y6, y7, p, ws, rfl, hp, po, sx, np⟩
        have hFx := sx _ _ hF
        refine ⟨⟨_, rfl⟩, _, rfl, _, rfl, _, rfl, F, _, rfl, .inl (.inl hFx), fun C nC => ?_⟩
        have ec : cutV (fs.map V.int) none (some (0 + (i : Int))) = (fs.take i).map V.int := by
          unfold cutV
          rw [HT.sIx_none, show HT.sIx (fs.map V.int).length (fs.map V.int).length (some (0 + (i : Int))) = min i (fs.map V.int).length from by rw [Int.zero_add]; exact HT.sIx_nat _ _ i]
          simp only [List.drop_zero, Nat.sub_zero, List.length_map, ← List.map_take]
          congr 1
          rw [← List.take_take]
          simp
        rw [ec]
        have sC := same_upd (o := .lst ((fs.take i).map V.int)) nC
        have lt : (fs.take i).length = i := by rw [List.length_take]; omega
        have bt : ∀ f ∈ fs.take i, 0 ≤ f ∧ f < 26 := fun f hf => hb f (List.mem_of_mem_take hf)
        refine ⟨C, rfl, ⟨_, .inl (.inl upd_same)⟩, fun D nD => ?_⟩
        have sD := fun o => same_upd (o := o) nD
        have hC2 := fun o => sD o _ _ (upd_same (H := Hx) (a := C) (o := .lst ((fs.take i).map V.int)))
        refine lc_list (xs := (fs.take i).map V.int) (fun j H' => ∃ ks : List Nat, H' = upd (upd Hx C (.lst ((fs.take i).map V.int))) D (.lst ((ks.map sg).map V.str)) ∧ ks.length = j ∧ ∀ k ∈ ks, 97 ≤ k ∧ k ≤ 122) ⟨[], rfl, rfl, fun k hk => (by cases hk)⟩ (fun j H' hj h => by obtain ⟨ks, rfl, _⟩ := h; exact .inl (.inl (hC2 _))) ?_ ?_
        · rintro j x H' hx ⟨ks, rfl, hl2, hk⟩
          obtain ⟨f, hf, rfl⟩ : ∃ f, (fs.take i)[j]? = some f ∧ x = V.int f := by
            rw [List.getElem?_map] at hx
            cases e : (fs.take i)[j]? with
            | none => rw [e] at hx; cases hx
            | some y => rw [e] at hx; exact ⟨y, rfl, (Option.some.inj hx).symm⟩
          have bf := bt f (List.mem_of_getElem? hf)
          have hj := (List.getElem?_eq_some_iff.mp hf).1
          refine ⟨rfl, tYesT ⟨_, rfl, _, rfl, _, _, _, rfl, rfl, sz (by decide +kernel), letterX bf.1 bf.2, _, upd_same, small1000 (by rw [List.length_map, List.length_map]; omega), ks ++ [97 + f.toNat], ?_, by rw [List.length_append, hl2]; rfl, fun k hk2 => ?_⟩⟩
          · rw [upd_upd', List.map_append, List.map_append]
            rfl
          · rcases List.mem_append.mp hk2 with h | h
            · exact hk k h
            · rw [List.mem_singleton.mp h]; omega
        · rintro H' ⟨ks, rfl, hl2, hk⟩
          rw [List.length_map, lt] at hl2
          refine ⟨_, D, ks.map sg, rfl, rfl, .inl (.inl (.inl upd_same)), ?_, ?_⟩
          · have : ∀ l : List Nat, ((l.map sg).map (·.length)).sum = l.length := fun l => by
              induction l with
              | nil => rfl
              | cons a r ih =>
                show 1 + ((r.map sg).map (·.length)).sum = r.length + 1
                omega
            rw [this, List.length_map]
            show _ + _ * 0 ≤ _
            omega
          have ej : TL.tl (Txt.join "" (ks.map sg)) = ks := by
            rw [TL.join_eq]
            exact join_sg
          have hlen : (Txt.join "" (ks.map sg)).length ≤ 8 := by rw [len_tl, ej]; omega
          generalize Txt.join "" (ks.map sg) = hd at ej hlen
          obtain ⟨f, hf⟩ : ∃ f, fs[i]? = some f := ⟨_, List.getElem?_eq_getElem (by omega)⟩
          have bf := hb f (List.mem_of_getElem? hf)
          have sA := (sx.trans sC).trans (sD (.lst ((ks.map sg).map V.str)))
          have sB := sC.trans (sD (.lst ((ks.map sg).map V.str)))
          have hp2 := sB _ _ hp
          generalize upd (upd Hx C (.lst ((fs.take i).map V.int))) D (.lst ((ks.map sg).map V.str)) = H3 at sA hp2 ⊢
          have hF3 := sA _ _ hF
          have af : atI (fs.map V.int) (0 + (i : Int)) = some (.int f) := by
            rw [Int.zero_add]
            exact atI_nat (by rw [List.getElem?_map, hf]; rfl)
          have m0 := Int.emod_nonneg (f + 1) (show (26 : Int) ≠ 0 by decide)
          have m1 := Int.emod_lt_of_pos (f + 1) (show (0 : Int) < 26 by decide)
          refine ⟨_, rfl, _, rfl, _, rfl, _, rfl, _, rfl, F, _, _, _, rfl, rfl, .inl (.inl hF3), af, _, _, _, rfl, rfl, sz (by decide +kernel), letterX bf.1 bf.2, _, _, rfl, rfl, sz (by show hd.length + 1 ≤ _; omega), _, rfl, _, rfl, _, rfl, _, rfl, F, _, _, _, rfl, rfl, .inl (.inl hF3), af, _, _, rfl, rfl, _, _, rfl, rfl, (show (0 : Int) < 26 by decide), _, _, _, rfl, rfl, sz (by decide +kernel), letterX m0 m1, _, _, rfl, rfl, sz (by show hd.length + 1 ≤ _; omega), sz (by show 2 ≤ 1000; decide), fun b nb => ?_⟩
          have s4 := fun o => same_upd (o := o) nb
          refine ⟨p, b, _, _, rfl, rfl, s4 _ _ _ hp2, upd_same, sz (by rw [List.length_map, po.len]; show _ + 2 ≤ _; omega), fun p' np' => ?_⟩
          have s5 := fun o => same_upd (o := o) np'
          refine ⟨_, _, _, p', ws ++ [hd ++ sg (97 + f.toNat), hd ++ sg (97 + ((f + 1) % 26).toNat)], rfl, by rw [upd_same, List.map_append]; rfl, po.next (by omega) (hd := ks) (by omega) hk (a := 97 + f.toNat) (b := 97 + ((f + 1) % 26).toNat) (by omega) (by omega) (by omega) (by rw [TL.tl_append, ej]; rfl) (by rw [TL.tl_append, ej]; rfl), (sA.trans (s4 _)).trans (s5 _), ?_⟩
          cases e : H1 p' with
          | none => rfl
          | some o => rw [s4 _ _ _ (sA _ _ e)] at np'; cases np'
      · rintro σ H2 ⟨y3, y6, y7, p, ws, rfl, hp, po, s2, np⟩
        have hT2 := hT1.same s2
        have hK2 := hK1.trans (Kp.of_same s2)
        obtain ⟨q1, q2⟩ := hT1.ne np
        have fp := kp_none hK1 np q1
        refine ⟨_, rfl, m, rfl, by omega, by omega, fun D nD => ?_⟩
        obtain ⟨d1, d2⟩ := hT2.ne nD
        have fD := kp_none hK2 nD d1
        have dp : p ≠ D := ne_of_none hp nD
        refine lc_range (lo := 0) (n := m) (fun i Hx => ∃ ws ds : List Str, Hx p = some (.lst (ws.map V.str)) ∧ Hx D = some (.lst (ds.map V.str)) ∧ ws.length + i = 16 ∧ ds.length = i ∧ (∀ z ∈ ws, Nm z) ∧ (∀ z ∈ ds, Nm z) ∧ (ws ++ ds).Nodup ∧ FeedC Hx t c (n + 8 + i) ∧ Kp t H Hx) ⟨ws, [], same_upd nD _ _ hp, upd_same, by rw [po.len], rfl, po.nm, (fun z hz => by cases hz), by rw [List.append_nil]; exact po.nd, hT2.new nD, hK2.new nD⟩ ?_ ?_
        · rintro i Hx hi ⟨ws, ds, h1, h2, lw, ld, wn, dn, nd, hTx, hKx⟩
          refine ⟨rfl, tYesT ⟨_, rfl, .inl ⟨rfl, _, .inl (.inl h1)⟩, _, rfl, _, rfl, p, _, rfl, .inl (.inl (.inl h1)), t, _, n + 8 + i, c, rfl, by rw [List.length_map]; omega, by rw [List.length_map]; omega, hTx, by omega, fun v H4 v0 v1 hT4 hK4 => ?_⟩⟩
          rw [List.length_map] at v1
          have g1 := hK4 _ _ q1 h1
          have g2 := hK4 _ _ d1 h2
          have vw : v.toNat < ws.length := by omega
          have gw : (ws.map V.str)[v.toNat]? = some (.str ws[v.toNat]) := by rw [List.getElem?_map, List.getElem?_eq_getElem vw]; rfl
          refine ⟨p, _, v, v.toNat, .str ws[v.toNat], rfl, rfl, g1, by omega, by omega, ?_, gw, ?_⟩
          · rw [List.length_map]
            exact PyProof.Rows.seqIndex_at v0 (by omega)
          have k2 : upd H4 p (.lst ((ws.map V.str).eraseIdx v.toNat)) D = _ := (upd_ne dp.symm).trans g2
          refine ⟨_, k2, small1000 (by rw [List.length_map]; omega), ws.eraseIdx v.toNat, ds ++ [ws[v.toNat]], ?_, by rw [upd_same, List.map_append]; rfl, by rw [List.length_eraseIdx_of_lt vw]; omega, by rw [List.length_append, ld]; rfl, fun z hz => wn z (List.mem_of_mem_eraseIdx hz), fun z hz => ?_, ?_, (hT4.updO q1 q2).updO d1 d2, kp_fresh fD (kp_fresh fp (hKx.trans hK4))⟩
          · rw [upd_ne dp, upd_same, erase_map]
          · rcases List.mem_append.mp hz with h | h
            · exact dn z h
            · rw [List.mem_singleton.mp h]; exact wn _ (List.getElem_mem vw)
          · refine (List.Perm.nodup_iff ?_).mp nd
            refine ((erase_perm vw).symm.append_right ds).trans ?_
            rw [← List.append_assoc]
            exact (List.perm_append_singleton _ _).symm
        · rintro H3 ⟨ws, ds, h1, h2, lw, ld, wn, dn, nd, hT3, hK3⟩
          refine ⟨D, ds, rfl, .inl (.inl h2), by omega, fun ys z pe so nz => ?_⟩
          have s6 := fun o => same_upd (o := o) nz
          refine ⟨z, _, rfl, .inl ⟨.inl (.inl upd_same), fun r nr => ?_⟩⟩
          have s7 := fun o => same_upd (o := o) nr
          have hT5 := (hT3.same (s6 (.lst (ys.map V.str)))).same (s7 (.tup (ys.map V.str)))
          have hK5 := (hK3.new (o := .lst (ys.map V.str)) nz).new (o := .tup (ys.map V.str)) nr
          have rt := ((hT3.same (s6 (.lst (ys.map V.str)))).ne nr).1
          exact q r ys _ upd_same (by rw [pe.length_eq]; exact ld) (fun z hz => dn z (pe.mem_iff.mp hz)) (pe.nodup_iff.mpr (List.nodup_append.mp nd).2.1) so hT5 hK5 (kp_none (hK3.new nz) nr rt)
end
end L52

set_option Elab.async false
set_option linter.all false
set_option maxRecDepth 100000
set_option maxHeartbeats 2000000
namespace L52
open PySem PySem.Spec PyProof.Rows L2 My
section
variable {P : Program} {w : World} {K : PySem.W.Frag} {mg : Str → Option Value} {base : Heap}
def Kd (k : Str) : Prop := k = "house" ∨ k = "part" ∨ k = "join" ∨ k = "home" ∨ k = "mourn" ∨ k = "ahead" ∨ k = "card" ∨ k = "visit"
theorem nk_home {H : Hp} {r : Addr} {ws : List Int} (e : H r = some (.tup (ws.map V.int))) : Nk H (.ref r) (.tup (ws.map .num)) := by
  refine .tup e ?_
  clear e
  induction ws with
  | nil => exact .nil
  | cons a l ih => exact .cons (.int a) ih
def restK : NestedKey → List NestedKey
  | .tup (_ :: _ :: r) => r
  | _ => []
/-- a saying's names are unlike, and all names of the list -/
def Sy (zs : List Str) (k : NestedKey) : Prop := (∀ d a b, k = .tup [.text "ahead", d, .text a, .text b] → a ∈ zs ∧ b ∈ zs ∧ a ≠ b) ∧ ∀ nm, NestedKey.text nm ∈ restK k → nm ∈ zs
def spFPg : Sp := fun vs H Q _ => ∃ (t c p : Addr) (zs : List Str) (d : Int) (n : Nat), vs = [.ref t, .ref p, .int d] ∧ H p = some (.tup (zs.map V.str)) ∧ 2 ≤ zs.length ∧ zs.length ≤ 9 ∧ (∀ z ∈ zs, Plain z) ∧ zs.Nodup ∧ FeedC H t c n ∧ n < 800000 ∧
  ∀ r z rest H', Nk H' (.ref r) (.tup (.text z :: .num d :: rest)) → Rest z rest → Sy zs (.tup (.text z :: .num d :: rest)) → FeedC H' t c (n + 6) → Kp t H H' → Q (.ref r) H'
theorem ok_fpg (T : Tx K mg w) : FnOk P w K mg base CX0 2 T.f_w_page T.d_w_page ["_law_feed_here", "_law_names_here", "_law_day"] (spFPg) := by
  have G_w_draw : FnOk P w K mg base CX0 1 T.f_w_draw T.d_w_draw ["_law_feed_here", "_law_many"] (spDraw) := ok_draw T
  refine T.F_w_page.ok S_w_page (fun vs H Q E h => ?_) (fun cdv A outer s H vs Q E hr h => ?_)
  · obtain ⟨t, c, p, zs, d, n, rfl, _⟩ := h
    rfl
  · obtain ⟨t, c, p, zs, d, n, rfl, hp, l2, l9, hz, nd, hT, hn, q⟩ := h
    refine ⟨_, (pss_cons (ps_set (i := 3) S_w_page.nd rfl (.inl rfl) (pe_ix ix_list (pe_lst (pa_cons pe_str (pa_cons pe_str (pa_cons pe_str (pa_cons pe_str (pa_cons pe_str (pa_cons pe_str (pa_cons pe_str (pa_cons pe_str (pa_cons pe_str (pa_cons pe_str pa_nil))))))))))) (pe_call G_w_draw hr (by rfl) T.g_w_draw T.F_w_draw.kp T.b_w_draw .nil pass0 (pa_cons (pv 0) (pa_cons pe_int pa_nil))) (fun _ _ => rfl)))
      (pss_cons (ps_set (i := 4) S_w_page.nd rfl (.inl rfl) (pe_call G_w_draw hr (by rfl) T.g_w_draw T.F_w_draw.kp T.b_w_draw .nil pass0 (pa_cons (pv 0) (pa_cons (pe_callB call_len_seq (by rfl) T.m_len PySem.boot_len (pa_cons (pv 1) pa_nil)) pa_nil))))
      (pss_cons (ps_par (i := 5) (j := 6) (by rfl) S_w_page.nd rfl rfl (by decide) rfl rfl (pa_cons (pe_ix ix_tup (pv 1) (pv 4) (fun _ _ => rfl)) (pa_cons (pe_ix ix_tup (pv 1) (pe_op op_mod (pe_op op_add (pe_op op_add (pv 4) pe_int) (pe_call G_w_draw hr (by rfl) T.g_w_draw T.F_w_draw.kp T.b_w_draw .nil pass0 (pa_cons (pv 0) (pa_cons (pe_op op_sub (pe_callB call_len_seq (by rfl) T.m_len PySem.boot_len (pa_cons (pv 1) pa_nil)) pe_int) pa_nil)))) (pe_callB call_len_seq (by rfl) T.m_len PySem.boot_len (pa_cons (pv 1) pa_nil))) (fun _ _ => rfl)) pa_nil)) (by rfl))
      (pss_cons (ps_set (i := 7) S_w_page.nd rfl (.inl rfl) (pe_ix ix_tup (pe_tup (pa_cons (pe_tup (pa_cons pe_int (pa_cons pe_int pa_nil))) (pa_cons (pe_tup pa_nil) (pa_cons (pe_tup (pa_cons pe_int (pa_cons pe_int (pa_cons pe_int pa_nil)))) pa_nil)))) (pe_call G_w_draw hr (by rfl) T.g_w_draw T.F_w_draw.kp T.b_w_draw .nil pass0 (pa_cons (pv 0) (pa_cons pe_int pa_nil))) (fun _ _ => rfl)))
      (pss_cons (ps_if (pt_cmpR op_in_seq (pv 3) (pe_tup (pa_cons pe_str (pa_cons pe_str pa_nil))) (by rfl)) (pss_one (ps_ret (pe_tup (pa_cons (pv 3) (pa_cons (pv 2) (pa_cons (pv 5) (pa_cons (pv 7) pa_nil))))))) pss_nil)
      (pss_cons (ps_if (pt_cmpR op_eq (pv 3) pe_str (nomark _)) (pss_one (ps_ret (pe_tup (pa_cons (pv 3) (pa_cons (pv 2) (pa_cons (pv 5) (pa_cons (pv 6) (pa_cons (pv 7) pa_nil)))))))) pss_nil)
      (pss_one (ps_ret (pe_ifExp (pt_cmpR op_eq (pv 3) pe_str (nomark _)) (pe_tup (pa_cons (pv 3) (pa_cons (pv 2) (pa_cons (pv 5) (pa_cons (pe_op op_add pe_int (pe_call G_w_draw hr (by rfl) T.g_w_draw T.F_w_draw.kp T.b_w_draw .nil pass0 (pa_cons (pv 0) (pa_cons pe_int pa_nil)))) pa_nil))))) (pe_tup (pa_cons (pv 3) (pa_cons (pv 2) (pa_cons (pv 5) (pa_cons (pv 6) pa_nil)))))))))))))), ?_⟩
    have pt : p ≠ t := fun z => by
      obtain ⟨ns, sp, re, ca, e1, _⟩ := hT
      rw [z, e1] at hp
      cases hp
    refine ⟨sz (by show 10 ≤ 1000; decide), fun p1 n1 => ⟨_, rfl, t, 10, n, c, rfl, by decide, by decide, hT.new n1, by omega, fun v H1 v0 v1 hT1 hK1 => ?_⟩⟩
    have hl1 := hK1 _ _ (hT.ne n1).1 upd_same
    have kind : ∃ k : Str, atI [V.str "ahead", .str "join", .str "part", .str "ahead", .str "house", .str "ahead", .str "home", .str "mourn", .str "visit", .str "card"] v = some (.str k) ∧ Kd k := by
      have h12 : v = 0 ∨ v = 1 ∨ v = 2 ∨ v = 3 ∨ v = 4 ∨ v = 5 ∨ v = 6 ∨ v = 7 ∨ v = 8 ∨ v = 9 := by omega
      unfold Kd
      rcases h12 with rfl | rfl | rfl | rfl | rfl | rfl | rfl | rfl | rfl | rfl <;> exact ⟨_, rfl, by simp⟩
    obtain ⟨k, hk, kd⟩ := kind
    refine ⟨p1, _, v, .str k, rfl, rfl, .inl (.inl hl1), hk, ?_⟩
    have hp1 := hK1 _ _ pt (same_upd n1 _ _ hp)
    have len : (zs.map V.str).length = zs.length := List.length_map _
    refine ⟨_, rfl, _, rfl, p, _, rfl, .inr (.inl (.inl hp1)), t, _, n + 1, c, rfl, by omega, by omega, hT1, by omega, fun a H2 a0 a1 hT2 hK2 => ?_⟩
    have hp2 := hK2 _ _ pt hp1
    have az : a.toNat < zs.length := by omega
    refine ⟨_, rfl, _, rfl, p, _, a, .str zs[a.toNat], rfl, rfl, .inl (.inl hp2), atI_int a0 (by rw [List.getElem?_map, List.getElem?_eq_getElem az]; rfl), ?_⟩
    refine ⟨_, rfl, _, rfl, _, _, rfl, rfl, _, rfl, _, rfl, p, _, rfl, .inr (.inl (.inl hp2)), _, _, rfl, rfl, t, _, n + 2, c, rfl, by omega, by omega, hT2, by omega, fun b H3 b0 b1 hT3 hK3 => ?_⟩
    have hp3 := hK3 _ _ pt hp2
    have m0 := Int.emod_nonneg (a + 1 + b) (show ((zs.map V.str).length : Int) ≠ 0 by omega)
    have m1 := Int.emod_lt_of_pos (a + 1 + b) (show 0 < ((zs.map V.str).length : Int) by omega)
    have cz : ((a + 1 + b) % ((zs.map V.str).length : Int)).toNat < zs.length := by omega
    refine ⟨_, _, rfl, rfl, _, rfl, p, _, rfl, .inr (.inl (.inl hp3)), _, _, rfl, rfl, by omega, p, _, _, .str zs[((a + 1 + b) % ((zs.map V.str).length : Int)).toNat], rfl, rfl, .inl (.inl hp3), atI_int m0 (by rw [List.getElem?_map, List.getElem?_eq_getElem cz]; rfl), ?_⟩
    have f1 := List.getElem_mem az
    have f2 := List.getElem_mem cz
    have ne : a.toNat ≠ ((a + 1 + b) % ((zs.map V.str).length : Int)).toNat := fun z => by
      have a2 : (a + 1 + b) % ((zs.map V.str).length : Int) = a := by omega
      rw [len] at a2 a1 b1
      by_cases lt : a + 1 + b < (zs.length : Int)
      · rw [Int.emod_eq_of_lt (by omega) lt] at a2; omega
      · have : (a + 1 + b) % (zs.length : Int) = a + 1 + b - zs.length := by
          rw [← Int.sub_emod_right, Int.emod_eq_of_lt (by omega) (by omega)]
        omega
    have f3 : zs[a.toNat] ≠ zs[((a + 1 + b) % ((zs.map V.str).length : Int)).toNat] := fun z => ne ((List.getElem_inj nd).mp z)
    generalize zs[a.toNat] = z1 at f1 f3 ⊢
    generalize zs[((a + 1 + b) % ((zs.map V.str).length : Int)).toNat] = z2 at f2 f3 ⊢
    have g1 := hz _ f1
    have g2 := hz _ f2
    have hK : Kp t H H3 := (((Kp.refl t H).new n1).trans hK1).trans (hK2.trans hK3)
    refine ⟨_, _, rfl, sz (by show 2 ≤ 1000; decide), fun ha na => ⟨sz (by show 0 ≤ 1000; decide), fun hb nb => ⟨sz (by show 3 ≤ 1000; decide), fun hc nc => ⟨sz (by show 3 ≤ 1000; decide), fun ho no => ?_⟩⟩⟩⟩
    have sa := same_upd (o := .tup [.int 0, .int 3]) na
    have sb := same_upd (o := .tup []) nb
    have sc := same_upd (o := .tup [.int 1, .int 2, .int 6]) nc
    have so := same_upd (o := .tup [.ref ha, .ref hb, .ref hc]) no
    have sA := ((sa.trans sb).trans sc).trans so
    have ea := so _ _ (sc _ _ (sb _ _ (upd_same (H := H3) (a := ha) (o := .tup [.int 0, .int 3]))))
    have eb := so _ _ (sc _ _ (upd_same (H := upd H3 ha (.tup [.int 0, .int 3])) (a := hb) (o := .tup [])))
    have ec := so _ _ (upd_same (H := upd (upd H3 ha (.tup [.int 0, .int 3])) hb (.tup [])) (a := hc) (o := .tup [.int 1, .int 2, .int 6]))
    have eo := upd_same (H := upd (upd (upd H3 ha (.tup [.int 0, .int 3])) hb (.tup [])) hc (.tup [.int 1, .int 2, .int 6])) (a := ho) (o := .tup [.ref ha, .ref hb, .ref hc])
    generalize upd (upd (upd (upd H3 ha (.tup [.int 0, .int 3])) hb (.tup [])) hc (.tup [.int 1, .int 2, .int 6])) ho (.tup [.ref ha, .ref hb, .ref hc]) = H4 at sA ea eb ec eo ⊢
    clear sa sb sc so na nb nc no
    have hT4 := hT3.same sA
    have tupne : ∀ (x : Addr) (ys : List V), H4 x = some (.tup ys) → x ≠ t := fun x ys e z => by
      obtain ⟨ns, sp, re, ca, e1, _⟩ := hT4
      rw [z, e1] at e
      cases e
    refine ⟨_, rfl, t, 3, n + 3, c, rfl, by decide, by decide, hT4, by omega, fun u H5 u0 u1 hT5 hK5 => ?_⟩
    have home : ∃ (hx : Addr) (ws : List Int), atI [V.ref ha, .ref hb, .ref hc] u = some (.ref hx) ∧ H5 hx = some (.tup (ws.map V.int)) ∧ HomeW ws := by
      have h3 : u = 0 ∨ u = 1 ∨ u = 2 := by omega
      rcases h3 with rfl | rfl | rfl
      · exact ⟨ha, [0, 3], rfl, hK5 _ _ (tupne _ _ ea) ea, by decide, by decide⟩
      · exact ⟨hb, [], rfl, hK5 _ _ (tupne _ _ eb) eb, by decide, by decide⟩
      · exact ⟨hc, [1, 2, 6], rfl, hK5 _ _ (tupne _ _ ec) ec, by decide, by decide⟩
    obtain ⟨hx, ws, hat, hh, hw⟩ := home
    refine ⟨ho, _, u, .ref hx, rfl, rfl, .inl (.inl (hK5 _ _ (tupne _ _ eo) eo)), hat, ?_⟩
    have hK : Kp t H H5 := (hK.trans (.of_same sA)).trans hK5
    clear hK1 hK2 hK3 hK5 hl1 hp1 hp2 hp3 sA ea eb ec eo hat
    refine ⟨_, rfl, sz (by show 2 ≤ 1000; decide), fun p4 n4 => ?_⟩
    have hT6 := hT5.new (o := .tup [.str "house", .str "home"]) n4
    have hK6 := hK.new (o := .tup [.str "house", .str "home"]) n4
    refine ⟨p4, _, rfl, .inr (.inl (.inl upd_same)), rfl, rfl, _, rfl, ite2 (fun e => ?_) (fun e => ?_)⟩
    · refine ⟨_, rfl, _, rfl, _, rfl, _, rfl, sz (by show 4 ≤ 1000; decide), fun p6 n6 => ?_⟩
      have hr6 := same_upd (o := .tup [.str k, .int d, .str z1, .ref hx]) n6 _ _ (same_upd n4 _ _ hh)
      refine q p6 k [.text z1, .tup (ws.map .num)] _ (.tup upd_same (.cons (.str k) (.cons (.int d) (.cons (.str z1) (.cons (nk_home hr6) .nil))))) ?_ ⟨fun d a b e => by simp at e, fun nm hn => by simp [restK] at hn; rcases hn with rfl | rfl <;> assumption⟩ ((hT6.mono (by omega)).new n6) (hK6.new n6)
      rcases kd with rfl | rfl | rfl | rfl | rfl | rfl | rfl | rfl <;> first | exact .house g1 hw | exact .home g1 hw | exact absurd e (by decide +kernel)
    refine ⟨_, rfl, rfl, _, rfl, ite2 (fun e2 => ?_) (fun e2 => ?_)⟩
    · refine ⟨_, rfl, _, rfl, _, rfl, _, rfl, _, rfl, sz (by show 5 ≤ 1000; decide), fun p6 n6 => ?_⟩
      have hr6 := same_upd (o := .tup [.str k, .int d, .str z1, .str z2, .ref hx]) n6 _ _ (same_upd n4 _ _ hh)
      refine q p6 k [.text z1, .text z2, .tup (ws.map .num)] _ (.tup upd_same (.cons (.str k) (.cons (.int d) (.cons (.str z1) (.cons (.str z2) (.cons (nk_home hr6) .nil)))))) ?_ ⟨fun d a b e => by simp at e, fun nm hn => by simp [restK] at hn; rcases hn with rfl | rfl <;> assumption⟩ ((hT6.mono (by omega)).new n6) (hK6.new n6)
      rcases kd with rfl | rfl | rfl | rfl | rfl | rfl | rfl | rfl <;> first | exact .part g1 g2 hw | exact absurd e2 (by decide +kernel)
    refine ⟨_, rfl, rfl, _, rfl, ite2 (fun e3 => ?_) (fun e3 => ?_)⟩
    · refine ⟨_, rfl, _, rfl, _, rfl, _, rfl, t, 60, n + 4, c, rfl, by decide, by decide, hT6, by omega, fun u2 H7 w0 w1 hT7 hK7 => ⟨_, _, rfl, rfl, sz (by show 4 ≤ 1000; decide), fun p7 n7 => ?_⟩⟩
      refine q p7 k [.text z1, .num (1 + u2)] _ (.tup upd_same (.cons (.str k) (.cons (.int d) (.cons (.str z1) (.cons (.int _) .nil))))) ?_ ⟨fun d a b e => by simp at e, fun nm hn => by simp [restK] at hn; rcases hn with rfl | rfl <;> assumption⟩ ((hT7.mono (by omega)).new n7) ((hK6.trans hK7).new n7)
      rcases kd with rfl | rfl | rfl | rfl | rfl | rfl | rfl | rfl <;> first | exact .mourn g1 (by omega) (by omega) | exact absurd e3 (by decide +kernel)
    · refine ⟨_, rfl, _, rfl, _, rfl, _, rfl, sz (by show 4 ≤ 1000; decide), fun p7 n7 => ?_⟩
      refine q p7 k [.text z1, .text z2] _ (.tup upd_same (.cons (.str k) (.cons (.int d) (.cons (.str z1) (.cons (.str z2) .nil))))) ?_ ⟨fun d a b e => ?_, fun nm hn => by simp [restK] at hn; rcases hn with rfl | rfl <;> assumption⟩ ((hT6.mono (by omega)).new n7) (hK6.new n7)
      · rcases kd with rfl | rfl | rfl | rfl | rfl | rfl | rfl | rfl <;> first | exact .join g1 g2 | exact .ahead g1 g2 | exact .card g1 g2 | exact .visit g1 g2 | exact absurd (by decide +kernel) e | exact absurd (by decide +kernel) e2 | exact absurd (by decide +kernel) e3
      · injection e with e
        simp only [List.cons.injEq, NestedKey.text.injEq] at e
        obtain ⟨_, _, rfl, rfl, _⟩ := e
        exact ⟨f1, f2, f3⟩
end
end L52

set_option Elab.async false
set_option linter.all false
set_option maxRecDepth 100000
set_option maxHeartbeats 2000000
namespace L52
open PySem PySem.Spec PyProof.Rows L2 My
section
variable {P : Program} {w : World} {K : PySem.W.Frag} {mg : Str → Option Value} {base : Heap}
def spAt (i : Nat) : Sp := fun vs H Q _ => ∃ (a : Addr) (xs : List V) (v : V), vs = [.ref a] ∧ H a = some (.tup xs) ∧ xs[i]? = some v ∧ Q v H
theorem ok_page_day (T : Tx K mg w) : FnOk P w K mg base CX0 1 T.f_page_day T.d_page_day ["page"] ((spAt 1)) := by
  refine T.F_page_day.ok S_page_day (fun vs H Q E h => ?_) (fun cdv A outer s H vs Q E hr h => ?_)
  · obtain ⟨a, xs, v, rfl, _⟩ := h
    rfl
  · obtain ⟨a, xs, v, rfl, ha, e, q⟩ := h
    exact ⟨_, (pss_one (ps_ret (pe_ix ix_tup (pv 0) pe_int (fun _ _ => rfl)))), _, rfl, a, _, _, v, rfl, rfl, .inl (.inl ha), at_of (j := 1) rfl e, q⟩
theorem ok_page_kind (T : Tx K mg w) : FnOk P w K mg base CX0 1 T.f_page_kind T.d_page_kind ["page"] ((spAt 0)) := by
  refine T.F_page_kind.ok S_page_kind (fun vs H Q E h => ?_) (fun cdv A outer s H vs Q E hr h => ?_)
  · obtain ⟨a, xs, v, rfl, _⟩ := h
    rfl
  · obtain ⟨a, xs, v, rfl, ha, e, q⟩ := h
    exact ⟨_, (pss_one (ps_ret (pe_ix ix_tup (pv 0) pe_int (fun _ _ => rfl)))), _, rfl, a, _, _, v, rfl, rfl, .inl (.inl ha), at_of (j := 0) rfl e, q⟩
theorem ixK_at {z : Str} {r : List NestedKey} (h : Rest z r) : kinds[ixK z]? = some z ∧ ∀ m, m < ixK z → kinds[m]? ≠ some z := by
  cases h <;> exact ⟨by decide +kernel, by decide +kernel⟩
theorem ok_place (T : Tx K mg w) : FnOk P w K mg base CX0 2 T.f_page_place T.d_page_place ["page"] (spKey place PgK) := by
  have G_page_day : FnOk P w K mg base CX0 1 T.f_page_day T.d_page_day ["page"] ((spAt 1)) := ok_page_day T
  have G_page_kind : FnOk P w K mg base CX0 1 T.f_page_kind T.d_page_kind ["page"] ((spAt 0)) := ok_page_kind T
  refine T.F_page_place.ok S_page_place (fun vs H Q E h => ?_) (fun cdv A outer s H vs Q E hr h => ?_)
  · obtain ⟨x, k, rfl, _⟩ := h
    rfl
  · obtain ⟨x, k, rfl, hx, ⟨z, d, r, rfl, hr2, d0, d1⟩, q⟩ := h
    cases hx with
    | @tup a xs _ ha hk =>
      cases hk with
      | @cons v1 _ xs1 _ n1 hk =>
        cases n1
        cases hk with
        | @cons v2 _ xs2 _ n2 hk =>
          cases n2
          refine ⟨_, (pss_one (ps_ret (pe_tup (pa_cons (pe_call G_page_day hr (by rfl) T.g_page_day T.F_page_day.kp T.b_page_day .nil pass0 (pa_cons (pv 0) pa_nil)) (pa_cons (pe_bm PySem.F.plainAttrs_tuple PySem.F.slot_tuple_index PySem.F.type_tuple_index mt_tup_index (pe_glob (v := .ref T.a_KINDS) (by rfl) T.c_KINDS rfl) (pa_cons (pe_call G_page_kind hr (by rfl) T.g_page_kind T.F_page_kind.kp T.b_page_kind .nil pass0 (pa_cons (pv 0) pa_nil)) pa_nil)) (pa_cons (pv 0) pa_nil)))))), ?_⟩
          obtain ⟨i1, i2⟩ := ixK_at hr2
          refine ⟨_, rfl, a, _, .int d, rfl, ha, rfl, ?_⟩
          refine ⟨.inr (.inl ⟨rfl, T.wn_KINDS⟩), _, rfl, a, _, .str z, rfl, ha, rfl, ?_⟩
          refine ⟨T.a_KINDS, kinds, z, ixK z, rfl, rfl, .inr T.w_KINDS, i1, i2, _, rfl, sz (by show 3 ≤ 1000; decide), fun p np => ?_⟩
          have sm := same_upd (o := .tup [.int d, .int (ixK z), .ref a]) np
          refine q _ _ sm (.tup upd_same (.cons (.int d) (.cons (.int _) (.cons ?_ .nil))))
          exact .tup (sm _ _ ha) (.cons (.str z) (.cons (.int d) (hk.at (.same sm))))
/-- a list's or a tuple's pages -/
def PgsAt (H : Hp) (xs : List V) (ks : List NestedKey) : Prop := NkAll H xs ks ∧ ∀ k ∈ ks, PgK k
def spOrd : Sp := fun vs H Q _ => ∃ (a : Addr) (xs : List V) (ks : List NestedKey), vs = [.ref a] ∧ (H a = some (.lst xs) ∨ H a = some (.tup xs)) ∧ PgsAt H xs ks ∧ xs.length ≤ 1000 ∧
  ∀ r ys ls H', Same H H' → H' r = some (.tup ys) → NkAll H' ys ls → Ord ls → (∀ k, k ∈ ls ↔ k ∈ ks) → ys.length ≤ xs.length → Q (.ref r) H'
/-- the dict of the pages that were met, amid the comprehension -/
def InvO (P : Program) (w : World) (H : Hp) (D : Addr) (ks : List NestedKey) (i : Nat) (H2 : Hp) : Prop := ∃ (ps : List (NestedKey × Addr)) (o : HO), H2 = upd H D o ∧ NdAt P w H2 D ps ∧ (ps.map (·.1)).Nodup ∧ (∀ k, k ∈ ps.map (·.1) ↔ k ∈ ks.take i) ∧ ps.length ≤ i ∧ ∀ p ∈ ps, PgK p.1
theorem ok_order (T : Tx K mg w) : FnOk P w K mg base CX0 4 T.f_in_order T.d_in_order ["some"] (spOrd) := by
  have K_page_place : FnOk P w K mg base CX0 2 T.f_page_place T.d_page_place ["page"] (spKey place PgK) := ok_place T
  refine T.F_in_order.ok S_in_order (fun vs H Q E h => ?_) (fun cdv A outer s H vs Q E hr h => ?_)
  · obtain ⟨a, xs, ks, rfl, _⟩ := h
    rfl
  · obtain ⟨a, xs, ks, rfl, ha, ⟨nk, pk⟩, lx, q⟩ := h
    have lk := nk.length
    /- what holds between two turns -/
    have turn : ∀ (D : Addr), H D = none → ∀ (i : Nat) (x : V) (H2 : Hp), xs[i]? = some x → InvO P w H D ks i H2 →
        ∃ b k ps, x = .ref b ∧ NdAt P w H2 D ps ∧ Nk H2 (.ref b) k ∧ k.depth ≤ 8 ∧ ps.length < sizeLine ∧ InvO P w H D ks (i + 1) (upd H2 D (ND P w D (putN ps k b))) := by
      rintro D nD i x H2 hx ⟨ps, o, rfl, hn, nd, hm, hl, hp⟩
      obtain ⟨k, hk, nx⟩ := nk.get hx
      have pgk := pk k (List.mem_of_getElem? hk)
      have dk := (place_depth pgk).2
      have t : Tups H (upd H D o) := fun c ys e => by rw [upd_ne (ne_of_none e nD)]; exact e
      obtain ⟨b, rfl⟩ : ∃ b, x = .ref b := by
        obtain ⟨z, d, r, rfl, _⟩ := pgk
        cases nx with
        | tup _ _ => exact ⟨_, rfl⟩
      have hi := (List.getElem?_eq_some_iff.mp hx).1
      obtain ⟨g1, g2, g3⟩ := putN_keys ps k b
      refine ⟨b, k, ps, rfl, hn, nx.at t, dk, small1000 (by omega), putN ps k b, _, upd_upd', nd_put hn (nx.at t) dk (nd_ntup hn), g2 nd, fun y => ?_, by omega, fun p hp2 => ?_⟩
      · rw [g1 y, hm y, List.take_add_one, hk]
        simp only [Option.toList, List.mem_append, List.mem_singleton]
        exact Or.comm
      · rcases putN_mem hp2 with h | h
        · exact hp p h
        · rw [h]; exact pgk
    have start : ∀ (D : Addr), H D = none → InvO P w H D ks 0 (upd H D (.dK [])) := fun D nD => ⟨[], _, rfl, ⟨.inr ⟨rfl, upd_same⟩, fun p hp => by cases hp⟩, List.nodup_nil, fun k => by simp, Nat.zero_le _, fun p hp => by cases hp⟩
    have stay : ∀ {D : Addr} {i : Nat} {H2 : Hp}, H D = none → InvO P w H D ks i H2 → Same H H2 := fun {D i H2} nD h => by
      obtain ⟨ps, o, rfl, _⟩ := h
      exact same_upd nD
    rcases ha with ha | ha
    · refine ⟨_, (pss_cons (ps_setDcN (i := 1) (own := [("page", 2)]) (g := gName 2) (tt := tYes) hr.units (by rfl) S_in_order.nd rfl rfl (sw_dict rfl rfl rfl (by decide +kernel)) (pi_list (pv 0)) (blkOk_by (own := [("page", 2)]) (N := N_in_order) (sc := defScope s_in_order) (by decide +kernel)) (fun _ _ _ _ _ => (pg_name (i := 2) S_in_order.nd rfl (.inl rfl))) (fun _ _ _ _ _ => pts_nil) (fun _ _ _ _ _ => (pv 2)) (fun _ _ _ _ _ => pe_bl))
      (pss_one (ps_ret (pe_callTy call_tuple_of (by rfl) T.m_tuple (by decide +kernel) (pa_cons (pe_callBK (cr_sortD (by rfl) K_page_place hr T.b_page_place) (by rfl) T.m_sorted (by decide +kernel) (pa_cons (pv 1) pa_nil) (pk_cons (pe_glob (v := .ref T.f_page_place) (by rfl) T.g_page_place rfl) pk_nil)) pa_nil))))), ?_⟩
      refine ⟨_, rfl, a, rfl, ⟨_, .inl (.inl ha)⟩, fun D nD => dcN_it walk_list (InvO P w H D ks) (start D nD) (fun i H2 hi h => .inl (.inl (stay nD h _ _ ha))) ?_ ?_⟩
      · rintro i x H2 H3 hi h ⟨rfl, hx⟩
        obtain ⟨b, k, ps, rfl, c1, c2, c3, c4, c5⟩ := turn D nD i x H3 hx h
        exact ⟨rfl, tYesT ⟨_, rfl, b, k, ps, rfl, rfl, c1, c2, c3, c4, c5⟩⟩
      · intro H2 h
        obtain ⟨ps, o, eH, hn, nd, hm, hl, hp⟩ := id h
        rw [List.take_of_length_le (by omega)] at hm
        have sH : Same H H2 := stay nD h
        clear eH h
        refine ⟨_, rfl, D, ps, rfl, rfl, hn, hp, fun p h => place_head (hp p h), fun p h p2 h2 => place_lt (hp p h) (hp p2 h2), fun p h => (place_depth (hp p h)).1, Nat.le_of_lt (small1000 (by omega)), fun H3 p s3 np3 np2 => ?_⟩
        refine ⟨p, _, rfl, .inl ⟨.inl (.inl upd_same), fun l nl => ?_⟩⟩
        have s4 : Same H3 (upd H3 p (.lst (sortD place ps))) := same_upd np3
        have s5 := same_upd (o := .tup (sortD place ps)) nl
        have sA : Same H2 _ := s3.trans (s4.trans s5)
        obtain ⟨ls, l1, l2, l3⟩ := sortD_ok (F := place) (fun _ _ _ _ => rfl) (fun p h => (hn.2 p h).1.at (.same sA)) hp nd
        refine q l _ ls _ (sH.trans sA) upd_same l1 l2 (fun k => (l3 k).trans (hm k)) ?_
        unfold sortD
        rw [List.length_map, List.length_mergeSort, List.length_zip, List.length_map, List.length_map]
        omega
    · refine ⟨_, (pss_cons (ps_setDcN (i := 1) (own := [("page", 2)]) (g := gName 2) (tt := tYes) hr.units (by rfl) S_in_order.nd rfl rfl (sw_dict rfl rfl rfl (by decide +kernel)) (pi_tup (pv 0)) (blkOk_by (own := [("page", 2)]) (N := N_in_order) (sc := defScope s_in_order) (by decide +kernel)) (fun _ _ _ _ _ => (pg_name (i := 2) S_in_order.nd rfl (.inl rfl))) (fun _ _ _ _ _ => pts_nil) (fun _ _ _ _ _ => (pv 2)) (fun _ _ _ _ _ => pe_bl))
      (pss_one (ps_ret (pe_callTy call_tuple_of (by rfl) T.m_tuple (by decide +kernel) (pa_cons (pe_callBK (cr_sortD (by rfl) K_page_place hr T.b_page_place) (by rfl) T.m_sorted (by decide +kernel) (pa_cons (pv 1) pa_nil) (pk_cons (pe_glob (v := .ref T.f_page_place) (by rfl) T.g_page_place rfl) pk_nil)) pa_nil))))), ?_⟩
      refine ⟨_, rfl, a, rfl, ⟨_, .inl (.inl ha)⟩, fun D nD => dcN_it walk_tup (InvO P w H D ks) (start D nD) (fun i H2 hi h => .inl (.inl (stay nD h _ _ ha))) ?_ ?_⟩
      · rintro i x H2 H3 hi h ⟨rfl, hx⟩
        obtain ⟨b, k, ps, rfl, c1, c2, c3, c4, c5⟩ := turn D nD i x H3 hx h
        exact ⟨rfl, tYesT ⟨_, rfl, b, k, ps, rfl, rfl, c1, c2, c3, c4, c5⟩⟩
      · intro H2 h
        obtain ⟨ps, o, eH, hn, nd, hm, hl, hp⟩ := id h
        rw [List.take_of_length_le (by omega)] at hm
        have sH : Same H H2 := stay nD h
        clear eH h
        refine ⟨_, rfl, D, ps, rfl, rfl, hn, hp, fun p h => place_head (hp p h), fun p h p2 h2 => place_lt (hp p h) (hp p2 h2), fun p h => (place_depth (hp p h)).1, Nat.le_of_lt (small1000 (by omega)), fun H3 p s3 np3 np2 => ?_⟩
        refine ⟨p, _, rfl, .inl ⟨.inl (.inl upd_same), fun l nl => ?_⟩⟩
        have s4 : Same H3 (upd H3 p (.lst (sortD place ps))) := same_upd np3
        have s5 := same_upd (o := .tup (sortD place ps)) nl
        have sA : Same H2 _ := s3.trans (s4.trans s5)
        obtain ⟨ls, l1, l2, l3⟩ := sortD_ok (F := place) (fun _ _ _ _ => rfl) (fun p h => (hn.2 p h).1.at (.same sA)) hp nd
        refine q l _ ls _ (sH.trans sA) upd_same l1 l2 (fun k => (l3 k).trans (hm k)) ?_
        unfold sortD
        rw [List.length_map, List.length_mergeSort, List.length_zip, List.length_map, List.length_map]
        omega
end
end L52

set_option Elab.async false
set_option linter.all false
set_option maxRecDepth 100000
set_option maxHeartbeats 2000000
namespace L52
open PySem PySem.Spec PyProof.Rows L2 My
section
variable {P : Program} {w : World} {K : PySem.W.Frag} {mg : Str → Option Value} {base : Heap}
/-- pages drawn so far: their keys, sayings of names of the list -/
structure Pgs (zs : List Str) (H : Hp) (xs : List V) (ks : List NestedKey) : Prop where
  nk : NkAll H xs ks
  pg : ∀ k ∈ ks, PgK k
  sy : ∀ k ∈ ks, Sy zs k
theorem Pgs.at {zs : List Str} {H H' : Hp} {xs : List V} {ks : List NestedKey} (h : Pgs zs H xs ks) (t : Tups H H') : Pgs zs H' xs ks := ⟨h.nk.at t, h.pg, h.sy⟩
theorem Pgs.add {zs : List Str} {H : Hp} {xs ys : List V} {ks ls : List NestedKey} (h : Pgs zs H xs ks) (g : Pgs zs H ys ls) : Pgs zs H (xs ++ ys) (ks ++ ls) := ⟨h.nk.app g.nk, fun k hk => (List.mem_append.mp hk).elim (h.pg k) (g.pg k), fun k hk => (List.mem_append.mp hk).elim (h.sy k) (g.sy k)⟩
theorem Pgs.one {zs : List Str} {H : Hp} {x : V} {k : NestedKey} (n : Nk H x k) (p : PgK k) (s : Sy zs k) : Pgs zs H [x] [k] := ⟨.cons n .nil, fun y hy => by rw [List.mem_singleton.mp hy]; exact p, fun y hy => by rw [List.mem_singleton.mp hy]; exact s⟩
theorem Pgs.nil {zs : List Str} {H : Hp} : Pgs zs H [] [] := ⟨.nil, (fun k hk => by cases hk), (fun k hk => by cases hk)⟩
theorem nk_dropP {H : Hp} : ∀ {xs : List V} {ks : List NestedKey}, NkAll H xs ks → ∀ i : Nat, NkAll H (xs.drop i) (ks.drop i)
  | _, _, h, 0 => h
  | _, _, .nil, _ + 1 => .nil
  | _, _, .cons _ h, i + 1 => nk_dropP h i
theorem nk_takeP {H : Hp} : ∀ {xs : List V} {ks : List NestedKey}, NkAll H xs ks → ∀ i : Nat, NkAll H (xs.take i) (ks.take i)
  | _, _, _, 0 => .nil
  | _, _, .nil, _ + 1 => .nil
  | _, _, .cons n h, i + 1 => .cons n (nk_takeP h i)
theorem Pgs.drop {zs : List Str} {H : Hp} {xs : List V} {ks : List NestedKey} (h : Pgs zs H xs ks) (i : Nat) : Pgs zs H (xs.drop i) (ks.drop i) := ⟨nk_dropP h.nk i, fun k hk => h.pg k (List.mem_of_mem_drop hk), fun k hk => h.sy k (List.mem_of_mem_drop hk)⟩
theorem Pgs.take {zs : List Str} {H : Hp} {xs : List V} {ks : List NestedKey} (h : Pgs zs H xs ks) (i : Nat) : Pgs zs H (xs.take i) (ks.take i) := ⟨nk_takeP h.nk i, fun k hk => h.pg k (List.mem_of_mem_take hk), fun k hk => h.sy k (List.mem_of_mem_take hk)⟩
theorem cut_from {xs : List V} {j : Nat} (h : j ≤ xs.length) : cutV xs (some (j : Int)) none = xs.drop j := by
  unfold cutV
  rw [HT.sIx_none, HT.sIx_nat, Nat.min_eq_left h]
  exact List.take_of_length_le (by rw [List.length_drop]; exact Nat.le_refl _)
theorem cut_to {xs : List V} {j : Nat} : cutV xs none (some (j : Int)) = xs.take j := by
  unfold cutV
  rw [HT.sIx_none, HT.sIx_nat, List.drop_zero, Nat.sub_zero]
  by_cases h : j ≤ xs.length
  · rw [Nat.min_eq_left h]
  · rw [Nat.min_eq_right (by omega), List.take_of_length_le (Nat.le_refl _), List.take_of_length_le (by omega)]
theorem tups_kp {H H' : Hp} {t c : Addr} {n : Nat} (h : FeedC H t c n) (k : Kp t H H') : Tups H H' := fun b xs e => k b _ (fun z => by
  obtain ⟨ns, sp, re, ca, e1, _⟩ := h
  rw [z, e1] at e
  cases e) e
theorem tups_lst {H : Hp} {D : Addr} {ys : List V} {o : HO} (h : H D = some (.lst ys)) : Tups H (upd H D o) := fun b xs e => by
  rw [upd_ne (fun z => by rw [z, h] at e; cases e)]
  exact e
def spFBk : Sp := fun vs H Q _ => ∃ (t c p : Addr) (zs : List Str) (b : Int) (n : Nat), vs = [.ref t, .ref p, .int b] ∧ H p = some (.tup (zs.map V.str)) ∧ 2 ≤ zs.length ∧ zs.length ≤ 9 ∧ (∀ z ∈ zs, Nm z) ∧ zs.Nodup ∧ FeedC H t c n ∧ n < 700000 ∧ 0 ≤ b ∧ b < 10000 ∧
  ∀ r ys ls H', H' r = some (.lst ys) → Pgs zs H' ys ls → ys.length ≤ 77 → (∃ k0 : List NestedKey, k0.length ≤ 75 ∧ ∀ k ∈ ls, k ∈ k0) → FeedC H' t c (n + 1000) → Kp t H H' → Q (.ref r) H'
theorem ok_fbk (T : Tx K mg w) : FnOk P w K mg base CX0 3 T.f_w_book T.d_w_book ["_law_feed_here", "_law_names_here", "_law_base"] (spFBk) := by
  have G_w_draw : FnOk P w K mg base CX0 1 T.f_w_draw T.d_w_draw ["_law_feed_here", "_law_many"] (spDraw) := ok_draw T
  have G_w_page : FnOk P w K mg base CX0 2 T.f_w_page T.d_w_page ["_law_feed_here", "_law_names_here", "_law_day"] (spFPg) := ok_fpg T
  refine T.F_w_book.ok S_w_book (fun vs H Q E h => ?_) (fun cdv A outer s H vs Q E hr h => ?_)
  · obtain ⟨t, c, p, zs, b, n, rfl, _⟩ := h
    rfl
  · obtain ⟨t, c, p, zs, b, n, rfl, hp, l2, l9, nm, nd, hT, hn, b0, b1, q⟩ := h
    refine ⟨_, (pss_cons (ps_setLc (i := 3) (own := [("_law_name", 6)]) (g := gName 6) (by rfl) S_w_book.nd rfl rfl (sw_true rfl rfl rfl (by decide +kernel)) (pi_tup (pv 1)) (blkOk_by (own := [("_law_name", 6)]) (N := N_w_book) (sc := defScope s_w_book) (by decide +kernel)) (fun _ _ _ _ _ => (pg_name (i := 6) S_w_book.nd rfl (.inl rfl))) (fun _ _ _ _ _ => (pts_one (pt_cmpR op_gt (pe_call G_w_draw (hr.mono (by decide)) (by rfl) T.g_w_draw T.F_w_draw.kp T.b_w_draw .nil pass0 (pa_cons (pv 0) (pa_cons pe_int pa_nil))) pe_int (nomark _)))) (fun _ _ _ _ _ => (pe_tup (pa_cons pe_str (pa_cons (pe_op op_add (pv 2) (pe_call G_w_draw (hr.mono (by decide)) (by rfl) T.g_w_draw T.F_w_draw.kp T.b_w_draw .nil pass0 (pa_cons (pv 0) (pa_cons pe_int pa_nil)))) (pa_cons (pv 6) (pa_cons (pe_tup (pa_cons pe_int (pa_cons pe_int pa_nil))) pa_nil)))))))
      (pss_cons (ps_set (i := 4) S_w_book.nd rfl (.inl rfl) (pe_ix ix_list (pe_lst (pa_cons pe_int (pa_cons pe_int (pa_cons pe_int (pa_cons pe_int (pa_cons pe_int (pa_cons pe_int (pa_cons pe_int (pa_cons pe_int pa_nil))))))))) (pe_call G_w_draw (hr.mono (by decide)) (by rfl) T.g_w_draw T.F_w_draw.kp T.b_w_draw .nil pass0 (pa_cons (pv 0) (pa_cons pe_int pa_nil))) (fun _ _ => rfl)))
      (pss_cons (ps_set (i := 3) S_w_book.nd rfl (.inl rfl) (pe_op op_cat (pv 3) (pe_lc (own := [("_law_k", 7)]) (g := gName 7) (tt := tYes) (by rfl) S_w_book.nd (pi_range1 (by rfl) T.m_range (pa_cons (pv 4) pa_nil)) (blkOk_by (own := [("_law_k", 7)]) (N := N_w_book) (sc := defScope s_w_book) (by decide +kernel)) (fun _ _ _ _ _ => (pg_name (i := 7) S_w_book.nd rfl (.inl rfl))) (fun _ _ _ _ _ => pts_nil) (fun _ _ _ _ _ => (pe_call G_w_page hr (by rfl) T.g_w_page T.F_w_page.kp T.b_w_page .nil pass0 (pa_cons (pv 0) (pa_cons (pv 1) (pa_cons (pe_op op_add (pv 2) (pe_call G_w_draw (hr.mono (by decide)) (by rfl) T.g_w_draw T.F_w_draw.kp T.b_w_draw .nil pass0 (pa_cons (pv 0) (pa_cons pe_int pa_nil)))) pa_nil))))))))
      (pss_cons (ps_set (i := 5) S_w_book.nd rfl (.inl rfl) (pe_call G_w_draw (hr.mono (by decide)) (by rfl) T.g_w_draw T.F_w_draw.kp T.b_w_draw .nil pass0 (pa_cons (pv 0) (pa_cons (pe_op op_add (pe_callB call_len_seq (by rfl) T.m_len PySem.boot_len (pa_cons (pv 3) pa_nil)) pe_int) pa_nil))))
      (pss_one (ps_ret (pe_op op_cat (pe_op op_cat (pe_slice sl_list (pv 3) (po_some (pv 5)) po_none) (pe_slice sl_list (pv 3) po_none (po_some (pv 5)))) (pe_slice sl_list (pv 3) po_none (po_some pe_int))))))))), ?_⟩
    have pt : p ≠ t := fun z => by
      obtain ⟨ns, sp, re, ca, e1, _⟩ := hT
      rw [z, e1] at hp
      cases hp
    refine ⟨_, rfl, p, rfl, ⟨_, .inl (.inl hp)⟩, fun D nD => ?_⟩
    obtain ⟨d1, d2⟩ := hT.ne nD
    refine lc_tup (xs := zs.map V.str) (fun i Hx => ∃ ys ls, Hx D = some (.lst ys) ∧ Pgs zs Hx ys ls ∧ ys.length ≤ i ∧ FeedC Hx t c (n + 2 * i) ∧ Kp t H Hx) ⟨[], [], upd_same, .nil, Nat.le_refl _, hT.new nD, (Kp.refl t H).new nD⟩ (fun i Hx hi h => ?_) ?_ ?_
    · obtain ⟨_, _, _, _, _, _, k⟩ := h
      exact .inl (.inl (k _ _ pt hp))
    · rintro i x Hx hx ⟨ys, ls, hD, pg, ly, hTx, hKx⟩
      obtain ⟨z, hz, rfl⟩ : ∃ z, zs[i]? = some z ∧ x = V.str z := by
        rw [List.getElem?_map] at hx
        cases e : zs[i]? with
        | none => rw [e] at hx; cases hx
        | some y => rw [e] at hx; exact ⟨y, rfl, (Option.some.inj hx).symm⟩
      have hi := (List.getElem?_eq_some_iff.mp hz).1
      have pz := (nm z (List.mem_of_getElem? hz)).plain
      refine ⟨rfl, _, rfl, t, 5, n + 2 * i, c, rfl, by decide, by decide, hTx, by omega, fun v H1 v0 v1 hT1 hK1 => ⟨_, _, rfl, rfl, _, rfl, ite2 (fun e => ?_) (fun e => ?_)⟩⟩
      · refine ⟨_, rfl, _, rfl, t, 4, n + 2 * i + 1, c, rfl, by decide, by decide, hT1, by omega, fun u H2 u0 u1 hT2 hK2 => ⟨_, _, rfl, rfl, _, rfl, sz (by show 2 ≤ 1000; decide), fun hm nh => ⟨sz (by show 4 ≤ 1000; decide), fun pa np => ?_⟩⟩⟩
        have s3 := same_upd (o := .tup [.int 0, .int 1]) nh
        have s4 := same_upd (o := .tup [.str "house", .int (b + u), .str z, .ref hm]) np
        have hD2 := s4 _ _ (s3 _ _ (hK2 _ _ d1 (hK1 _ _ d1 hD)))
        have hm4 := s4 _ _ (upd_same (H := H2) (a := hm) (o := .tup [.int 0, .int 1]))
        have tt := ((tups_kp hTx hK1).trans (tups_kp hT1 hK2)).trans (.same (s3.trans s4))
        have hT4 := (hT2.same s3).same s4
        have hK4 := ((hKx.trans hK1).trans hK2).trans (.of_same (s3.trans s4))
        have pk : PgK (.tup (.text "house" :: .num (b + u) :: [.text z, .tup ([0, 1].map .num)])) := ⟨_, _, _, rfl, .house pz ⟨by decide, by decide⟩, by omega, by omega⟩
        have nk : Nk _ (.ref pa) (.tup (.text "house" :: .num (b + u) :: [.text z, .tup ([0, 1].map .num)])) := .tup upd_same (.cons (.str _) (.cons (.int _) (.cons (.str _) (.cons (nk_home (ws := [0, 1]) hm4) .nil))))
        have pg4 := (pg.at tt).add (.one nk pk ⟨fun d a b e => by simp at e, fun nm hn => by simp [restK] at hn; rw [hn]; exact List.mem_of_getElem? hz⟩)
        have tD := tups_lst (o := .lst (ys ++ [.ref pa])) hD2
        refine ⟨ys, hD2, small1000 (by omega), ys ++ [.ref pa], _, upd_same, pg4.at tD, by rw [List.length_append]; exact Nat.succ_le_succ ly, (hT4.updO d1 d2).mono (by omega), kp_fresh nD hK4⟩
      · exact ⟨ys, ls, hK1 _ _ d1 hD, pg.at (tups_kp hTx hK1), by omega, hT1.mono (by omega), hKx.trans hK1⟩
    · rintro H1 ⟨ys, ls, hD, pg, ly, hT1, hK1⟩
      rw [List.length_map] at ly hT1
      refine ⟨sz (by show 8 ≤ 1000; decide), fun p1 n1 => ⟨_, rfl, t, 8, n + 2 * zs.length, c, rfl, by decide, by decide, hT1.new n1, by omega, fun v H2 v0 v1 hT2 hK2 => ?_⟩⟩
      have hl1 := hK2 _ _ (hT1.ne n1).1 upd_same
      have many : ∃ m : Nat, atI [V.int 12, .int 6, .int 20, .int 12, .int 30, .int 66, .int 8, .int 0] v = some (.int m) ∧ m ≤ 66 := by
        have h8 : v = 0 ∨ v = 1 ∨ v = 2 ∨ v = 3 ∨ v = 4 ∨ v = 5 ∨ v = 6 ∨ v = 7 := by omega
        rcases h8 with rfl | rfl | rfl | rfl | rfl | rfl | rfl | rfl
        · exact ⟨12, rfl, by decide⟩
        · exact ⟨6, rfl, by decide⟩
        · exact ⟨20, rfl, by decide⟩
        · exact ⟨12, rfl, by decide⟩
        · exact ⟨30, rfl, by decide⟩
        · exact ⟨66, rfl, by decide⟩
        · exact ⟨8, rfl, by decide⟩
        · exact ⟨0, rfl, by decide⟩
      obtain ⟨m, hm, m66⟩ := many
      refine ⟨p1, _, v, .int m, rfl, rfl, .inl (.inl hl1), hm, ?_⟩
      have s1 := same_upd (o := .lst [.int 12, .int 6, .int 20, .int 12, .int 30, .int 66, .int 8, .int 0]) n1
      have hT1' := hT1.same s1
      have hD2 := hK2 _ _ d1 (s1 _ _ hD)
      have pg2 := (pg.at (.same s1)).at (tups_kp hT1' hK2)
      have hKa : Kp t H H2 := (hK1.trans (.of_same s1)).trans hK2
      have pz : ∀ z ∈ zs, Plain z := fun z hz => (nm z hz).plain
      refine ⟨_, rfl, _, rfl, m, rfl, by omega, by omega, fun D2 nD2 => ?_⟩
      obtain ⟨e1, e2⟩ := hT2.ne nD2
      have fD2 := kp_none hKa nD2 e1
      have dd : D ≠ D2 := ne_of_none hD2 nD2
      refine lc_range (lo := 0) (n := m) (fun i Hx => ∃ zs2 ls2, Hx D2 = some (.lst zs2) ∧ Hx D = some (.lst ys) ∧ Pgs zs Hx ys ls ∧ Pgs zs Hx zs2 ls2 ∧ zs2.length = i ∧ FeedC Hx t c (n + 19 + 7 * i) ∧ Kp t H Hx) ⟨[], [], upd_same, same_upd nD2 _ _ hD2, pg2.at (.same (same_upd nD2)), .nil, rfl, (hT2.new nD2).mono (by omega), hKa.new nD2⟩ ?_ ?_
      · rintro i Hx hi ⟨zs2, ls2, h2, h1, pg1, pg3, lz, hTx, hKx⟩
        have hpx := hKx _ _ pt hp
        refine ⟨rfl, tYesT ⟨_, rfl, _, rfl, _, rfl, _, rfl, t, 40, n + 19 + 7 * i, c, rfl, by decide, by decide, hTx, by omega, fun u H3 u0 u1 hT3 hK3 => ?_⟩⟩
        refine ⟨_, _, rfl, rfl, t, c, p, zs, b + u, n + 19 + 7 * i + 1, rfl, hK3 _ _ pt hpx, l2, l9, pz, nd, hT3, by omega, fun r z rest H4 nk re sy hT4 hK4 => ?_⟩
        have t34 := (tups_kp hTx hK3).trans (tups_kp hT3 hK4)
        have h24 := hK4 _ _ e1 (hK3 _ _ e1 h2)
        have h14 := hK4 _ _ d1 (hK3 _ _ d1 h1)
        have tD := tups_lst (o := .lst (zs2 ++ [.ref r])) h24
        have pk : PgK (.tup (.text z :: .num (b + u) :: rest)) := ⟨_, _, _, rfl, re, by omega, by omega⟩
        refine ⟨zs2, h24, small1000 (by omega), zs2 ++ [.ref r], _, upd_same, by rw [upd_ne dd]; exact h14, (pg1.at t34).at tD, ((pg3.at t34).add (.one nk pk sy)).at tD, by rw [List.length_append, lz]; rfl, (hT4.updO e1 e2).mono (by omega), kp_fresh fD2 ((hKx.trans hK3).trans hK4)⟩
      · rintro H3 ⟨zs2, ls2, h2, h1, pg1, pg3, lz, hT3, hK3⟩
        refine ⟨D, D2, _, _, rfl, rfl, h1, h2, sz (by omega), fun L nL => ?_⟩
        have s4 := same_upd (o := .lst (ys ++ zs2)) nL
        have pgA := (pg1.add pg3).at (.same s4)
        have hL := upd_same (H := H3) (a := L) (o := .lst (ys ++ zs2))
        have hT4 := hT3.same s4
        have hK4 := hK3.trans (.of_same s4)
        have l75 : (ys ++ zs2).length ≤ 75 := by rw [List.length_append]; omega
        have Lt := (hT3.ne nL).1
        generalize upd H3 L (.lst (ys ++ zs2)) = H4 at pgA hL hT4 hK4 ⊢
        generalize ys ++ zs2 = xs at pgA hL l75 ⊢
        generalize ls ++ ls2 = ks at pgA ⊢
        refine ⟨_, rfl, _, rfl, L, _, rfl, .inl (.inl (.inl hL)), _, _, rfl, rfl, t, _, _, c, rfl, by omega, by omega, hT4, by omega, fun v H5 v0 v1 hT5 hK5 => ?_⟩
        have hL5 := hK5 _ _ Lt hL
        have pg5 := pgA.at (tups_kp hT4 hK5)
        have lk : xs.length = ks.length := pgA.nk.length
        obtain ⟨tn, rfl⟩ : ∃ tn : Nat, v = (tn : Int) := ⟨v.toNat, by omega⟩
        have lt : tn ≤ xs.length := by omega
        refine ⟨_, rfl, _, rfl, (tn : Int), rfl, np_in ⟨L, xs, rfl, .inl (.inl hL5), fun C1 n1 => ?_⟩⟩
        have s1 := same_upd (o := .lst (cutV xs (some (tn : Int)) none)) n1
        have h1 := upd_same (H := H5) (a := C1) (o := .lst (cutV xs (some (tn : Int)) none))
        have c1 : Pgs zs H5 (cutV xs (some (tn : Int)) none) (ks.drop tn) := by rw [cut_from lt]; exact pg5.drop tn
        have d1 : (cutV xs (some (tn : Int)) none).length = xs.length - tn := by rw [cut_from lt, List.length_drop]
        generalize cutV xs (some (tn : Int)) none = x1 at s1 h1 c1 d1 ⊢
        generalize upd H5 C1 (.lst x1) = H6 at s1 h1 ⊢
        refine ⟨_, rfl, _, rfl, (tn : Int), rfl, L, xs, rfl, .inl (.inl (s1 _ _ hL5)), fun C2 n2 => ?_⟩
        have s2 := same_upd (o := .lst (cutV xs none (some (tn : Int)))) n2
        have h2 := upd_same (H := H6) (a := C2) (o := .lst (cutV xs none (some (tn : Int))))
        have c2 : Pgs zs H5 (cutV xs none (some (tn : Int))) (ks.take tn) := by rw [cut_to]; exact pg5.take tn
        have d2 : (cutV xs none (some (tn : Int))).length ≤ tn := by rw [cut_to, List.length_take]; omega
        generalize cutV xs none (some (tn : Int)) = x2 at s2 h2 c2 d2 ⊢
        generalize upd H6 C2 (.lst x2) = H7 at s2 h2 ⊢
        refine ⟨C1, C2, _, _, rfl, rfl, s2 _ _ h1, h2, sz (by omega), fun C3 n3 => ?_⟩
        have s3 := same_upd (o := .lst (x1 ++ x2)) n3
        have h3 := upd_same (H := H7) (a := C3) (o := .lst (x1 ++ x2))
        generalize upd H7 C3 (.lst (x1 ++ x2)) = H8 at s3 h3 ⊢
        have s58 := s1.trans (s2.trans s3)
        refine ⟨_, rfl, 2, rfl, L, xs, rfl, .inl (.inl (s58 _ _ hL5)), fun C4 n4 => ?_⟩
        have s4 := same_upd (o := .lst (cutV xs none (some 2))) n4
        have h4 := upd_same (H := H8) (a := C4) (o := .lst (cutV xs none (some 2)))
        have c4 : Pgs zs H5 (cutV xs none (some 2)) (ks.take 2) := by rw [show (2 : Int) = ((2 : Nat) : Int) from rfl, cut_to]; exact pg5.take 2
        have d4 : (cutV xs none (some 2)).length ≤ 2 := by rw [show (2 : Int) = ((2 : Nat) : Int) from rfl, cut_to, List.length_take]; omega
        generalize cutV xs none (some 2) = x4 at s4 h4 c4 d4 ⊢
        generalize upd H8 C4 (.lst x4) = H9 at s4 h4 ⊢
        refine ⟨C3, C4, _, _, rfl, rfl, s4 _ _ h3, h4, sz (by rw [List.length_append]; omega), fun C5 n5 => ?_⟩
        have s5 := same_upd (o := .lst (x1 ++ x2 ++ x4)) n5
        have sA := s58.trans (s4.trans s5)
        exact q C5 _ _ _ upd_same (((c1.add c2).add c4).at (.same sA)) (by rw [List.length_append, List.length_append]; omega) ⟨ks, by omega, fun k hk => by
          rcases List.mem_append.mp hk with h | h
          · rcases List.mem_append.mp h with h | h
            · exact List.mem_of_mem_drop h
            · exact List.mem_of_mem_take h
          · exact List.mem_of_mem_take h⟩ ((hT5.same sA).mono (by omega)) ((hK4.trans hK5).trans (.of_same sA))
end
end L52

set_option Elab.async false
set_option linter.all false
set_option maxRecDepth 100000
set_option maxHeartbeats 2000000
namespace L52
open PySem PySem.Spec PyProof.Rows L2 LT
open My hiding Tbs Gk Tk
section
variable {P : Program} {w : World} {K : PySem.W.Frag} {mg : Str → Option Value} {base : Heap}
/-- each of the values is a page -/
def PgP (H : Hp) (xs : List V) : Prop := ∀ x ∈ xs, ∃ k, Nk H x k ∧ PgK k
theorem PgP.at {H H' : Hp} {xs : List V} (t : Tups H H') (h : PgP H xs) : PgP H' xs := fun x hx => let ⟨k, a, b⟩ := h x hx; ⟨k, a.at t, b⟩
theorem PgP.all {H : Hp} : ∀ {xs : List V}, PgP H xs → ∃ ks, PgsAt H xs ks
  | [], _ => ⟨[], .nil, fun k hk => by cases hk⟩
  | x :: l, h => by
    obtain ⟨k, a, b⟩ := h x (.head _)
    obtain ⟨ks, c, d⟩ := PgP.all (xs := l) fun y hy => h y (.tail _ hy)
    exact ⟨k :: ks, .cons a c, fun y hy => (List.mem_cons.mp hy).elim (fun e => by rw [e]; exact b) (d y)⟩
theorem PgP.app {H : Hp} {xs ys : List V} (a : PgP H xs) (b : PgP H ys) : PgP H (xs ++ ys) := fun x hx => (List.mem_append.mp hx).elim (a x) (b x)
theorem PgP.one {H : Hp} {x : V} {k : NestedKey} (a : Nk H x k) (b : PgK k) : PgP H [x] := fun y hy => ⟨k, by rw [List.mem_singleton.mp hy]; exact a, b⟩
theorem PgP.erase {H : Hp} {xs : List V} (a : PgP H xs) (n : Nat) : PgP H (xs.eraseIdx n) := fun x hx => a x (List.mem_of_mem_eraseIdx hx)
/-- the keys of values -/
theorem mem_key {H : Hp} : ∀ {ks : List NestedKey} {xs : List V}, NkAll H xs ks → ∀ k, k ∈ ks ↔ ∃ x ∈ xs, Nk H x k
  | [], _, .nil, k => by simp
  | k0 :: ks, x0 :: xs, .cons h r, k => by
    rw [List.mem_cons, mem_key r k]
    constructor
    · rintro (rfl | ⟨x, hx, n⟩)
      · exact ⟨x0, .head _, h⟩
      · exact ⟨x, .tail _ hx, n⟩
    · rintro ⟨x, hx, n⟩
      rcases List.mem_cons.mp hx with rfl | hx
      · exact .inl (n.inj h)
      · exact .inr ⟨x, hx, n⟩
/-- a book: its pages' keys in order, at most n -/
structure Bk (H : Hp) (b : Addr) (n : Nat) (ks : List NestedKey) : Prop where
  ex : ∃ ys, H b = some (.tup ys) ∧ NkAll H ys ks ∧ ys.length ≤ n
  ord : Ord ks
  pg : ∀ k ∈ ks, PgK k
theorem Bk.same {H H' : Hp} {b : Addr} {n : Nat} {ks : List NestedKey} (h : Bk H b n ks) (s : Same H H') : Bk H' b n ks := ⟨let ⟨ys, a, c, d⟩ := h.ex; ⟨ys, s _ _ a, c.at (.same s), d⟩, h.ord, h.pg⟩
theorem Bk.at {H H' : Hp} {b : Addr} {n : Nat} {ks : List NestedKey} (h : Bk H b n ks) (s : Tups H H') : Bk H' b n ks := ⟨let ⟨ys, a, c, d⟩ := h.ex; ⟨ys, s _ _ a, c.at s, d⟩, h.ord, h.pg⟩
theorem back {H H' : Hp} {xs : List V} (px : PgP H xs) (t : Tups H H') {y : V} (hy : y ∈ xs) {k : NestedKey} (n : Nk H' y k) : Nk H y k := by
  obtain ⟨k0, a, b⟩ := px y hy
  rw [n.inj (a.at t)]
  exact a
theorem Bk.len {H : Hp} {b : Addr} {n : Nat} {ks : List NestedKey} (h : Bk H b n ks) : ks.length ≤ n := by
  obtain ⟨ys, a, c, d⟩ := h.ex
  rw [← c.length]; exact d
theorem Bk.dp {H : Hp} {b : Addr} {n : Nat} {ks : List NestedKey} (h : Bk H b n ks) : Dp K H (.ref b) (.tuple (NestedKey.datas ks)) := by
  obtain ⟨ys, a, c, d⟩ := h.ex
  exact .tup (.inl (.inl a)) c.dp
theorem Bk.fine {H : Hp} {b : Addr} {n : Nat} {ks : List NestedKey} (h : Bk H b n ks) (hn : n ≤ 200) : GU.Sh (.tuple (NestedKey.datas ks)) ∧ (PyData.tuple (NestedKey.datas ks)).depth ≤ 50 ∧ GU.cost (.tuple (NestedKey.datas ks)) ≤ sizeLine := repr_pages h.pg (Nat.le_trans h.len hn)
theorem Bk.nil {H : Hp} {b : Addr} (h : H b = some (.tup [])) : Bk H b 0 [] := ⟨⟨[], h, .nil, Nat.le_refl _⟩, by simp [My.Ord], fun k hk => by cases hk⟩
theorem Bk.eq {H H' : Hp} {b b' : Addr} {n n' : Nat} {ks ks' : List NestedKey} (h : Bk H b n ks) (h' : Bk H' b' n' ks') (e : ∀ k, k ∈ ks ↔ k ∈ ks') : ks = ks' := ord_unique h.ord h'.ord e
theorem same_fresh {H H1 : Hp} {p : Addr} {o : HO} (hp : H p = none) (k : Same H H1) : Same H (upd H1 p o) := fun b x h => by
  rw [upd_ne (ne_of_none h hp)]
  exact k _ _ h
theorem book_out {H0 H H' : Hp} {r : Addr} {xs ys : List V} {ks ls : List NestedKey} (px : PgP H0 xs) (t : Tups H0 H) (nk : NkAll H xs ks) (h : H' r = some (.tup ys)) (n : NkAll H' ys ls) (o : My.Ord ls) (m : ∀ k, k ∈ ls ↔ k ∈ ks) (pk : ∀ k ∈ ks, PgK k) (l : ys.length ≤ xs.length) :
    Bk H' r xs.length ls ∧ ∀ k, k ∈ ls ↔ ∃ y ∈ xs, Nk H0 y k :=
  ⟨⟨⟨ys, h, n, l⟩, o, fun k hk => pk k ((m k).mp hk)⟩, fun k => by
    rw [m k, mem_key nk k]
    exact ⟨fun ⟨y, hy, n⟩ => ⟨y, hy, back px t hy n⟩, fun ⟨y, hy, n⟩ => ⟨y, hy, n.at t⟩⟩⟩
def dayK : NestedKey → Int
  | .tup (_ :: .num d :: _) => d
  | _ => 0
theorem day_at {H : Hp} {x : V} {k : NestedKey} (n : Nk H x k) (p : PgK k) : ∃ (b : Addr) (ys : List V), x = .ref b ∧ H b = some (.tup ys) ∧ ys[1]? = some (.int (dayK k)) := by
  obtain ⟨z, d, r, rfl, _⟩ := p
  cases n with
  | @tup a xs _ ha hk =>
    cases hk with
    | @cons v1 _ xs1 _ n1 hk =>
      cases hk with
      | @cons v2 _ xs2 _ n2 hk =>
        cases n2
        exact ⟨a, _, rfl, ha, rfl⟩
theorem take_filter {f : NestedKey → Bool} {ks : List NestedKey} {i : Nat} {k : NestedKey} (h : ks[i]? = some k) : (ks.take (i + 1)).filter f = (ks.take i).filter f ++ (if f k = true then [k] else []) := by
  rw [List.take_add_one, h, List.filter_append]
  cases e : f k <;> simp [e]
/-- the values whose pages are of days up to d -/
def fltD (d : Int) (xs : List V) (ks : List NestedKey) : List V := ((xs.zip ks).filter fun p => decide (dayK p.2 ≤ d)).map (·.1)
theorem fltD_take {d : Int} {xs : List V} {ks : List NestedKey} {i : Nat} {x : V} {k : NestedKey} (h1 : xs[i]? = some x) (h2 : ks[i]? = some k) : fltD d (xs.take (i + 1)) (ks.take (i + 1)) = fltD d (xs.take i) (ks.take i) ++ (if dayK k ≤ d then [x] else []) := by
  unfold fltD
  have z : ∀ n, (xs.take n).zip (ks.take n) = (xs.zip ks).take n := fun n => by simp [List.zip, List.take_zipWith]
  have e : (xs.zip ks)[i]? = some (x, k) := by rw [List.getElem?_zip_eq_some]; exact ⟨h1, h2⟩
  rw [z, z, List.take_add_one, e, List.filter_append, List.map_append]
  by_cases c : dayK k ≤ d <;> simp [c]
def spUp (T : Tx K mg w) : Sp := fun vs H Q _ => ∃ (a : Addr) (d : Int) (xs : List V) (ks : List NestedKey), vs = [.ref a, .int d] ∧ H a = some (.tup xs) ∧ PgsAt H xs ks ∧ xs.length ≤ 500 ∧ Tbs (tbs T) H ∧
  ∀ r zs H', Gk (tbs T) H H' → H' r = some (.tup zs) → NkAll H' zs (ks.filter fun k => decide (dayK k ≤ d)) → zs.length ≤ xs.length → zs = fltD d xs ks → Q (.ref r) H'
theorem ok_up (T : Tx K mg w) (B : Tb T base) : FnOk P w K mg base CX0 3 T.f_up_to T.d_up_to ["book", "day"] (spUp T) := by
  have G_page_day : FnOk P w K mg base CX0 1 T.f_page_day T.d_page_day ["page"] ((spAt 1)) := ok_page_day T
  refine T.F_up_to.ok S_up_to (fun vs H Q E h => ?_) (fun A outer s H vs Q E hr h => ?_)
  · obtain ⟨a, d, xs, ks, rfl, _⟩ := h
    rfl
  · obtain ⟨a, d, xs, ks, rfl, ha, ⟨nk, pk⟩, lx, hb, q⟩ := h
    refine ⟨_, (pss_one (ps_ret (GE.pe_tupleG (own := [("page", 2)]) (g := gName 2) (by rfl) S_up_to.nd hr (by rfl) T.m_tuple B.b_up_to rfl ⟨blkOk_by (own := [("page", 2)]) (N := N_up_to) (sc := defScope s_up_to) (by decide +kernel), rfl, (by decide +kernel), (by decide +kernel)⟩ (pi_tup (pv 0)) (fun _ _ _ _ _ _ hr => (pg_name (i := 2) S_up_to.nd rfl (.inl rfl))) (fun _ _ _ _ _ _ hr => (pts_one (pt_cmpR op_le (pe_call G_page_day hr (by rfl) T.g_page_day T.F_page_day.kp T.b_page_day .nil pass0 (pa_cons (pv 2) pa_nil)) (pv 1) (nomark _)))) (fun _ _ _ _ _ _ hr => (pv 2))))), ?_⟩
    refine ⟨_, rfl, a, rfl, ⟨_, .inl (.inl ha)⟩, hb _ (by simp [tbs]), fun H2 tab => ?_⟩
    have g2 : Gk (tbs T) H H2 := (Tk.of hb (by simp [tbs]) tab).gk hb
    have len : ∀ i, (ks.take i).length ≤ i := fun i => by rw [List.length_take]; exact Nat.min_le_left _ _
    refine GE.tg_it (walk_tup (xs := xs)) (fun i ys Hx => Hx = H2 ∧ NkAll H2 ys ((ks.take i).filter fun k => decide (dayK k ≤ d)) ∧ ys.length ≤ i ∧ ys = fltD d (xs.take i) (ks.take i)) ⟨rfl, .nil, Nat.le_refl _, rfl⟩ ?_ ?_ ?_
    · rintro i ys Hx _ ⟨rfl, _⟩
      exact .inl (.inl (g2.tup ha))
    · rintro i x ys H3 H4 hi ⟨rfl, n3, l3, f3⟩ ⟨rfl, hx⟩
      obtain ⟨k, hk, nx⟩ := nk.get hx
      have nx3 := nx.at (LT.Gk.tups g2)
      obtain ⟨b, zs, rfl, hbz, e1⟩ := day_at nx3 (pk k (List.mem_of_getElem? hk))
      have lt : i < xs.length := (List.getElem?_eq_some_iff.mp hx).1
      refine ⟨rfl, _, rfl, b, zs, _, rfl, hbz, e1, _, rfl, _, _, rfl, rfl, _, rfl, ite2 (fun e => ?_) (fun e => ?_)⟩
      · refine ⟨_, rfl, small1000 (by omega), rfl, ?_, by rw [List.length_append]; exact Nat.succ_le_succ l3, ?_⟩
        · rw [take_filter hk, if_pos e]
          exact n3.app (.cons nx3 .nil)
        · rw [fltD_take hx hk, if_pos (of_decide_eq_true e), ← f3]
      · refine ⟨rfl, ?_, by omega, ?_⟩
        · rw [take_filter hk, if_neg e, List.append_nil]
          exact n3
        · rw [fltD_take hx hk, if_neg (fun z => e (decide_eq_true z)), List.append_nil, ← f3]
    · rintro ys H3 ⟨rfl, n3, l3, f3⟩
      have lk : ks.length ≤ xs.length := by rw [← nk.length]; exact Nat.le_refl _
      rw [List.take_of_length_le lk] at n3 f3
      rw [List.take_of_length_le (Nat.le_refl _)] at f3
      refine ⟨sz (by omega), fun r hr3 => q r ys _ (g2.trans (.new g2.2 hr3)) upd_same (n3.at (.same (same_upd hr3))) l3 f3⟩
theorem forms_at (T : Tx K mg w) {k : Str} {fs : List Str} (h : formsOf k = some fs) : ∃ r, KDct K w T.a_FORMS k (.ref r) ∧ KT K r (fs.map V.str) := by
  unfold formsOf at h
  split at h
  · rename_i e; subst e; cases h; exact T.w_FORMS_house
  split at h
  · rename_i e; subst e; cases h; exact T.w_FORMS_part
  split at h
  · rename_i e; subst e; cases h; exact T.w_FORMS_join
  split at h
  · rename_i e; subst e; cases h; exact T.w_FORMS_home
  split at h
  · rename_i e; subst e; cases h; exact T.w_FORMS_mourn
  split at h
  · rename_i e; subst e; cases h; exact T.w_FORMS_ahead
  split at h
  · rename_i e; subst e; cases h; exact T.w_FORMS_card
  split at h
  · rename_i e; subst e; cases h; exact T.w_FORMS_visit
  cases h
def spNames (T : Tx K mg w) : Sp := fun vs H Q _ => ∃ (a : Addr) (k : Str) (d : V) (r : List V) (fs : List Str), vs = [.ref a] ∧ H a = some (.tup (.str k :: d :: r)) ∧ formsOf k = some fs ∧ Tbs (tbs T) H ∧ ∀ H' q, Gk (tbs T) H H' → H' q = some (.tup (namesB fs r)) → Q (.ref q) H'
theorem ok_names (T : Tx K mg w) (B : Tb T base) : FnOk P w K mg base CX0 3 T.f_names_of T.d_names_of ["page"] (spNames T) := by
  have G_page_kind : FnOk P w K mg base CX0 1 T.f_page_kind T.d_page_kind ["page"] ((spAt 0)) := ok_page_kind T
  refine T.F_names_of.ok S_names_of (fun vs H Q E h => ?_) (fun A outer s H vs Q E hr h => ?_)
  · obtain ⟨a, k, d, r, fs, rfl, _⟩ := h
    rfl
  · obtain ⟨a, k, d, r, fs, rfl, ha, hk, hb, q⟩ := h
    obtain ⟨p, hp, hpT⟩ := forms_at T hk
    have fl := forms_len hk
    refine ⟨_, (pss_one (ps_ret (GE.pe_tupleG (own := [("form", 1), ("part", 2)]) (g := gTup K 2 (gCons (gName 1) (gCons (gName 2) gNil))) (by rfl) S_names_of.nd hr (by rfl) T.m_tuple B.b_names_of rfl ⟨blkOk_by (own := [("form", 1), ("part", 2)]) (N := N_names_of) (sc := defScope s_names_of) (by decide +kernel), rfl, (by decide +kernel), (by decide +kernel)⟩ (RZ.pi_zipA (by rfl) T.m_zip (pa_cons (pe_ix ix_kdict (pe_glob (v := .ref T.a_FORMS) (by rfl) T.c_FORMS rfl) (pe_call G_page_kind (hr.mono (by decide)) (by rfl) T.g_page_kind T.F_page_kind.kp T.b_page_kind .nil pass0 (pa_cons (pv 0) pa_nil)) (fun _ _ => rfl)) (pa_cons (pe_slice sl_tupA (pv 0) (po_some pe_int) po_none) pa_nil))) (fun _ _ _ _ _ _ hr => (pg_tup rfl (pgs_cons (pg_name (i := 1) S_names_of.nd rfl (.inl rfl)) (pgs_cons (pg_name (i := 2) S_names_of.nd rfl (.inl rfl)) pgs_nil)))) (fun _ _ _ _ _ _ hr => (pts_one (pt_cmpR op_eq (pv 1) pe_str (nomark _)))) (fun _ _ _ _ _ _ hr => (pv 2))))), ?_⟩
    refine ⟨_, rfl, a, _, .str k, rfl, ha, rfl, T.a_FORMS, k, .ref p, rfl, rfl, hp, ?_⟩
    refine ⟨_, rfl, _, rfl, np_in (sl_in ha fun c H1 s1 hc => ?_)⟩
    rw [cut2] at hc
    have b1 := hb.same s1
    have g1 : Gk (tbs T) H H1 := .of_same s1 hb
    refine ⟨p, c, _, _, rfl, .inr ⟨.inr hpT, .inl (.inl hc), b1 _ (by simp [tbs]), fun H2 tab => ?_⟩⟩
    have g2 : Gk (tbs T) H H2 := g1.trans ((Tk.of b1 (by simp [tbs]) tab).gk b1)
    have hc2 : H2 c = some (.tup r) := ((Tk.of b1 (by simp [tbs]) tab).gk b1).tup hc
    have len : ∀ i, ((((fs.zip r).take i).filter fun p => decide (p.1 = ("name" : Str))).map (·.2)).length ≤ 3 := fun i => by
      rw [List.length_map]
      refine Nat.le_trans (List.length_filter_le _ _) (Nat.le_trans (by rw [List.length_take]; exact Nat.min_le_right _ _) ?_)
      rw [List.length_zip]
      omega
    refine GE.tg_it (walk_zipT (K := K) (a := p) (b := c) (xs := fs.map V.str) (ys := r) rfl) (fun i ys H' => (Gk (tbs T) H H' ∧ H' c = some (.tup r)) ∧ ys = ((((fs.zip r).take i).filter fun p => decide (p.1 = ("name" : Str))).map (·.2))) ⟨⟨g2, hc2⟩, by simp⟩ ?_ ?_ ?_
    · rintro i ys H' _ ⟨⟨_, hc'⟩, _⟩
      exact ⟨.inr hpT, .inl (.inl hc')⟩
    · rintro i x ys H3 H4 hi ⟨⟨g3, hc3⟩, rfl⟩ ⟨Tn, xf, xr, rfl, hn, rfl, h1, h2⟩
      obtain ⟨f, rfl, h0⟩ := str_at h1
      have h2 : r[i]? = some xr := h2
      have g4 : Gk (tbs T) H (upd H3 Tn (.tup [V.str f, xr])) := g3.trans (.new g3.2 hn)
      have hc4 := same_upd (o := .tup [V.str f, xr]) hn _ _ hc3
      refine ⟨Tn, _, rfl, .inl (.inl upd_same), rfl, _, _, rfl, _, _, rfl, rfl, rfl, ?_⟩
      refine ⟨_, rfl, rfl, _, rfl, ite2 (fun e => ?_) (fun e => ?_)⟩
      · have e : V.str f = V.str "name" := of_decide_eq_true e
        refine ⟨_, rfl, sz' (len i), ⟨g4, hc4⟩, ?_⟩
        rw [names_take h0 h2, if_pos (V.str.inj e)]
      · have e : ¬ V.str f = V.str "name" := fun z => e (decide_eq_true z)
        refine ⟨⟨g4, hc4⟩, ?_⟩
        rw [names_take h0 h2, if_neg (fun z => e (by rw [z])), List.append_nil]
    · rintro ys H3 ⟨⟨g3, hc3⟩, rfl⟩
      refine ⟨Nat.le_of_lt (sz' (len _)), fun n hn => q _ n (g3.trans (.new g3.2 hn)) ?_⟩
      rw [upd_same, List.take_of_length_le]
      · rfl
      · rw [List.length_zip, List.length_map]
        exact Nat.le_refl _
/-- a page's values behind its kind and day: its kind, its names, its last value -/
inductive PV : Str → Str → Option Str → V → List V → Prop
  | house (a : Str) (lv : V) : PV "house" a none lv [.str a, lv]
  | home (a : Str) (lv : V) : PV "home" a none lv [.str a, lv]
  | part (a b : Str) (lv : V) : PV "part" a (some b) lv [.str a, .str b, lv]
  | mourn (a : Str) (m : Int) : PV "mourn" a none (.int m) [.str a, .int m]
  | join (a b : Str) : PV "join" a (some b) (.str b) [.str a, .str b]
  | ahead (a b : Str) : PV "ahead" a (some b) (.str b) [.str a, .str b]
  | card (a b : Str) : PV "card" a (some b) (.str b) [.str a, .str b]
  | visit (a b : Str) : PV "visit" a (some b) (.str b) [.str a, .str b]
def namesP (a : Str) : Option Str → List V
  | none => [.str a]
  | some b => [.str a, .str b]
theorem view {H : Hp} {x : V} {k : NestedKey} (n : Nk H x k) (p : PgK k) : ∃ (pa : Addr) (z a : Str) (b : Option Str) (lv : V) (r : List V), x = .ref pa ∧ H pa = some (.tup (.str z :: .int (dayK k) :: r)) ∧ PV z a b lv r := by
  obtain ⟨z, d, rr, rfl, re, _⟩ := p
  cases n with
  | @tup pa xs _ ha hk =>
    cases hk with
    | @cons v1 _ xs1 _ n1 hk =>
      cases n1
      cases hk with
      | @cons v2 _ xs2 _ n2 hk =>
        cases n2
        cases re with
        | house _ _ =>
          cases hk with
          | cons n3 hk =>
            cases n3
            cases hk with
            | cons n4 hk =>
              cases hk
              exact ⟨pa, _, _, _, _, _, rfl, ha, .house _ _⟩
        | home _ _ =>
          cases hk with
          | cons n3 hk =>
            cases n3
            cases hk with
            | cons n4 hk =>
              cases hk
              exact ⟨pa, _, _, _, _, _, rfl, ha, .home _ _⟩
        | part _ _ _ =>
          cases hk with
          | cons n3 hk =>
            cases n3
            cases hk with
            | cons n4 hk =>
              cases n4
              cases hk with
              | cons n5 hk =>
                cases hk
                exact ⟨pa, _, _, _, _, _, rfl, ha, .part _ _ _⟩
        | mourn _ _ _ =>
          cases hk with
          | cons n3 hk =>
            cases n3
            cases hk with
            | cons n4 hk =>
              cases n4
              cases hk
              exact ⟨pa, _, _, _, _, _, rfl, ha, .mourn _ _⟩
        | join _ _ =>
          cases hk with
          | cons n3 hk =>
            cases n3
            cases hk with
            | cons n4 hk =>
              cases n4
              cases hk
              exact ⟨pa, _, _, _, _, _, rfl, ha, .join _ _⟩
        | ahead _ _ =>
          cases hk with
          | cons n3 hk =>
            cases n3
            cases hk with
            | cons n4 hk =>
              cases n4
              cases hk
              exact ⟨pa, _, _, _, _, _, rfl, ha, .ahead _ _⟩
        | card _ _ =>
          cases hk with
          | cons n3 hk =>
            cases n3
            cases hk with
            | cons n4 hk =>
              cases n4
              cases hk
              exact ⟨pa, _, _, _, _, _, rfl, ha, .card _ _⟩
        | visit _ _ =>
          cases hk with
          | cons n3 hk =>
            cases n3
            cases hk with
            | cons n4 hk =>
              cases n4
              cases hk
              exact ⟨pa, _, _, _, _, _, rfl, ha, .visit _ _⟩
theorem PV.forms {z a : Str} {b : Option Str} {lv : V} {r : List V} (h : PV z a b lv r) : ∃ fs, formsOf z = some fs ∧ namesB fs r = namesP a b := by
  cases h <;> exact ⟨_, rfl, rfl⟩
theorem PV.last {z a : Str} {b : Option Str} {lv : V} {r : List V} (h : PV z a b lv r) (d : V) : atI (.str z :: d :: r) (-1) = some lv := by
  cases h <;> rfl
def spNms (T : Tx K mg w) : Sp := fun vs H Q _ => ∃ (pa : Addr) (z a : Str) (b : Option Str) (lv d : V) (r : List V), vs = [.ref pa] ∧ H pa = some (.tup (.str z :: d :: r)) ∧ PV z a b lv r ∧ Tbs (tbs T) H ∧ ∀ q H', Gk (tbs T) H H' → H' q = some (.tup (namesP a b)) → Q (.ref q) H'
theorem ok_nms (T : Tx K mg w) (B : Tb T base) : FnOk P w K mg base CX0 3 T.f_names_of T.d_names_of ["page"] (spNms T) := (ok_names T B).imp fun vs H Q E h => by
  obtain ⟨pa, z, a, b, lv, d, r, rfl, hp, pv, hb, q⟩ := h
  obtain ⟨fs, e1, e2⟩ := pv.forms
  exact ⟨pa, z, d, r, fs, rfl, hp, e1, hb, fun H' c g hc => q c H' g (by rw [← e2]; exact hc)⟩
/-- a house stands, by the dict of homes -/
def has (hs : List (Key × V)) (a : Str) : Bool := (valV hs (.inr a)).isSome
/-- whether a page can be done -/
def good (hs : List (Key × V)) (kn : List Str) (z a : Str) (b : Option Str) : Bool :=
  if z = "house" then !decide (a ∈ kn) else if z = "part" then (match b with | some b => !decide (b ∈ kn) && has hs a | none => false) else has hs a && (match b with | some b => has hs b | none => true)
theorem namesP_eq (a : Str) (b : Option Str) : namesP a b = (a :: b.toList).map V.str := by cases b <;> rfl
theorem all_has {K : PySem.W.Frag} {q hm : Addr} {zs : List Str} {hs : List (Key × V)} {y1 y2 y3 y4 : Option V} {H2 : Hp} {Qt Qs : Hp → Prop} (h1 : H2 q = some (.tup (zs.map V.str))) (hh : H2 hm = some (.dK hs)) (qt : zs.all (has hs) = true → Qt H2) (qs : zs.all (has hs) = false → Qs H2) :
    ∃ W : Nat → Nat → Hp → Prop, (∃ m, W 0 m H2) ∧ ∀ i m H', W i m H' → GE.Step (Itt K q) (gName 4) tYes (tDIn (tVar 4) (tVar 0)) [4] [some (.ref hm), y1, y2, y3, y4] false Qt Qs W i m H' := by
  refine GE.ag_it (walk_tup (xs := zs.map V.str)) (fun i Hx => Hx = H2 ∧ ∀ k x, k < i → zs[k]? = some x → has hs x = true) ⟨rfl, fun k x hk => by omega⟩ ?_ ?_ ?_
  · rintro i Hx _ ⟨rfl, _⟩
    exact .inl (.inl h1)
  · rintro i x H3 H4 hi ⟨rfl, hp⟩ ⟨rfl, hx⟩
    obtain ⟨y, hy, rfl⟩ : ∃ y, zs[i]? = some y ∧ x = V.str y := by
      rw [List.getElem?_map] at hx
      cases e : zs[i]? with
      | none => rw [e] at hx; cases hx
      | some y => rw [e] at hx; exact ⟨y, rfl, (Option.some.inj hx).symm⟩
    refine ⟨rfl, tYesT ⟨_, rfl, _, rfl, hm, _, rfl, DGet.k (k := .inr y) hh, _, rfl, fun e => qs ?_, fun ne => ⟨rfl, fun k x hk hz => ?_⟩⟩⟩
    · refine Bool.eq_false_iff.mpr fun z => ?_
      have := List.all_eq_true.mp z y (List.mem_of_getElem? hy)
      unfold has at this
      rw [e] at this; cases this
    · rcases Nat.lt_succ_iff_lt_or_eq.mp hk with l | rfl
      · exact hp k x l hz
      · have e : y = x := Option.some.inj (hy.symm.trans hz)
        rw [← e]
        exact (Bool.eq_false_or_eq_true _).resolve_right ne
  · rintro H3 ⟨rfl, hp⟩
    refine qt (List.all_eq_true.mpr fun y hy => ?_)
    obtain ⟨k, hk⟩ := List.mem_iff_getElem?.mp hy
    exact hp k y (by rw [List.length_map]; exact (List.getElem?_eq_some_iff.mp hk).1) hk
theorem good_other {hs : List (Key × V)} {kn : List Str} {z a : Str} {b : Option Str} (h1 : z ≠ "house") (h2 : z ≠ "part") : good hs kn z a b = (a :: b.toList).all (has hs) := by
  unfold good
  rw [if_neg h1, if_neg h2]
  cases b <;> simp
theorem inV_strs (x : Str) : ∀ ks : List Str, inV (.str x) (ks.map V.str) = decide (x ∈ ks)
  | [] => by simp [inV]
  | k :: ks => by
    have ih := inV_strs x ks
    unfold inV at ih ⊢
    rw [List.map_cons, List.any_cons, ih]
    show ((k == x) || decide (x ∈ ks)) = _
    rw [Bool.eq_iff_iff]
    simp only [Bool.or_eq_true, beq_iff_eq, decide_eq_true_eq, List.mem_cons]
    exact or_congr ⟨Eq.symm, Eq.symm⟩ Iff.rfl
theorem flat_strs (ks : List Str) : (ks.map V.str).all flatV = true := by
  rw [List.all_map]
  exact List.all_eq_true.mpr fun _ _ => rfl
theorem at_last (zs : List V) (l : V) : atI (zs ++ [l]) (-1) = some l := by
  have e : (-1 + ((zs.length : Int) + 1)).toNat = zs.length := by omega
  have e2 : (1 : Int) ≤ (zs.length : Int) + 1 := by omega
  unfold atI ixN
  rw [List.length_append]
  simp [e, e2]
theorem cut_init (zs : List V) (l : V) : cutV (zs ++ [l]) none (some (-1)) = zs := by
  have e : (-1 + ((zs.length : Int) + 1)).toNat = zs.length := by omega
  unfold cutV HT.sIx
  simp [e]
def spCan (T : Tx K mg w) : Sp := fun vs H Q _ => ∃ (hm kn pa : Addr) (hs : List (Key × V)) (ks : List Str) (z a : Str) (b : Option Str) (lv d : V) (r : List V), vs = [.ref hm, .ref kn, .ref pa] ∧ H hm = some (.dK hs) ∧ H kn = some (.lst (ks.map V.str)) ∧ H pa = some (.tup (.str z :: d :: r)) ∧ PV z a b lv r ∧ Tbs (tbs T) H ∧
  ∀ H', Gk (tbs T) H H' → Q (.bl (good hs ks z a b)) H'
theorem ok_can (T : Tx K mg w) (B : Tb T base) : FnOk P w K mg base CX0 5 T.f_can_be_done T.d_can_be_done ["homes", "known", "page"] (spCan T) := by
  have G_page_kind : FnOk P w K mg base CX0 1 T.f_page_kind T.d_page_kind ["page"] ((spAt 0)) := ok_page_kind T
  have G_names_of : FnOk P w K mg base CX0 3 T.f_names_of T.d_names_of ["page"] (spNms T) := ok_nms T B
  refine T.F_can_be_done.ok S_can_be_done (fun vs H Q E h => ?_) (fun A outer s H vs Q E hr h => ?_)
  · obtain ⟨hm, kn, pa, hs, ks, z, a, b, lv, d, r, rfl, _⟩ := h
    rfl
  · obtain ⟨hm, kn, pa, hs, ks, z, a, b, lv, d, r, rfl, hh, hk, hp, vw, hB, q⟩ := h
    refine ⟨_, (pss_cons (ps_set (i := 3) S_can_be_done.nd rfl (.inl rfl) (pe_call G_names_of (hr.mono (by decide)) (by rfl) T.g_names_of T.F_names_of.kp T.b_names_of .nil pass0 (pa_cons (pv 2) pa_nil)))
      (pss_cons (ps_if (pt_cmpR (op_notIn_strs (hu_of hr)) (pe_call G_page_kind (hr.mono (by decide)) (by rfl) T.g_page_kind T.F_page_kind.kp T.b_page_kind .nil pass0 (pa_cons (pv 2) pa_nil)) (pe_glob (v := .ref T.a_COMING) (by rfl) T.c_COMING rfl) (by rfl)) (pss_one (ps_ret (GE.pe_allG (own := [("name", 4)]) (g := gName 4) (tt := tYes) (by rfl) S_can_be_done.nd hr (by rfl) T.m_all B.b_can_be_done rfl ⟨blkOk_by (own := [("name", 4)]) (N := N_can_be_done) (sc := defScope s_can_be_done) (by decide +kernel), rfl, (by decide +kernel), (by decide +kernel)⟩ (pi_tup (pv 3)) (fun _ _ _ _ _ _ hr => (pg_name (i := 4) S_can_be_done.nd rfl (.inl rfl))) (fun _ _ _ _ _ _ hr => pts_nil) (fun _ _ _ _ _ _ hr => (pe_cmp (pc_din (hu_of hr) (pv 4) (pv 0))))))) pss_nil)
      (pss_one (ps_ret (pe_and (pe_cmpR op_notIn_seq (pe_ix ix_tup (pv 3) (pe_un un_neg pe_int) (fun _ _ => rfl)) (pv 1) (by rfl)) (pe_one (GE.pe_allG (own := [("name", 4)]) (g := gName 4) (tt := tYes) (by rfl) S_can_be_done.nd hr (by rfl) T.m_all B.b_can_be_done rfl ⟨blkOk_by (own := [("name", 4)]) (N := N_can_be_done) (sc := defScope s_can_be_done) (by decide +kernel), rfl, (by decide +kernel), (by decide +kernel)⟩ (pi_tup (pe_slice sl_tupA (pv 3) po_none (po_some (pe_un un_neg pe_int)))) (fun _ _ _ _ _ _ hr => (pg_name (i := 4) S_can_be_done.nd rfl (.inl rfl))) (fun _ _ _ _ _ _ hr => pts_nil) (fun _ _ _ _ _ _ hr => (pe_cmp (pc_din (hu_of hr) (pv 4) (pv 0))))))))))), ?_⟩
    refine ⟨_, rfl, pa, z, a, b, lv, d, r, rfl, hp, vw, hB, fun q1 H1 g1 h1 => ?_⟩
    rw [namesP_eq] at h1
    have hh1 := g1.1 _ _ hh (fun ps z => by cases z)
    have hk1 := g1.1 _ _ hk (fun ps z => by cases z)
    refine ⟨_, rfl, pa, _, .str z, rfl, g1.tup hp, rfl, T.a_COMING, ["house", "part"], rfl, .inr T.w_COMING, trivial, _, rfl, ite2 (fun e => ?_) (fun e => ?_)⟩
    · have e : (!strIn ["house", "part"] (.str z)) = true := e
      refine ⟨_, rfl, q1, rfl, ⟨_, .inl (.inl h1)⟩, g1.2 _ (by simp [tbs]), fun H2 tab => ?_⟩
      have g2 : Gk (tbs T) H1 H2 := (Tk.of g1.2 (by simp [tbs]) tab).gk g1.2
      have gd : good hs ks z a b = (a :: b.toList).all (has hs) := by
        cases vw <;> first | (exact absurd e (by decide +kernel)) | exact good_other (by decide +kernel) (by decide +kernel)
      have qq := q H2 (g1.trans g2)
      rw [gd] at qq
      exact all_has (g2.tup h1) (g2.1 _ _ hh1 (fun ps z => by cases z)) (fun z => by rw [z] at qq; exact qq) (fun z => by rw [z] at qq; exact qq)
    · have e : ¬ (!strIn ["house", "part"] (.str z)) = true := e
      obtain ⟨zs, last, ez, gd⟩ : ∃ zs last, (a :: b.toList) = zs ++ [last] ∧ good hs ks z a b = (!decide (last ∈ ks) && zs.all (has hs)) := by
        cases vw
        case house => exact ⟨[], a, rfl, by unfold good; rw [if_pos rfl]; simp⟩
        case part => exact ⟨[a], _, rfl, by unfold good; rw [if_neg (by decide +kernel), if_pos rfl]; simp⟩
        all_goals exact absurd (by decide +kernel) e
      rw [ez, List.map_append] at h1
      have h1 : H1 q1 = some (.tup (zs.map V.str ++ [.str last])) := h1
      refine ⟨_, rfl, 1, rfl, q1, _, -1, .str last, rfl, rfl, .inl (.inl h1), at_last _ _, _, rfl, kn, ks.map V.str, rfl, .inl (.inl (.inl hk1)), rfl, flat_strs ks, _, rfl, ?_⟩
      rw [inV_strs]
      have qq : ∀ H', Gk (tbs T) H1 H' → Q (.bl (!decide (last ∈ ks) && zs.all (has hs))) H' := fun H' g => by
        have := q H' (g1.trans g)
        rw [gd] at this
        exact this
      refine ite2 (fun e2 => ?_) (fun e2 => ?_)
      · have e2 : (!decide (last ∈ ks)) = true := e2
        rw [e2] at qq
        refine ⟨_, rfl, np_in ⟨1, rfl, -1, rfl, sl_in h1 fun c H2 s2 hc => ?_⟩⟩
        rw [cut_init] at hc
        have b2 := g1.2.same s2
        have gs : Gk (tbs T) H1 H2 := .of_same s2 g1.2
        refine ⟨c, rfl, ⟨_, .inl (.inl hc)⟩, b2 _ (by simp [tbs]), fun H3 tab => ?_⟩
        have g3 : Gk (tbs T) H2 H3 := (Tk.of b2 (by simp [tbs]) tab).gk b2
        have qq := qq H3 (gs.trans g3)
        exact all_has (g3.tup hc) (g3.1 _ _ (s2 _ _ hh1) (fun ps z => by cases z)) (fun z => by rw [z] at qq; exact qq) (fun z => by rw [z] at qq; exact qq)
      · have e2 : ¬ (!decide (last ∈ ks)) = true := e2
        have qq := qq H1 (.refl g1.2)
        rw [Bool.eq_false_iff.mpr e2] at qq
        exact qq
/-- the homes, and who is known, behind a page that is done -/
def nextH (hs : List (Key × V)) (z a : Str) (b : Option Str) (lv : V) : List (Key × V) :=
  if z = "house" then putK hs (.inr a) lv else if z = "part" then putK hs (.inr (b.getD a)) lv else if z = "join" then dropK hs (.inr (b.getD a)) else if z = "home" then putK hs (.inr a) lv else hs
def nextK (kn : List Str) (z a : Str) (b : Option Str) : List Str := if z = "house" then kn ++ [a] else if z = "part" then kn ++ [b.getD a] else kn
/-- all but these two is as it was, tables beside -/
def K2 (Ts : TL) (hm kn : Addr) (H H' : Hp) : Prop := (∀ b o, b ≠ hm → b ≠ kn → H b = some o → (∀ ps, o ≠ .tbl ps) → H' b = some o) ∧ Tbs Ts H'
theorem K2.gk {Ts : TL} {hm kn : Addr} {H H' : Hp} (g : Gk Ts H H') : K2 Ts hm kn H H' := ⟨fun b o _ _ e n => g.1 b o e n, g.2⟩
theorem tbs_dk {Ts : TL} {H : Hp} {f : Addr} {o : HO} {kvs : List (Key × V)} (h : Tbs Ts H) (hf : H f = some (.dK kvs)) : Tbs Ts (upd H f o) := h.keep fun b u e _ n => by
  rw [upd_ne (fun z => by rw [z, hf] at e; exact n _ (Option.some.inj e).symm)]
  exact e
theorem K2.u0 {Ts : TL} {hm kn : Addr} {H H' : Hp} {o : HO} {kvs : List (Key × V)} (k : K2 Ts hm kn H H') (e : H' hm = some (.dK kvs)) (_ : ∀ ps, HO.dK kvs ≠ .tbl ps) : K2 Ts hm kn H (upd H' hm o) := ⟨fun b x n1 n2 e n => by rw [upd_ne n1]; exact k.1 b x n1 n2 e n, tbs_dk k.2 e⟩
theorem K2.u1 {Ts : TL} {hm kn : Addr} {H H' : Hp} {o : HO} {xs : List V} (k : K2 Ts hm kn H H') (e : H' kn = some (.lst xs)) (_ : ∀ ps, HO.lst xs ≠ .tbl ps) : K2 Ts hm kn H (upd H' kn o) := ⟨fun b x n1 n2 e n => by rw [upd_ne n2]; exact k.1 b x n1 n2 e n, k.2.lst e⟩
def spTurn (T : Tx K mg w) : Sp := fun vs H Q _ => ∃ (hm kn pa : Addr) (hs : List (Key × V)) (ks : List Str) (z a : Str) (b : Option Str) (lv d : V) (r : List V), vs = [.ref hm, .ref kn, .ref pa] ∧ H hm = some (.dK hs) ∧ H kn = some (.lst (ks.map V.str)) ∧ H pa = some (.tup (.str z :: d :: r)) ∧ PV z a b lv r ∧ Tbs (tbs T) H ∧ good hs ks z a b = true ∧ hs.length ≤ 500 ∧ ks.length ≤ 500 ∧
  hm ≠ kn ∧ ∀ H', K2 (tbs T) hm kn H H' → H' hm = some (.dK (nextH hs z a b lv)) → H' kn = some (.lst ((nextK ks z a b).map V.str)) → Q .non H'
theorem ok_turn (T : Tx K mg w) (B : Tb T base) : FnOk P w K mg base CX0 4 T.f_turn_houses T.d_turn_houses ["homes", "known", "page"] (spTurn T) := by
  have G_page_kind : FnOk P w K mg base CX0 1 T.f_page_kind T.d_page_kind ["page"] ((spAt 0)) := ok_page_kind T
  have G_names_of : FnOk P w K mg base CX0 3 T.f_names_of T.d_names_of ["page"] (spNms T) := ok_nms T B
  refine T.F_turn_houses.ok S_turn_houses (fun vs H Q E h => ?_) (fun cdv A outer s H vs Q E hr h => ?_)
  · obtain ⟨hm, kn, pa, hs, ks, z, a, b, lv, d, r, rfl, _⟩ := h
    rfl
  · obtain ⟨hm, kn, pa, hs, ks, z, a, b, lv, d, r, rfl, hh, hk, hp, vw, hB, gd, lh, lk, ne, q⟩ := h
    refine ⟨_, (pss_cons (ps_set (i := 3) S_turn_houses.nd rfl (.inl rfl) (pe_call G_page_kind (hr.mono (by decide)) (by rfl) T.g_page_kind T.F_page_kind.kp T.b_page_kind .nil pass0 (pa_cons (pv 2) pa_nil)))
      (pss_cons (ps_set (i := 4) S_turn_houses.nd rfl (.inl rfl) (pe_call G_names_of hr (by rfl) T.g_names_of T.F_names_of.kp T.b_names_of .nil pass0 (pa_cons (pv 2) pa_nil)))
      (pss_one (ps_if (pt_cmpR op_in_seq (pv 3) (pe_glob (v := .ref T.a_COMING) (by rfl) T.c_COMING rfl) (by rfl)) (pss_cons (ps_expr (pe_bm PySem.F.plainAttrs_list PySem.F.slot_list_append PySem.F.type_list_append mt_append (pv 1) (pa_cons (pe_ix ix_tup (pv 4) (pe_un un_neg pe_int) (fun _ _ => rfl)) pa_nil)))
      (pss_one (ps_dput (hu_of hr) (pv 0) (pe_ix ix_tup (pv 4) (pe_un un_neg pe_int) (fun _ _ => rfl)) (pe_ix ix_tup (pv 2) (pe_un un_neg pe_int) (fun _ _ => rfl)) rfl))) (pss_one (ps_if (pt_cmpR op_eq (pv 3) pe_str (nomark _)) (pss_one (ps_ddel (pv 0) (pe_ix ix_tup (pv 4) pe_int (fun _ _ => rfl)))) (pss_one (ps_if (pt_cmpR op_eq (pv 3) pe_str (nomark _)) (pss_one (ps_dput (hu_of hr) (pv 0) (pe_ix ix_tup (pv 4) pe_int (fun _ _ => rfl)) (pe_ix ix_tup (pv 2) (pe_un un_neg pe_int) (fun _ _ => rfl)) rfl)) pss_nil)))))))), ?_⟩
    refine ⟨_, rfl, pa, _, .str z, rfl, hp, rfl, ?_⟩
    refine ⟨_, rfl, pa, z, a, b, lv, d, r, rfl, hp, vw, hB, fun q1 H1 g1 h1 => ?_⟩
    have hh1 := g1.1 _ _ hh (fun ps z => by cases z)
    have hk1 := g1.1 _ _ hk (fun ps z => by cases z)
    have hp1 := g1.tup hp
    have tl : ∀ {o}, (∀ c ys, H1 c = some (.tup ys) → upd H1 kn o c = some (.tup ys)) ∧ True := fun {o} => ⟨fun c ys e => by rw [upd_ne (fun z => by rw [z, hk1] at e; cases e)]; exact e, trivial⟩
    refine ⟨_, rfl, T.a_COMING, [.str "house", .str "part"], rfl, .inr (.inr T.w_COMING), rfl, rfl, _, rfl, ?_⟩
    cases vw
    case house =>
      refine ite2 (fun _ => ?_) (fun z => absurd (by decide +kernel) z)
      · refine ⟨_, rfl, .inl ⟨rfl, _, .inl (.inl hk1)⟩, _, rfl, 1, rfl, q1, _, -1, .str a, rfl, rfl, .inl (.inl h1), rfl, kn, ks.map V.str, .str a, rfl, rfl, hk1, small1000 (by rw [List.length_map]; omega), ?_⟩
        refine ⟨_, rfl, 1, rfl, pa, _, -1, lv, rfl, rfl, .inl (.inl (tl.1 _ _ hp1)), rfl, _, rfl, _, rfl, 1, rfl, q1, _, -1, .str a, rfl, rfl, .inl (.inl (tl.1 _ _ h1)), rfl, hm, _, rfl, .inl ⟨hs, .inr a, by rw [upd_ne ne]; exact hh1, rfl, small1000 (by omega), rfl⟩, ?_⟩
        refine q _ (((K2.gk g1).u1 hk1 (fun ps z => by cases z)).u0 (by rw [upd_ne ne]; exact hh1) (fun ps z => by cases z)) upd_same ?_
        rw [upd_ne ne.symm, upd_same]
        show some (HO.lst (ks.map V.str ++ [V.str a])) = some (.lst ((ks ++ [a]).map V.str))
        rw [List.map_append]
        rfl
    case part b =>
      refine ite2 (fun _ => ?_) (fun z => absurd (by decide +kernel) z)
      · refine ⟨_, rfl, .inl ⟨rfl, _, .inl (.inl hk1)⟩, _, rfl, 1, rfl, q1, _, -1, .str b, rfl, rfl, .inl (.inl h1), rfl, kn, ks.map V.str, .str b, rfl, rfl, hk1, small1000 (by rw [List.length_map]; omega), ?_⟩
        refine ⟨_, rfl, 1, rfl, pa, _, -1, lv, rfl, rfl, .inl (.inl (tl.1 _ _ hp1)), rfl, _, rfl, _, rfl, 1, rfl, q1, _, -1, .str b, rfl, rfl, .inl (.inl (tl.1 _ _ h1)), rfl, hm, _, rfl, .inl ⟨hs, .inr b, by rw [upd_ne ne]; exact hh1, rfl, small1000 (by omega), rfl⟩, ?_⟩
        refine q _ (((K2.gk g1).u1 hk1 (fun ps z => by cases z)).u0 (by rw [upd_ne ne]; exact hh1) (fun ps z => by cases z)) upd_same ?_
        rw [upd_ne ne.symm, upd_same]
        show some (HO.lst (ks.map V.str ++ [V.str b])) = some (.lst ((ks ++ [b]).map V.str))
        rw [List.map_append]
        rfl
    case join b =>
      refine ite2 (fun z => absurd z (by decide +kernel)) (fun _ => ?_)
      refine ⟨_, rfl, rfl, _, rfl, ite2 (fun _ => ?_) (fun z => absurd (by decide +kernel) z)⟩
      have g2 : has hs b = true := by
        rw [good_other (by decide +kernel) (by decide +kernel)] at gd
        exact List.all_eq_true.mp gd b (by simp)
      refine ⟨_, rfl, _, rfl, q1, _, 1, .str b, rfl, rfl, .inl (.inl h1), rfl, hm, hs, .inr b, rfl, hh1, rfl, g2, ?_⟩
      exact q _ ((K2.gk g1).u0 hh1 (fun ps z => by cases z)) upd_same (by rw [upd_ne ne.symm]; exact hk1)
    case home =>
      refine ite2 (fun z => absurd z (by decide +kernel)) (fun _ => ?_)
      refine ⟨_, rfl, rfl, _, rfl, ite2 (fun z => absurd z (by decide +kernel)) (fun _ => ?_)⟩
      refine ⟨_, rfl, rfl, _, rfl, ite2 (fun _ => ?_) (fun z => absurd (by decide +kernel) z)⟩
      refine ⟨_, rfl, 1, rfl, pa, _, -1, lv, rfl, rfl, .inl (.inl hp1), rfl, _, rfl, _, rfl, q1, _, 0, .str a, rfl, rfl, .inl (.inl h1), rfl, hm, _, rfl, .inl ⟨hs, .inr a, hh1, rfl, small1000 (by omega), rfl⟩, ?_⟩
      exact q _ ((K2.gk g1).u0 hh1 (fun ps z => by cases z)) upd_same (by rw [upd_ne ne.symm]; exact hk1)
    all_goals
      refine ite2 (fun z => absurd z (by decide +kernel)) (fun _ => ?_)
      refine ⟨_, rfl, rfl, _, rfl, ite2 (fun z => absurd z (by decide +kernel)) (fun _ => ?_)⟩
      refine ⟨_, rfl, rfl, _, rfl, ite2 (fun z => absurd z (by decide +kernel)) (fun _ => ?_)⟩
      exact q _ (K2.gk g1) hh1 hk1
end
end L52

set_option Elab.async false
set_option linter.all false
set_option maxRecDepth 100000
set_option maxHeartbeats 2000000
namespace L52
open PySem PySem.Spec PyProof.Rows L2 LT
open My hiding Tbs Gk Tk
section
variable {P : Program} {w : World} {K : PySem.W.Frag} {mg : Str → Option Value} {base : Heap}
/-! ### a book, walked -/
structure Vw where
  z : Str
  a : Str
  b : Option Str
  lv : V
  d : Int
/-- a page's view -/
def VwAt (H : Hp) (x : V) (v : Vw) : Prop := ∃ (pa : Addr) (r : List V), x = .ref pa ∧ H pa = some (.tup (.str v.z :: .int v.d :: r)) ∧ PV v.z v.a v.b v.lv r
theorem VwAt.at {H H' : Hp} {x : V} {v : Vw} (h : VwAt H x v) (t : Tups H H') : VwAt H' x v := let ⟨pa, r, e, hp, pv⟩ := h; ⟨pa, r, e, t _ _ hp, pv⟩
inductive Views (H : Hp) : List V → List Vw → Prop
  | nil : Views H [] []
  | cons {x : V} {v : Vw} {xs : List V} {vs : List Vw} : VwAt H x v → Views H xs vs → Views H (x :: xs) (v :: vs)
theorem Views.at {H H' : Hp} (t : Tups H H') : ∀ {xs : List V} {vs : List Vw}, Views H xs vs → Views H' xs vs
  | [], _, .nil => .nil
  | _ :: _, _, .cons a r => .cons (a.at t) (r.at t)
theorem Views.length {H : Hp} : ∀ {xs : List V} {vs : List Vw}, Views H xs vs → xs.length = vs.length
  | [], _, .nil => rfl
  | _ :: _, _, .cons _ r => congrArg (· + 1) r.length
theorem Views.get {H : Hp} : ∀ {xs : List V} {vs : List Vw} {i : Nat} {x : V}, Views H xs vs → xs[i]? = some x → ∃ v, vs[i]? = some v ∧ VwAt H x v
  | [], _, _, _, .nil, e => by simp at e
  | _ :: _, v :: _, 0, _, .cons a _, e => ⟨v, rfl, by cases e; exact a⟩
  | _ :: _, _ :: _, i + 1, _, .cons _ r, e => r.get (i := i) (by simpa using e)
theorem Views.of {H : Hp} : ∀ {xs : List V}, PgP H xs → ∃ vs, Views H xs vs
  | [], _ => ⟨[], .nil⟩
  | x :: xs, h => by
    obtain ⟨k, n, p⟩ := h x (.head _)
    obtain ⟨pa, z, a, b, lv, r, e, hp, pv⟩ := view n p
    obtain ⟨vs, r2⟩ := Views.of (xs := xs) fun y hy => h y (.tail _ hy)
    exact ⟨⟨z, a, b, lv, dayK k⟩ :: vs, .cons ⟨pa, r, e, hp, pv⟩ r2⟩
structure Wk where
  hs : List (Key × V)
  kn : List Str
  ok : List Bool
def stepW (w : Wk) (v : Vw) : Wk := if good w.hs w.kn v.z v.a v.b = true then ⟨nextH w.hs v.z v.a v.b v.lv, nextK w.kn v.z v.a v.b, w.ok ++ [true]⟩ else ⟨w.hs, w.kn, w.ok ++ [false]⟩
def runW (vs : List Vw) : Wk := vs.foldl stepW ⟨[], [], []⟩
theorem run_next {vs : List Vw} {i : Nat} {v : Vw} (h : vs[i]? = some v) : runW (vs.take (i + 1)) = stepW (runW (vs.take i)) v := by
  unfold runW
  rw [List.take_add_one, h, List.foldl_append]
  rfl
theorem nextH_len (hs : List (Key × V)) (z a : Str) (b : Option Str) (lv : V) : (nextH hs z a b lv).length ≤ hs.length + 1 := by
  have put : ∀ k, (putK hs k lv).length ≤ hs.length + 1 := fun k => by
    unfold putK
    split
    · rw [List.length_map]; omega
    · rw [List.length_append]; exact Nat.le_refl _
  have dr := fun k => dropK_le hs k
  unfold nextH
  split
  · exact put _
  split
  · exact put _
  split
  · exact Nat.le_succ_of_le (dr _)
  split
  · exact put _
  · omega
theorem nextK_len (kn : List Str) (z a : Str) (b : Option Str) : (nextK kn z a b).length ≤ kn.length + 1 := by
  unfold nextK
  split
  · rw [List.length_append]; exact Nat.le_refl _
  split
  · rw [List.length_append]; exact Nat.le_refl _
  · omega
theorem run_len (vs : List Vw) : ∀ i, i ≤ vs.length → (runW (vs.take i)).hs.length ≤ i ∧ (runW (vs.take i)).kn.length ≤ i ∧ (runW (vs.take i)).ok.length = i
  | 0, _ => ⟨Nat.le_refl _, Nat.le_refl _, rfl⟩
  | i + 1, h => by
    obtain ⟨a, b, c⟩ := run_len vs i (by omega)
    obtain ⟨v, hv⟩ : ∃ v, vs[i]? = some v := ⟨_, List.getElem?_eq_getElem (by omega)⟩
    rw [run_next hv]
    generalize runW (vs.take i) = w at a b c
    unfold stepW
    split
    · have := nextH_len w.hs v.z v.a v.b v.lv
      have := nextK_len w.kn v.z v.a v.b
      exact ⟨by show (nextH ..).length ≤ _; omega, by show (nextK ..).length ≤ _; omega, by show (w.ok ++ [true]).length = _; rw [List.length_append, c]; rfl⟩
    · exact ⟨by show w.hs.length ≤ _; omega, by show w.kn.length ≤ _; omega, by show (w.ok ++ [false]).length = _; rw [List.length_append, c]; rfl⟩
/-- the marks: pairs of a page and whether it was done -/
def Marks (H : Hp) (zs : List V) (ok : List Bool) (ms : List V) : Prop := ms.length = ok.length ∧ ∀ (i : Nat) (m : V), ms[i]? = some m → ∃ (q : Addr) (x : V) (o : Bool), m = V.ref q ∧ zs[i]? = some x ∧ ok[i]? = some o ∧ H q = some (.tup [x, .bl o])
theorem Marks.at {H H' : Hp} {zs ms : List V} {ok : List Bool} (h : Marks H zs ok ms) (t : Tups H H') : Marks H' zs ok ms := ⟨h.1, fun i m e => let ⟨q, x, o, a, b, c, d⟩ := h.2 i m e; ⟨q, x, o, a, b, c, t _ _ d⟩⟩
theorem Marks.add {H : Hp} {zs ms : List V} {ok : List Bool} {o : Bool} {q : Addr} {x : V} (h : Marks H zs ok ms) (hx : zs[ok.length]? = some x) (hq : H q = some (.tup [x, .bl o])) : Marks H zs (ok ++ [o]) (ms ++ [.ref q]) := by
  refine ⟨by rw [List.length_append, List.length_append, h.1]; rfl, fun i m e => ?_⟩
  rw [List.getElem?_append] at e
  split at e
  · rename_i l
    obtain ⟨q, x, o, a, b, c, d⟩ := h.2 i m e
    exact ⟨q, x, o, a, b, by rw [List.getElem?_append_left (by rw [← h.1]; exact l)]; exact c, d⟩
  · have ei : i = ok.length := by
      have := (List.getElem?_eq_some_iff.mp e).1
      have := h.1
      simp at *
      omega
    subst ei
    rw [h.1, Nat.sub_self] at e
    cases e
    exact ⟨q, x, o, rfl, hx, by rw [List.getElem?_append_right (Nat.le_refl _), Nat.sub_self]; rfl, hq⟩
theorem gk_fresh {Ts : TL} {H H1 : Hp} {p : Addr} {o u : HO} (hp : H p = none) (g : Gk Ts H H1) (e : H1 p = some u) (n : ∀ ps, u ≠ .tbl ps) (n2 : ∀ c q, u ≠ LamX.CodeO c q := by intro c q z; unfold LamX.CodeO at z; cases z) : Gk Ts H (upd H1 p o) := ⟨fun b x h hn => by
  rw [upd_ne (ne_of_none h hp)]
  exact g.1 b x h hn, tbs_at g.2 e n n2⟩
def spWalk (T : Tx K mg w) : Sp := fun vs H Q _ => ∃ (a : Addr) (d : Int) (xs : List V) (ks : List NestedKey) (ws : List Vw), vs = [.ref a, .int d] ∧ H a = some (.tup xs) ∧ PgsAt H xs ks ∧ xs.length ≤ 200 ∧ Tbs (tbs T) H ∧ Views H (fltD d xs ks) ws ∧
  ∀ r hm kn mk ms H', Gk (tbs T) H H' → H' r = some (.tup [.ref hm, .ref kn, .ref mk]) → H' hm = some (.dK (runW ws).hs) → H' kn = some (.lst ((runW ws).kn.map V.str)) → H' mk = some (.lst ms) → Marks H' (fltD d xs ks) (runW ws).ok ms → Q (.ref r) H'
theorem ok_walk (T : Tx K mg w) (B : Tb T base) : FnOk P w K mg base CX0 6 T.f_walk_houses T.d_walk_houses ["book", "day"] (spWalk T) := by
  have G_up_to : FnOk P w K mg base CX0 3 T.f_up_to T.d_up_to ["book", "day"] (spUp T) := ok_up T B
  have G_can_be_done : FnOk P w K mg base CX0 5 T.f_can_be_done T.d_can_be_done ["homes", "known", "page"] (spCan T) := ok_can T B
  have G_turn_houses : FnOk P w K mg base CX0 4 T.f_turn_houses T.d_turn_houses ["homes", "known", "page"] (spTurn T) := ok_turn T B
  refine T.F_walk_houses.ok S_walk_houses (fun vs H Q E h => ?_) (fun cdv A outer s H vs Q E hr h => ?_)
  · obtain ⟨a, d, xs, ks, ws, rfl, _⟩ := h
    rfl
  · obtain ⟨a, d, xs, ks, ws, rfl, ha, ⟨nk, pk⟩, lx, hB, vw, q⟩ := h
    refine ⟨_, (pss_cons (ps_set (i := 2) S_walk_houses.nd rfl (.inl rfl) pe_dnewK)
      (pss_cons (ps_set (i := 3) S_walk_houses.nd rfl (.inl rfl) (pe_lst pa_nil))
      (pss_cons (ps_set (i := 4) S_walk_houses.nd rfl (.inl rfl) (pe_lst pa_nil))
      (pss_cons (ps_for PassesOwn.never rfl (pi_tup (pe_call G_up_to (hr.mono (by decide)) (by rfl) T.g_up_to T.F_up_to.kp T.b_up_to .nil pass0 (pa_cons (pv 0) (pa_cons (pv 1) pa_nil)))) (pg_name (i := 5) S_walk_houses.nd rfl (.inl rfl))
      (pss_cons (ps_set (i := 6) S_walk_houses.nd rfl (.inl rfl) (pe_call G_can_be_done hr (by rfl) T.g_can_be_done T.F_can_be_done.kp T.b_can_be_done .nil pass0 (pa_cons (pv 2) (pa_cons (pv 3) (pa_cons (pv 5) pa_nil)))))
      (pss_cons (ps_if (pt_val (pv 6)) (pss_one (ps_expr (pe_call G_turn_houses (hr.mono (by decide)) (by rfl) T.g_turn_houses T.F_turn_houses.kp T.b_turn_houses .nil pass0 (pa_cons (pv 2) (pa_cons (pv 3) (pa_cons (pv 5) pa_nil)))))) pss_nil)
      (pss_one (ps_expr (pe_bm PySem.F.plainAttrs_list PySem.F.slot_list_append PySem.F.type_list_append mt_append (pv 4) (pa_cons (pe_tup (pa_cons (pv 5) (pa_cons (pv 6) pa_nil))) pa_nil)))))))
      (pss_one (ps_ret (pe_tup (pa_cons (pv 2) (pa_cons (pv 3) (pa_cons (pv 4) pa_nil)))))))))), ?_⟩
    intro hm n1
    refine ⟨sz (by show 0 ≤ 1000; decide), fun kn n2 => ⟨sz (by show 0 ≤ 1000; decide), fun mk n3 => ?_⟩⟩
    have s1 := same_upd (o := .dK []) n1
    have s2 := same_upd (o := .lst []) n2
    have s3 := same_upd (o := .lst []) n3
    have c1 := upd_same (H := H) (a := hm) (o := .dK [])
    have c2 := upd_same (H := upd H hm (.dK [])) (a := kn) (o := .lst [])
    have d12 : hm ≠ kn := ne_of_none c1 n2
    have d13 : hm ≠ mk := ne_of_none (s2 _ _ c1) n3
    have d23 : kn ≠ mk := ne_of_none c2 n3
    have f2 : H kn = none := by
      cases e : H kn with
      | none => rfl
      | some o => rw [s1 _ _ e] at n2; cases n2
    have f3 : H mk = none := by
      cases e : H mk with
      | none => rfl
      | some o => rw [s2 _ _ (s1 _ _ e)] at n3; cases n3
    have sA := (s1.trans s2).trans s3
    have b1 := s3 _ _ (s2 _ _ c1)
    have b2 := s3 _ _ c2
    have b3 := upd_same (H := upd (upd H hm (.dK [])) kn (.lst [])) (a := mk) (o := .lst [])
    generalize upd (upd (upd H hm (.dK [])) kn (.lst [])) mk (.lst []) = H3 at sA b1 b2 b3 ⊢
    clear s1 s2 s3 c1 c2 n2 n3
    refine ⟨_, rfl, _, rfl, a, d, xs, ks, rfl, sA _ _ ha, ⟨nk.at (.same sA), pk⟩, by omega, hB.same sA, fun r zs H4 g4 h4 n4 l4 f4 => ?_⟩
    subst f4
    have gA : Gk (tbs T) H H4 := (Gk.of_same sA hB).trans g4
    refine ⟨r, rfl, ⟨_, .inl (.inl h4)⟩, ?_⟩
    have lw := vw.length
    refine for_tup (xs := fltD d xs ks) (fun i σ Hx => (∃ y5 y6, σ = [some (.ref a), some (.int d), some (.ref hm), some (.ref kn), some (.ref mk), y5, y6]) ∧ Gk (tbs T) H Hx ∧ Hx r = some (.tup (fltD d xs ks)) ∧ Hx hm = some (.dK (runW (ws.take i)).hs) ∧ Hx kn = some (.lst ((runW (ws.take i)).kn.map V.str)) ∧ ∃ ms, Hx mk = some (.lst ms) ∧ Marks Hx (fltD d xs ks) (runW (ws.take i)).ok ms) ?_ ?_ ?_ ?_
    · exact ⟨⟨_, _, rfl⟩, gA, h4, g4.1 _ _ b1 (fun ps z => by cases z), g4.1 _ _ b2 (fun ps z => by cases z), [], g4.1 _ _ b3 (fun ps z => by cases z), ⟨rfl, fun i m e => by cases e⟩⟩
    · rintro i σ Hx hi ⟨_, _, hr5, _⟩
      exact .inl (.inl hr5)
    · rintro i x σ Hx hx ⟨⟨y5, y6, rfl⟩, gx, hrx, hh, hk, ms, hmk, mks⟩
      have hi := (List.getElem?_eq_some_iff.mp hx).1
      obtain ⟨v, hv, va⟩ := vw.get hx
      obtain ⟨pa, rr, rfl, hpa, pv'⟩ := va.at (LT.Gk.tups gx)
      obtain ⟨le1, le2, le3⟩ := run_len ws i (by omega)
      have en := run_next hv
      refine ⟨_, rfl, _, rfl, _, rfl, hm, kn, pa, _, _, v.z, v.a, v.b, v.lv, .int v.d, rr, rfl, hh, hk, hpa, pv', gx.2, fun H5 g5 => ?_⟩
      have hh5 := g5.1 _ _ hh (fun ps z => by cases z)
      have hk5 := g5.1 _ _ hk (fun ps z => by cases z)
      have hm5 := g5.1 _ _ hmk (fun ps z => by cases z)
      have mk5 := mks.at (LT.Gk.tups g5)
      have gx5 := gx.trans g5
      have hr5 := g5.tup hrx
      refine ⟨_, rfl, _, rfl, ite2 (fun e => ?_) (fun e => ?_)⟩
      case' refine_1 =>
        refine ⟨_, rfl, _, rfl, _, rfl, hm, kn, pa, _, _, v.z, v.a, v.b, v.lv, .int v.d, rr, rfl, hh5, hk5, g5.tup hpa, pv', g5.2, e, by omega, by omega, d12, fun H6 k6 h6 h6' => ?_⟩
        have g6 : Gk (tbs T) H H6 := ⟨fun b o hb hn => k6.1 b o (ne_of_none hb n1) (ne_of_none hb f2) (gx5.1 b o hb hn) hn, k6.2⟩
        have t6 : Tups H5 H6 := fun b ys hb => k6.1 b _ (fun z => by rw [z, hh5] at hb; cases hb) (fun z => by rw [z, hk5] at hb; cases hb) hb (fun ps z => by cases z)
        have hm6 := k6.1 _ _ d13.symm d23.symm hm5 (fun ps z => by cases z)
        have mk6 := mk5.at t6
        have hr6 := t6 _ _ hr5
        have en : runW (ws.take (i + 1)) = ⟨nextH (runW (ws.take i)).hs v.z v.a v.b v.lv, nextK (runW (ws.take i)).kn v.z v.a v.b, (runW (ws.take i)).ok ++ [true]⟩ := by rw [en]; unfold stepW; rw [if_pos e]
      case' refine_2 =>
        have g6 := gx5
        have h6 := hh5
        have h6' := hk5
        have hm6 := hm5
        have mk6 := mk5
        have hr6 := hr5
        have en : runW (ws.take (i + 1)) = ⟨(runW (ws.take i)).hs, (runW (ws.take i)).kn, (runW (ws.take i)).ok ++ [false]⟩ := by rw [en]; unfold stepW; rw [if_neg e]
      all_goals
        refine ⟨_, rfl, .inl ⟨rfl, _, .inl (.inl hm6)⟩, _, rfl, _, rfl, sz (by show 2 ≤ 1000; decide), fun q nq => ?_⟩
        refine ⟨mk, ms, .ref q, rfl, rfl, same_upd nq _ _ hm6, small1000 (by have := mks.1; omega), ⟨_, _, rfl⟩, ?_⟩
        rw [en]
      case' refine_1 => rw [e]
      case' refine_2 => rw [Bool.eq_false_iff.mpr e]
      all_goals
        have sq := fun o => same_upd (o := o) nq
        refine ⟨gk_fresh f3 (g6.trans (.new g6.2 nq)) (sq _ _ _ hm6) (fun ps z => by cases z), ?_, ?_, ?_, ms ++ [.ref q], upd_same, ?_⟩
        · exact tups_lst (sq _ _ _ hm6) _ _ (sq _ _ _ hr6)
        · rw [upd_ne d13]; exact sq _ _ _ h6
        · rw [upd_ne d23]; exact sq _ _ _ h6'
        · refine ((mk6.at (.same (sq _))).add ?_ upd_same).at (tups_lst (sq _ _ _ hm6))
          rw [le3]; exact hx
    · rintro σ Hx ⟨⟨y5, y6, rfl⟩, gx, hrx, hh, hk, ms, hmk, mks⟩
      rw [List.take_of_length_le (by omega)] at hh hk mks
      refine ⟨_, rfl, _, rfl, _, rfl, sz (by show 3 ≤ 1000; decide), fun q2 nq => ?_⟩
      have sq := same_upd (o := .tup [.ref hm, .ref kn, .ref mk]) nq
      exact q q2 hm kn mk ms _ (gx.trans (.new gx.2 nq)) upd_same (sq _ _ hh) (sq _ _ hk) (sq _ _ hmk) (mks.at (.same sq))
end
end L52

set_option linter.all false
/-! A set in sight is no code in sight. -/
namespace My
open PySem PySem.Spec PyProof.Rows L2
theorem set_no_code {w : World} {S c : Addr} {M : List Ent} {q : Str} (t : Tok) : SetO w S M ≠ LamX.CodeO c q := fun z => by
  unfold SetO LamX.CodeO at z
  have z := HO.ext.inj z
  let ob : Obj := { cls := .none, data := .fields #[.none, .str q t] }
  let h : Heap := { objs := Array.replicate (c + 1) ob }
  have gc : h.get? c = some ob := by
    show (match (Array.replicate (c + 1) ob)[c]? with | some { cls := _, dict := _, data := Data.freed, slots := _ } => none | o => o) = _
    rw [Array.getElem?_replicate, if_pos (Nat.lt_succ_self c)]
  have r := congrFun z h
  have : SetW w h S M := by
    rw [r]
    exact ⟨ob, _, t, gc, rfl, rfl⟩
  obtain ⟨es, ep, tb, ⟨o, e1, _, e3⟩, _⟩ := this
  have gs : h.get? S = some o := e1
  have gs : (match (Array.replicate (c + 1) ob)[S]? with | some { cls := _, dict := _, data := Data.freed, slots := _ } => none | o => o) = some o := gs
  rw [Array.getElem?_replicate] at gs
  by_cases hs : S < c + 1
  · rw [if_pos hs] at gs
    have : ob = o := Option.some.inj gs
    rw [← this] at e3
    cases e3
  · rw [if_neg hs] at gs
    cases gs
end My

set_option Elab.async false
set_option linter.all false
set_option maxRecDepth 100000
set_option maxHeartbeats 2000000
namespace L52
open PySem PySem.Spec PyProof.Rows L2 LT
open My hiding Tbs Gk Tk
section
variable {P : Program} {w : World} {K : PySem.W.Frag} {mg : Str → Option Value} {base : Heap}
/-! ### sayings of a book -/
def aheadP (v : Vw) : Option (Str × Str) := if v.z = "ahead" then v.b.map fun b => (v.a, b) else none
def doneF (p : Vw × Bool) : Option (Str × Str) := if p.2 = true then aheadP p.1 else none
/-- the sayings done by the first pages -/
def doneP (ws : List Vw) (i : Nat) : List (Str × Str) := ((ws.zip (runW ws).ok).take i).filterMap doneF
def saysOf (ws : List Vw) : List (Str × Str) := (doneP ws ws.length).filter fun p => has (runW ws).hs p.1 && has (runW ws).hs p.2
theorem run_ok_len (ws : List Vw) : (runW ws).ok.length = ws.length := by
  have lo := (run_len ws ws.length (Nat.le_refl _)).2.2
  rw [List.take_of_length_le (Nat.le_refl _)] at lo
  exact lo
theorem done_next {ws : List Vw} {i : Nat} {v : Vw} {o : Bool} (h : ws[i]? = some v) (g : (runW ws).ok[i]? = some o) : doneP ws (i + 1) = doneP ws i ++ (doneF (v, o)).toList := by
  unfold doneP
  have e : (ws.zip (runW ws).ok)[i]? = some (v, o) := by rw [List.getElem?_zip_eq_some]; exact ⟨h, g⟩
  rw [List.take_add_one, e, List.filterMap_append]
  refine congrArg _ ?_
  show List.filterMap doneF [(v, o)] = _
  cases q : doneF (v, o) with
  | none => simp [q]
  | some p => simp [q]
theorem done_len (ws : List Vw) (i : Nat) : (doneP ws i).length ≤ i := by
  unfold doneP
  exact Nat.le_trans (List.length_filterMap_le _ _) (by rw [List.length_take]; omega)
theorem two_ahead {z a : Str} {b : Option Str} {lv : V} {r : List V} (p : PV z a b lv r) (e : z = "ahead") : ∃ b', b = some b' := by
  cases p with
  | part | join | ahead | card | visit => exact ⟨_, rfl⟩
  | house | home | mourn => exact absurd e (by decide +kernel)
theorem nk_say {H : Hp} {q : Addr} {a b : Str} (h : H q = some (.tup [.str a, .str b])) : Nk H (.ref q) (sayK (a, b)) := .tup h (.cons (.str a) (.cons (.str b) .nil))
theorem say_nk {H : Hp} {x : V} {p : Str × Str} (n : Nk H x (sayK p)) : ∃ q, x = .ref q ∧ H q = some (.tup [.str p.1, .str p.2]) := by
  unfold sayK at n
  cases n with
  | @tup q xs _ h hk =>
    cases hk with
    | cons n1 hk =>
      cases n1
      cases hk with
      | cons n2 hk =>
        cases n2
        cases hk
        exact ⟨q, rfl, h⟩
/-- the set behind some of the pairs -/
structure SM (H : Hp) (M : List Ent) (dn : List (Str × Str)) (f : Str × Str → Bool) (i : Nat) : Prop where
  nk : ∀ p ∈ M, Nk H (.ref p.1) p.2
  sy : ∀ k, k ∈ M.map (·.2) ↔ ∃ p ∈ dn.take i, f p = true ∧ k = sayK p
  nd : (M.map (·.2)).Nodup
  len : M.length ≤ i
theorem SM.at {H H' : Hp} {M : List Ent} {dn : List (Str × Str)} {f : Str × Str → Bool} {i : Nat} (h : SM H M dn f i) (t : Tups H H') : SM H' M dn f i := ⟨fun p hp => (h.nk p hp).at t, h.sy, h.nd, h.len⟩
theorem SM.zero {H : Hp} {dn : List (Str × Str)} {f : Str × Str → Bool} : SM H [] dn f 0 := ⟨(fun p hp => by cases hp), fun k => by simp, List.nodup_nil, Nat.le_refl _⟩
theorem SM.dp {H : Hp} {M : List Ent} {dn : List (Str × Str)} {f : Str × Str → Bool} {i : Nat} (h : SM H M dn f i) (p : Ent) (hp : p ∈ M) : p.2.depth ≤ 8 := by
  obtain ⟨q, _, _, e⟩ := (h.sy p.2).mp (List.mem_map_of_mem hp)
  rw [e]
  exact say_depth q
theorem SM.no {H : Hp} {M : List Ent} {dn : List (Str × Str)} {f : Str × Str → Bool} {i : Nat} {p : Str × Str} (h : SM H M dn f i) (hp : dn[i]? = some p) (nf : ¬ f p = true) : SM H M dn f (i + 1) := by
  refine ⟨h.nk, fun k => ?_, h.nd, Nat.le_succ_of_le h.len⟩
  rw [h.sy k, List.take_add_one, hp]
  constructor
  · rintro ⟨q, a, b⟩
    exact ⟨q, List.mem_append_left _ a, b⟩
  · rintro ⟨q, a, b, c⟩
    rcases List.mem_append.mp a with a | a
    · exact ⟨q, a, b, c⟩
    · have : q = p := List.mem_singleton.mp a
      rw [this] at b
      exact absurd b nf
theorem SM.next {H : Hp} {M M' : List Ent} {dn : List (Str × Str)} {f : Str × Str → Bool} {i : Nat} {p : Str × Str} {c : Addr} (h : SM H M dn f i) (hp : dn[i]? = some p) (yf : f p = true) (nk : Nk H (.ref c) (sayK p)) (c1 : sayK p ∈ M.map (·.2) → M' = M) (c2 : sayK p ∉ M.map (·.2) → M'.Perm ((c, sayK p) :: M)) : SM H M' dn f (i + 1) := by
  have step : ∀ k, (∃ q ∈ dn.take (i + 1), f q = true ∧ k = sayK q) ↔ k = sayK p ∨ k ∈ M.map (·.2) := fun k => by
    rw [h.sy k, List.take_add_one, hp]
    constructor
    · rintro ⟨q, a, b, e⟩
      rcases List.mem_append.mp a with a | a
      · exact .inr ⟨q, a, b, e⟩
      · have : q = p := List.mem_singleton.mp a
        exact .inl (by rw [e, this])
    · rintro (e | ⟨q, a, b, e⟩)
      · exact ⟨p, List.mem_append_right _ (.head _), yf, e⟩
      · exact ⟨q, List.mem_append_left _ a, b, e⟩
  by_cases m : sayK p ∈ M.map (·.2)
  · rw [c1 m]
    refine ⟨h.nk, fun k => ?_, h.nd, Nat.le_succ_of_le h.len⟩
    rw [step k]
    exact ⟨.inr, fun z => z.elim (fun e => by rw [e]; exact m) id⟩
  · have pm := c2 m
    refine ⟨fun q hq => ?_, fun k => ?_, (pm.map (·.2)).nodup_iff.mpr (List.nodup_cons.mpr ⟨m, h.nd⟩), by rw [pm.length_eq]; exact Nat.succ_le_succ h.len⟩
    · rcases List.mem_cons.mp (pm.mem_iff.mp hq) with e | e
      · rw [e]; exact nk
      · exact h.nk q e
    · rw [step k, (pm.map (·.2)).mem_iff, List.map_cons, List.mem_cons]
theorem fltD_len (d : Int) (xs : List V) (ks : List NestedKey) : (fltD d xs ks).length ≤ xs.length := by
  unfold fltD
  rw [List.length_map]
  exact Nat.le_trans (List.length_filter_le _ _) (by rw [List.length_zip]; omega)
def spSay (T : Tx K mg w) : Sp := fun vs H Q _ => ∃ (a : Addr) (d : Int) (xs : List V) (ks : List NestedKey) (ws : List Vw), vs = [.ref a, .int d] ∧ H a = some (.tup xs) ∧ PgsAt H xs ks ∧ xs.length ≤ 76 ∧ Tbs (tbs T) H ∧ Views H (fltD d xs ks) ws ∧
  ∀ r ys ls H', Gk (tbs T) H H' → H' r = some (.tup ys) → NkAll H' ys ls → Rs ls → (∀ k, k ∈ ls ↔ ∃ p ∈ saysOf ws, k = sayK p) → ls.length ≤ 76 → Q (.ref r) H'
theorem ok_say (T : Tx K mg w) (B : Tb T base) : FnOk P w K mg base CX0 7 T.f_sayings T.d_sayings ["book", "day"] (spSay T) := by
  have G_walk_houses : FnOk P w K mg base CX0 6 T.f_walk_houses T.d_walk_houses ["book", "day"] (spWalk T) := ok_walk T B
  have G_page_kind : FnOk P w K mg base CX0 1 T.f_page_kind T.d_page_kind ["page"] ((spAt 0)) := ok_page_kind T
  have G_names_of : FnOk P w K mg base CX0 3 T.f_names_of T.d_names_of ["page"] (spNms T) := ok_nms T B
  refine T.F_sayings.ok S_sayings (fun vs H Q E h => ?_) (fun cdv A outer s H vs Q E hr h => ?_)
  · obtain ⟨a, d, xs, ks, ws, rfl, _⟩ := h
    rfl
  · obtain ⟨a, d, xs, ks, ws, rfl, ha, pg, lx, tb, vw, q⟩ := h
    refine ⟨_, (pss_cons (ps_asg (pe_call G_walk_houses hr (by rfl) T.g_walk_houses T.F_walk_houses.kp T.b_walk_houses .nil pass0 (pa_cons (pv 0) (pa_cons (pv 1) pa_nil))) (pg_tup rfl (pgs_cons (pg_name (i := 2) S_sayings.nd rfl (.inr rfl)) (pgs_cons (pg_name (i := 3) S_sayings.nd rfl (.inl rfl)) (pgs_cons (pg_name (i := 4) S_sayings.nd rfl (.inl rfl)) pgs_nil)))))
      (pss_cons (ps_setLc (i := 5) (own := [("page", 6), ("done", 7)]) (g := gTup K 2 (gCons (gName 6) (gCons (gName 7) gNil))) (by rfl) S_sayings.nd rfl rfl (sw_true rfl rfl rfl (by decide +kernel)) (pi_list (pv 4)) (blkOk_by (own := [("page", 6), ("done", 7)]) (N := N_sayings) (sc := defScope s_sayings) (by decide +kernel)) (fun _ _ _ _ _ => (pg_tup rfl (pgs_cons (pg_name (i := 6) S_sayings.nd rfl (.inl rfl)) (pgs_cons (pg_name (i := 7) S_sayings.nd rfl (.inl rfl)) pgs_nil)))) (fun _ _ _ _ _ => (pts_one (PW.pt (pw_and (pt_val (pv 7)) (pw_and1 (pt_cmpR op_eq (pe_call G_page_kind (hr.mono (by decide)) (by rfl) T.g_page_kind T.F_page_kind.kp T.b_page_kind .nil pass0 (pa_cons (pv 6) pa_nil)) pe_str (nomark _))))))) (fun _ _ _ _ _ => (pe_call G_names_of (hr.mono (by decide)) (by rfl) T.g_names_of T.F_names_of.kp T.b_names_of .nil pass0 (pa_cons (pv 6) pa_nil))))
      (pss_one (ps_ret (pe_callTy call_tuple_of (by rfl) T.m_tuple (by decide +kernel) (pa_cons (pe_callB (cr_sortS (by rfl) (un64 hr)) (by rfl) T.m_sorted (by decide +kernel) (pa_cons (pe_scN (own := [("a", 8), ("b", 9)]) (g := gTup K 2 (gCons (gName 8) (gCons (gName 9) gNil))) (un64 hr) (by rfl) S_sayings.nd (pi_list (pv 5)) (blkOk_by (own := [("a", 8), ("b", 9)]) (N := N_sayings) (sc := defScope s_sayings) (by decide +kernel)) (fun _ _ _ _ _ => (pg_tup rfl (pgs_cons (pg_name (i := 8) S_sayings.nd rfl (.inl rfl)) (pgs_cons (pg_name (i := 9) S_sayings.nd rfl (.inl rfl)) pgs_nil)))) (fun _ _ _ _ _ => (pts_one (PW.pt (pw_and (pt_cmp (pc_din (hu_of hr) (pv 8) (pv 2))) (pw_and1 (pt_cmp (pc_din (hu_of hr) (pv 9) (pv 2)))))))) (fun _ _ _ _ _ => (pe_tup (pa_cons (pv 8) (pa_cons (pv 9) pa_nil))))) pa_nil)) pa_nil)))))), ?_⟩
    refine ⟨_, rfl, _, rfl, a, d, xs, ks, ws, rfl, ha, pg, by omega, tb, vw, fun r hm kn mk ms H1 g1 h1 hh hk hmk mks => ?_⟩
    refine ⟨r, _, rfl, .inl (.inl h1), rfl, _, _, rfl, _, _, rfl, _, _, rfl, rfl, ?_⟩
    have lf := fltD_len d xs ks
    have lw := vw.length
    have lo := run_ok_len ws
    have lm := mks.1
    refine ⟨_, rfl, mk, rfl, ⟨_, .inl (.inl hmk)⟩, fun D nD => ?_⟩
    refine lc_list (xs := ms) (fun i Hx => ∃ ys, Hx D = some (.lst ys) ∧ NkAll Hx ys ((doneP ws i).map sayK) ∧ Gk (tbs T) H1 Hx) ⟨[], upd_same, .nil, .new g1.2 nD⟩ (fun i Hx hi h => by obtain ⟨_, _, _, g⟩ := h; exact .inl (.inl (g.1 _ _ hmk (fun ps z => by cases z)))) ?_ ?_
    · rintro i m Hx hx ⟨ys, hD, nk, gx⟩
      obtain ⟨q2, x, o, rfl, e1, e2, hq⟩ := mks.2 i m hx
      obtain ⟨v, hv, va⟩ := vw.get e1
      obtain ⟨pa, rr, rfl, hpa, pv'⟩ := va.at (LT.Gk.tups (g1.trans gx))
      have en := done_next hv e2
      have li := (List.getElem?_eq_some_iff.mp hv).1
      have ly : ys.length ≤ i := by have := nk.length; rw [List.length_map] at this; have := done_len ws i; omega
      refine ⟨q2, [.ref pa, .bl o], rfl, .inl (.inl (gx.tup hq)), rfl, _, _, rfl, _, _, rfl, rfl, rfl, ?_⟩
      cases o with
      | false =>
        refine ⟨_, rfl, _, rfl, iteF ⟨ys, hD, ?_, gx⟩⟩
        rw [en]
        show NkAll Hx ys ((doneP ws i ++ []).map sayK)
        rw [List.append_nil]
        exact nk
      | true =>
        refine ⟨_, rfl, _, rfl, iteT ?_⟩
        refine ⟨_, rfl, pa, _, .str v.z, rfl, hpa, rfl, rfl, _, rfl, ite2 (fun e3 => ?_) (fun e3 => ?_)⟩
        · have e3 : v.z = "ahead" := V.str.inj (of_decide_eq_true e3)
          obtain ⟨b, hb⟩ := two_ahead pv' e3
          rw [hb] at pv'
          refine ⟨_, rfl, pa, v.z, v.a, some b, v.lv, .int v.d, rr, rfl, hpa, pv', gx.2, fun q3 H5 g5 h5 => ?_⟩
          have hD5 := g5.1 _ _ hD (fun ps z => by cases z)
          have tD := tups_lst (o := .lst (ys ++ [.ref q3])) hD5
          refine ⟨ys, hD5, small1000 (by omega), ys ++ [.ref q3], upd_same, ?_, gk_fresh nD (gx.trans g5) hD5 (fun ps z => by cases z)⟩
          have ed : doneF (v, true) = some (v.a, b) := by unfold doneF aheadP; rw [if_pos rfl, if_pos e3, hb]; rfl
          rw [en, ed, List.map_append]
          exact ((nk.at (LT.Gk.tups g5)).app (.cons (nk_say h5) .nil)).at tD
        · have e3 : ¬ v.z = "ahead" := fun z => e3 (decide_eq_true (by rw [z]))
          refine ⟨ys, hD, ?_, gx⟩
          have ed : doneF (v, true) = none := by unfold doneF aheadP; rw [if_pos rfl, if_neg e3]
          rw [en, ed]
          show NkAll Hx ys ((doneP ws i ++ []).map sayK)
          rw [List.append_nil]
          exact nk
    · rintro H2 ⟨ys, hD, nk, g2⟩
      rw [show ms.length = ws.length by omega] at nk
      have lD := done_len ws ws.length
      generalize hdn : doneP ws ws.length = dn at nk lD
      have ln : ys.length = dn.length := by have := nk.length; rw [List.length_map] at this; exact this
      refine ⟨_, rfl, D, rfl, ⟨_, .inl (.inl hD)⟩, fun S nS => ?_⟩
      have dS : D ≠ S := ne_of_none hD nS
      have hhm := g2.1 _ _ hh (fun ps z => by cases z)
      refine scN_it (walk_list (xs := ys)) (fun i Hx => ∃ M, Hx S = some (My.SetO w S M) ∧ Gk (tbs T) H2 Hx ∧ SM Hx M dn (fun p => has (runW ws).hs p.1 && has (runW ws).hs p.2) i) ⟨[], upd_same, .new g2.2 nS, .zero⟩ (fun i Hx hi h => by obtain ⟨_, _, g, _⟩ := h; exact .inl (.inl (g.1 _ _ hD (fun ps z => by cases z)))) ?_ ?_
      · rintro i x Hx Hy hi ⟨M, hS, gx, sm⟩ ⟨rfl, hx⟩
        obtain ⟨k, hk2, nx⟩ := nk.get hx
        obtain ⟨p, hp, rfl⟩ : ∃ p, dn[i]? = some p ∧ k = sayK p := by
          rw [List.getElem?_map] at hk2
          cases e : dn[i]? with
          | none => rw [e] at hk2; cases hk2
          | some y => rw [e] at hk2; exact ⟨y, rfl, (Option.some.inj hk2).symm⟩
        obtain ⟨y, rfl, hy⟩ := say_nk nx
        have hdx := gx.1 _ _ hhm (fun ps z => by cases z)
        refine ⟨y, [.str p.1, .str p.2], rfl, .inl (.inl (gx.tup hy)), rfl, _, _, rfl, _, _, rfl, rfl, rfl, ?_⟩
        refine ⟨_, rfl, _, rfl, hm, _, rfl, DGet.k (k := .inr p.1) hdx, _, rfl, ite2 (fun e => ?_) (fun e => ?_)⟩
        · refine ⟨_, rfl, _, rfl, hm, _, rfl, DGet.k (k := .inr p.2) hdx, _, rfl, ite2 (fun e2 => ?_) (fun e2 => ?_)⟩
          · have ff : (has (runW ws).hs p.1 && has (runW ws).hs p.2) = true := by
              rw [Bool.and_eq_true]
              exact ⟨e, e2⟩
            refine ⟨_, rfl, _, rfl, sz (by show 2 ≤ 1000; decide), fun c nc => ?_⟩
            have sc := same_upd (o := .tup [.str p.1, .str p.2]) nc
            have nkc : Nk (upd Hy c (.tup [.str p.1, .str p.2])) (.ref c) (sayK p) := nk_say upd_same
            have sm2 := sm.at (.same sc)
            refine ⟨c, sayK p, M, rfl, sc _ _ hS, fun z hz => ⟨sm2.nk z hz, sm2.dp z hz⟩, nkc, say_depth p, by have := sm.len; omega, fun M' c1 c2 => ?_⟩
            have hS2 := sc _ _ hS
            have gc := gx.trans (.of_same sc gx.2)
            have tt : Tups (upd Hy c (.tup [.str p.1, .str p.2])) (upd (upd Hy c (.tup [.str p.1, .str p.2])) S (My.SetO w S M')) := fun b zs e => by
              rw [upd_ne (fun z => by rw [z, hS2] at e; cases e)]
              exact e
            exact ⟨M', upd_same, gk_fresh nS gc hS2 (fun ps z => by cases z) (fun c q => set_no_code 0), (sm2.next hp ff nkc c1 c2).at tt⟩
          · refine ⟨M, hS, gx, sm.no hp ?_⟩
            rw [Bool.and_eq_true]
            exact fun z => e2 z.2
        · refine ⟨M, hS, gx, sm.no hp ?_⟩
          rw [Bool.and_eq_true]
          exact fun z => e z.1
      · rintro H3 ⟨M, hS, g3, sm⟩
        rw [ln] at sm
        have sy : ∀ p ∈ M, ∃ q, p.2 = sayK q := fun p hp => by
          obtain ⟨q, _, _, e⟩ := (sm.sy p.2).mp (List.mem_map_of_mem hp)
          exact ⟨q, e⟩
        refine ⟨S, M, rfl, hS, fun p hp => ⟨sm.nk p hp, sm.dp p hp⟩, say_sbl (fun k hk => by obtain ⟨p, hp, rfl⟩ := List.mem_map.mp hk; exact sy p hp), fun M' b pm nb => ?_⟩
        have mm : ∀ p ∈ M', p ∈ M := fun p hp => pm.mem_iff.mp hp
        have sb := fun o => same_upd (o := o) nb
        refine ⟨b, _, rfl, .inl ⟨.inl (.inl upd_same), fun r nr => ?_⟩⟩
        have sA := (sb (.lst ((srt (M'.map fun q => V.ref q.1) (M'.map (·.2))).map Prod.fst))).trans (same_upd (o := .tup ((srt (M'.map fun q => V.ref q.1) (M'.map (·.2))).map Prod.fst)) nr)
        obtain ⟨ls, k1, k2, k3, k4⟩ := srt_ok (M := M') (fun p hp => (sm.nk p (mm p hp)).at (.same sA)) (fun p hp => sy p (mm p hp)) ((pm.map (·.2)).nodup_iff.mpr sm.nd)
        have g4 := (g1.trans g2).trans g3
        refine q r _ ls _ (g4.trans (.of_same sA g4.2)) upd_same k1 k2 (fun k => ?_) (by rw [k4, pm.length_eq]; have := sm.len; omega)
        rw [k3 k, (pm.map (·.2)).mem_iff, sm.sy k, List.take_of_length_le (Nat.le_refl _)]
        unfold saysOf
        rw [hdn]
        constructor
        · rintro ⟨p, h1, h2, h3⟩
          exact ⟨p, List.mem_filter.mpr ⟨h1, h2⟩, h3⟩
        · rintro ⟨p, h1, h3⟩
          obtain ⟨h1, h2⟩ := List.mem_filter.mp h1
          exact ⟨p, h1, h2, h3⟩
end
end L52

set_option Elab.async false
set_option linter.all false
set_option maxRecDepth 100000
set_option maxHeartbeats 4000000
/-! Sets of texts: set(xs), sorted(set). -/
namespace My
open PySem PySem.Spec PyProof.Rows L2 PySem.SeqAt PySem.W
abbrev SKd (P : Program) (w : World) : PySem.KeyKind P w Str := PySem.strKind P w
def GoodX (w : World) (e : Int × Value) (x : Str) : Prop := (∃ tk, e.2 = Value.str x tk) ∧ e.1 = hashStr w x
/-- entries and their texts -/
inductive Texts (w : World) : List (Int × Value) → List Str → Prop
  | nil : Texts w [] []
  | cons {e : Int × Value} {x : Str} {es : List (Int × Value)} {L : List Str} : GoodX w e x → Texts w es L → Texts w (e :: es) (x :: L)
theorem Texts.perm {w : World} {es es' : List (Int × Value)} (p : es'.Perm es) : ∀ {L : List Str}, Texts w es L → ∃ L', Texts w es' L' ∧ L'.Perm L := by
  induction p with
  | nil => intro L h; exact ⟨L, h, .refl _⟩
  | cons x p ih =>
    intro L h
    cases h with
    | cons g t =>
      obtain ⟨L', h', p'⟩ := ih t
      exact ⟨_ :: L', .cons g h', p'.cons _⟩
  | swap x y l =>
    intro L h
    cases h with
    | cons g t =>
      cases t with
      | cons g2 t => exact ⟨_, .cons g2 (.cons g t), .swap _ _ _⟩
  | trans p q ih1 ih2 =>
    intro L h
    obtain ⟨L1, h1, p1⟩ := ih2 h
    obtain ⟨L2, h2, p2⟩ := ih1 h1
    exact ⟨L2, h2, p2.trans p1⟩
theorem Texts.length {w : World} : ∀ {es : List (Int × Value)} {L : List Str}, Texts w es L → es.length = L.length
  | _, _, .nil => rfl
  | _, _, .cons _ t => congrArg (· + 1) t.length
theorem Texts.elems {P : Program} {w : World} : ∀ {es : List (Int × Value)} {L : List Str}, Texts w es L → ElemsOf (SKd P w) es
  | _, _, .nil => fun e he => by cases he
  | _, _, .cons (e := e0) (x := x) ⟨⟨tk, h1⟩, h2⟩ t => fun e he => by
    rcases List.mem_cons.mp he with z | z
    · rw [z]
      exact ⟨⟨x, by rw [h1]; exact strKind_is P w x tk, h2⟩, by rw [h1]; rfl⟩
    · exact t.elems e z
theorem Texts.has {P : Program} {w : World} (k : Str) : ∀ {es : List (Int × Value)} {L : List Str}, Texts w es L → (k ∈ L ↔ ∃ e ∈ es, (SKd P w).is k e.2 = true)
  | _, _, .nil => ⟨(fun h => by cases h), fun ⟨e, h, _⟩ => by cases h⟩
  | _, _, .cons (e := e0) (x := x) ⟨⟨tk, h1⟩, h2⟩ t => by
    have ih := t.has (P := P) k
    constructor
    · intro h
      rcases List.mem_cons.mp h with z | z
      · exact ⟨e0, .head _, by rw [h1, z]; exact strKind_is P w x tk⟩
      · obtain ⟨e, he, q⟩ := ih.mp z
        exact ⟨e, .tail _ he, q⟩
    · rintro ⟨e, he, q⟩
      rcases List.mem_cons.mp he with z | z
      · rw [z, h1] at q
        rw [(SKd P w).inj _ _ _ q (strKind_is P w x tk)]
        exact .head _
      · exact .tail _ (ih.mpr ⟨e, z, q⟩)
/-- the set of texts at a -/
structure SetX (w : World) (h : Heap) (a : Addr) (L : List Str) : Prop where
  ex : ∃ o es ep t, h.get? a = some o ∧ o.ExactSet ∧ o.data = .set es ep t ∧ Texts w es.toList L ∧ t.fits es.size = true ∧ Ris t.place.toList ∧ (w.params.followText "set-order" = true ∨ t.led = true)
  nd : L.Nodup
  few : L.length < scanBound
theorem SetX.at {w : World} {h h' : Heap} {a : Addr} {L : List Str} (Z : SetX w h a L) (k : ∀ o, h.get? a = some o → h'.get? a = some o) : SetX w h' a L := ⟨let ⟨o, es, ep, t, g, r⟩ := Z.ex; ⟨o, es, ep, t, k o g, r⟩, Z.nd, Z.few⟩
section
variable {P : Program} {w : World} {A : Around} {E : Value → Shared → Prop} {s : Shared} {a : Addr} {L : List Str}
/-- the new entry is stored, the table laid anew where it is too full -/
theorem tailX {g : Bool → Sem Unit} (hg : ∀ (b : Bool) (s₁ : Shared) (Q' : Unit → Shared → Prop), Q' () s₁ → wpAny (model P w) A (g b) Q' E s₁) {o : Obj} {es : Array (Int × Value)} {ep : Nat} {t : SetTable} (g1 : s.heap.get? a = some o) (g2 : o.ExactSet) (g3 : o.data = .set es ep t)
    {es1 : Array (Int × Value)} {t2 : SetTable} {L1 : List Str} (tx : Texts w es1.toList L1) (nd : L1.Nodup) (few : L1.length < scanBound) (ft : t2.fits es1.size = true) (ri : Ris t2.place.toList) (ld : w.params.followText "set-order" = true ∨ t2.led = true) {dm : Bool} {R : Option Bool → Shared → Prop}
    (q : ∀ h' L', Heap.SameBut a s.heap h' → SetX w h' a L' → L'.Perm L1 → R (some true) { s with heap := h' }) :
    wpAny (model P w) A (do
        storeSet a es1 t2
        if (!dm && t2.tooFull) = true then do
            g (relayAll t2 es1 (SetTable.grown es1.size)).2.2
            storeSet a (relayAll t2 es1 (SetTable.grown es1.size)).1 (relayAll t2 es1 (SetTable.grown es1.size)).2.1
            pure (some true)
          else pure (some true)) R E s := by
  have l1 : es1.size < scanBound := by rw [← Array.length_toList, tx.length]; exact few
  refine wpAny_bind (wpAny_storeSet_of g1 g3 ?_ (fits_of_scanBound l1))
  have k1 := store_at (es' := es1) (t' := t2) g1 g3
  have sb1 := Heap.SameBut.update s.heap a (Obj.putSet es1 t2)
  by_cases c : (!dm && t2.tooFull) = true
  · refine wp_if_pos c ?_
    have pm := relayAll_perm t2 es1 (SetTable.grown es1.size)
    have ft3 := relayAll_fits t2 es1 (SetTable.grown es1.size)
    have ri3 := relayAll_ris t2 es1 (SetTable.grown es1.size)
    have ld3 := relayAll_led t2 es1 (SetTable.grown es1.size)
    generalize relayAll t2 es1 (SetTable.grown es1.size) = Y at pm ft3 ri3 ld3 ⊢
    obtain ⟨es2, t3, gave⟩ := Y
    obtain ⟨L2, tx2, p2⟩ := tx.perm pm
    have l2 : es2.size < scanBound := by rw [← Array.length_toList, tx2.length, p2.length_eq]; exact few
    refine wpAny_bind (hg _ _ _ (wpAny_bind (wpAny_storeSet_of k1 rfl ?_ (fits_of_scanBound l2))))
    refine wpAny_pure (q _ L2 (sb1.trans (Heap.SameBut.update _ a _)) ⟨⟨_, es2, _, t3, store_at (es' := es2) (t' := t3) k1 rfl, g2, rfl, tx2, ft3, ri3, ld.imp id fun z => by rw [ld3]; exact z⟩, p2.nodup_iff.mpr nd, by rw [p2.length_eq]; exact few⟩ p2)
  · exact wp_if_neg c (wpAny_pure (q _ L1 sb1 ⟨⟨_, es1, _, t2, k1, g2, rfl, tx, ft, ri, ld⟩, nd, few⟩ (.refl _)))
theorem addX (Z : SetX w s.heap a L) {x : Str} {tk : Tok} (room : L.length + 1 < scanBound) {Q : Bool → Shared → Prop} (q : ∀ b h' L', Heap.SameBut a s.heap h' → SetX w h' a L' → (x ∈ L → L' = L) → (x ∉ L → L'.Perm (x :: L)) → Q b { s with heap := h' }) :
    wpAny (model P w) A (setAddHashed a (.str x tk) ((SKd P w).hash x)) Q E s := by
  obtain ⟨o, es, ep, t, g1, g2, g3, tx, ft, ri, ld⟩ := Z.ex
  have el : ElemsOf (SKd P w) es.toList := tx.elems
  have lb : es.size < scanBound := by rw [← Array.length_toList, tx.length]; exact Z.few
  unfold setAddHashed setAddHashedIn
  refine wpAny_holding (wpAny_bind (wpAny_setState_of g1 g3 ft ?_))
  dsimp only
  rw [byScan_of (rfl : (Value.str x tk).scannable = true) lb el]
  simp only [↓reduceIte]
  unfold setAddByScan
  refine wpAny_bind (wpAny_bind (wpAny_rule (wpAny_bind (wpAny_setScan_of (strKind_is P w x tk) g1 g3 ft el ?_))))
  cases fi : List.findIdx? (fun e => (SKd P w).is x e.2) es.toList with
  | some j =>
    obtain ⟨lj, pj, _⟩ := List.findIdx?_eq_some_iff_getElem.mp fi
    have xin : x ∈ L := (tx.has (P := P) x).mpr ⟨_, List.getElem_mem lj, pj⟩
    exact wpAny_pure (wpAny_pure (q _ s.heap L (Heap.SameBut.refl a s.heap) Z (fun _ => rfl) fun z => absurd xin z))
  | none =>
    have xout : x ∉ L := fun z => by
      obtain ⟨e, he, p⟩ := (tx.has (P := P) x).mp z
      rw [List.findIdx?_eq_none_iff.mp fi e he] at p
      cases p
    have pm := layNew_perm t es ((SKd P w).hash x) (.str x tk)
    have ft1 := layNew_fits t es ((SKd P w).hash x) (.str x tk)
    have ri1 := layNew_ris t es ((SKd P w).hash x) (.str x tk) ri
    have ld1 := layNew_led t es ((SKd P w).hash x) (.str x tk)
    dsimp only
    generalize layNew t es ((SKd P w).hash x) (.str x tk) = Y at pm ft1 ri1 ld1 ⊢
    obtain ⟨es1, t1, dm, gave⟩ := Y
    dsimp only at pm ft1 ri1 ld1 ⊢
    rw [Array.toList_push] at pm
    obtain ⟨L1, tx1, p1⟩ := Texts.perm (pm.trans (List.perm_append_singleton _ _)) (Texts.cons (x := x) ⟨⟨tk, rfl⟩, rfl⟩ tx)
    have nd1 : L1.Nodup := p1.nodup_iff.mpr (List.nodup_cons.mpr ⟨xout, Z.nd⟩)
    have few1 : L1.length < scanBound := by rw [p1.length_eq]; exact room
    have led1 : w.params.followText "set-order" = true ∨ t1.led = true := ld.imp id fun z => by rw [ld1]; exact z
    have gw : ∀ (b : Bool) (s₁ : Shared) (Q' : Unit → Shared → Prop), Q' () s₁ → wpAny (model P w) A (match b with | true => rule "set.scan.the-table-gave-way" | false => pure ()) Q' E s₁ := fun b s₁ Q' q => by cases b <;> first | exact wpAny_pure q | exact wpAny_rule q
    have fin : ∀ h' L', Heap.SameBut a s.heap h' → SetX w h' a L' → L'.Perm L1 → Q true { s with heap := h' } := fun h' L' sb Z' p => q true h' L' sb Z' (fun z => absurd z xout) fun _ => p.trans p1
    refine wpAny_bind (gw _ _ _ ?_)
    by_cases pl : t1.plain = true
    · refine wp_if_pos pl (wpAny_bind ?_)
      rw [hashByValue_scannable 8 (rfl : (Value.str x tk).scannable = true)]
      refine wpAny_pure ?_
      refine tailX (fun b s₁ Q' q => gw b s₁ Q' q) g1 g2 g3 tx1 nd1 few1 ?_ ?_ ?_ fun h' L' sb Z' p => wpAny_pure (fin h' L' sb Z' p)
      · first | exact ft1 | (split <;> first | exact ft1 | exact SetTable.fits_plain_off ft1)
      · first | exact ri1 | (split <;> exact ri1)
      · first | exact led1 | (split <;> exact led1)
    · refine wp_if_neg pl (wpAny_bind (wpAny_pure ?_))
      simp only [↓reduceIte]
      exact tailX (fun b s₁ Q' q => gw b s₁ Q' q) g1 g2 g3 tx1 nd1 few1 ft1 ri1 led1 fun h' L' sb Z' p => wpAny_pure (fin h' L' sb Z' p)
theorem addsX {h0 : Heap} {S : Addr} {wr : List Addr} {xs : List Str} {n : Nat} {Pv : Nat → Value → Prop} (hn : n = xs.length) (few : xs.length + 1 < scanBound) (pv : ∀ i v, Pv i v → ∃ x tk, xs[i]? = some x ∧ v = .str x tk) (nS : h0.get? S = none) (nw : ∀ b ∈ wr, h0.get? b = none) (Sw : S ∉ wr) :
    Adds P w A S wr n Pv (fun i h => (∃ L, SetX w h S L ∧ (∀ x, x ∈ L ↔ x ∈ xs.take i) ∧ L.length ≤ i) ∧ ∀ b o, h0.get? b = some o → h.get? b = some o) where
  stay := fun i h h' ⟨⟨L, Z, g⟩, kp⟩ st => ⟨⟨L, Z.at fun o e => st _ _ Sw e, g⟩, fun b o e => st b o (fun z => by rw [nw b z] at e; cases e) (kp b o e)⟩
  add := fun i v s Q E lt pvi ⟨⟨L, Z, g, ll⟩, kp⟩ q => by
    obtain ⟨x, tk, ex, rfl⟩ := pv i v pvi
    unfold setAdd
    refine wpAny_holding (wpAny_bind ((SKd P w).pyHash (strKind_is P w x tk) ?_))
    refine addX (s := { s with toks := s.toks + 1 }) Z (by omega) fun b h' L' sb Z' c1 c2 => q b h' _ ⟨⟨L', Z', fun y => ?_, ?_⟩, fun c o e => ?_⟩ (Nat.le_add_right _ _) sb
    · rw [List.take_add_one, ex]
      show _ ↔ y ∈ xs.take i ++ [x]
      rw [List.mem_append, List.mem_singleton, ← g y]
      by_cases c : x ∈ L
      · rw [c1 c]
        exact ⟨.inl, fun z => z.elim id fun e => by rw [e]; exact c⟩
      · rw [(c2 c).mem_iff, List.mem_cons]
        exact Or.comm
    · by_cases c : x ∈ L
      · rw [c1 c]; omega
      · rw [(c2 c).length_eq]; exact Nat.succ_le_succ ll
    · exact (sb.2 c (fun z => by rw [z, nS] at e; cases e)).trans (kp c o e)
end
theorem fresh_setX {w : World} {h : Heap} {a : Addr} (g : h.get? a = some (freshSet w)) : SetX w h a [] where
  ex := ⟨_, #[], 0, _, g, ⟨rfl, rfl, rfl⟩, rfl, .nil, rfl, List.Pairwise.nil, by
    cases e : w.params.followText "set-order"
    · exact .inr rfl
    · exact .inl rfl⟩
  nd := List.nodup_nil
  few := by show 0 < scanBound; unfold scanBound; decide
def SetXO (w : World) (a : Addr) (L : List Str) : HO := .ext fun h => SetX w h a L
theorem setXO_new {P : Program} {w : World} {H : Hp} {h : Heap} {a : Addr} {L : List Str} (Z : SetX w h a L) : ObjOk P w H h a (SetXO w a L) := by
  obtain ⟨o, es, ep, t, g, _⟩ := Z.ex
  exact ⟨Z, ⟨o, g⟩, fun h1 h2 p k => SetX.at (p : SetX w h1 a L) fun o e => k o e⟩
section
variable {X : Cx}
/-- set(xs), xs a list of texts -/
def rSetX (K : PySem.W.Frag) (w : World) : List V → Hp → VK → Prop := fun xs H Q => ∃ (l : Addr) (zs : List Str), xs = [V.ref l] ∧ SqL K H l (zs.map V.str) ∧ zs.length ≤ 1000 ∧ ∀ a L, H a = none → (∀ x, x ∈ L ↔ x ∈ zs) → L.Nodup → Q (.ref a) (upd H a (SetXO w a L))
theorem cr_setX (hc : X.calm = true) : CallR X (.type "set") (rSetX X.K X.w) := by
  intro pins s σ H xs us Q I r h
  obtain ⟨l, zs, rfl, hl, few, q⟩ := h
  rw [Vals.ref1 r]
  obtain ⟨its, rv, pl, hz⟩ := I.list hl
  have li : its.length = zs.length := by rw [← rv.length, List.length_map]
  have non : ∀ b, s.heap.objs.size ≤ b → s.heap.get? b = none := fun b lb => by
    cases e : s.heap.get? b with
    | none => rfl
    | some o => exact absurd (Nat.lt_of_lt_of_le (Heap.lt_size e) lb) (Nat.lt_irrefl _)
  refine callG (P := X.prog) (w := X.w) (items := its.toArray) (I.ok.hd hc) pl.isList (addsX (h0 := s.heap) (xs := zs) (by rw [List.size_toArray, li]) (by unfold scanBound; omega) (fun i v e => ?_) (non _ (Nat.le_refl _)) (fun b hb => ?_) ?_)
    (fun h g kp => ⟨⟨[], fresh_setX g, (fun x => by rw [List.take_zero]), Nat.le_refl _⟩, kp⟩) fun h' tk t1 kp => ?_
  · rw [List.getElem?_toArray] at e
    have il := (List.getElem?_eq_some_iff.mp e).1
    obtain ⟨v2, hv2, rx⟩ := rv.get (i := i) (x := .str zs[i]) (by rw [List.getElem?_map, List.getElem?_eq_getElem (by omega)]; rfl)
    rw [e] at hv2
    cases hv2
    obtain ⟨tk, rfl⟩ := rx
    exact ⟨_, tk, List.getElem?_eq_getElem (by omega), rfl⟩
  · rw [List.mem_singleton.mp hb]; exact non _ (Nat.le_succ _)
  · exact fun z => Nat.ne_of_lt (Nat.lt_succ_self _) (List.mem_singleton.mp z)
  · obtain ⟨⟨L, Z, g, _⟩, _⟩ := t1
    rw [List.size_toArray, li, List.take_length] at g
    exact ⟨.ref s.heap.objs.size, upd H s.heap.objs.size (SetXO X.w s.heap.objs.size L), I.laid (t' := tk) kp (Nat.le_refl _) (setXO_new Z), rfl, q _ L (I.hok.fresh (Nat.le_refl _)) g Z.nd⟩
end
end My

set_option Elab.async false
set_option linter.all false
set_option maxRecDepth 100000
set_option maxHeartbeats 4000000
namespace My
open PySem PySem.Spec PyProof.Rows L2 PySem.SeqAt PySem.W
/-- texts, sorted -/
def srtX (L : List Str) : List Str := L.mergeSort (fun a b => decide (a.cps.toList ≤ b.cps.toList))
theorem srtX_perm (L : List Str) : (srtX L).Perm L := List.mergeSort_perm _ _
theorem srtX_pw (L : List Str) : (srtX L).Pairwise (fun a b => a.cps.toList ≤ b.cps.toList) := by
  have := List.pairwise_mergeSort (le := fun a b : Str => decide (a.cps.toList ≤ b.cps.toList)) (fun a b c h1 h2 => decide_eq_true (List.le_trans (of_decide_eq_true h1) (of_decide_eq_true h2))) (fun a b => by
    rcases List.le_total a.cps.toList b.cps.toList with h | h
    · rw [decide_eq_true h]; rfl
    · rw [decide_eq_true h, Bool.or_true]) L
  exact this.imp fun h => of_decide_eq_true h
theorem str_vals : ∀ {L : List Str} {vs : List Value}, EachIs (fun v x => ∃ tk, v = Value.str x tk) vs L → Vals (L.map V.str) vs
  | _, _, .nil => .nil
  | _, _, .cons r t => .cons r (str_vals t)
section
variable {X : Cx} {pins : List (Addr × Obj)} {σ : L2.St} {H : Hp} {s : Shared} {E : Value → Shared → Prop}
theorem sort_tailX {L : List Str} {vs : List Value} {Q : Value → Shared → Prop} (I : Inv X pins σ H s) (un : X.A.units + 60 < cLine) (rv : EachIs (fun v x => ∃ tk, v = Value.str x tk) vs L) (hz : vs.length ≤ sizeLine) (p : Addr) (ep : p = s.heap.objs.size)
    (q : ∀ s', Inv X pins σ (upd H p (.lst ((srtX L).map V.str))) s' → Q (.ref p) s') :
    wpAny (model X.prog X.w) X.A.in1 (call (.builtin "list.sort") [.ref p]) (fun _ s' => Q (.ref p) s') E { s with heap := s.heap.push (seqObj "list" vs.toArray 0) } := by
  subst ep
  have ho : (s.heap.push (seqObj "list" vs.toArray 0)).get? s.heap.objs.size = some (seqObj "list" vs.toArray 0) := Heap.get?_push_size _ rfl
  have up : ∀ b o, s.heap.get? b = some o → (s.heap.push (seqObj "list" vs.toArray 0)).get? b = some o := fun b o e => Heap.get?_push_of_some _ e
  have al : AllAlike (L.map PyData.str) := fun d hd d' hd' => by
    obtain ⟨x, _, rfl⟩ := List.mem_map.mp hd
    obtain ⟨y, _, rfl⟩ := List.mem_map.mp hd'
    rfl
  have er : EachIs (fun v (b : Str) => ∃ as, Reads (sortingHeap (s.heap.push (seqObj "list" vs.toArray 0)) s.heap.objs.size vs) v (.str b) as) vs L := rv.mono fun v x ⟨tk, e⟩ => by rw [e]; exact ⟨_, Reads.str x tk⟩
  have S : SortsAt X.prog X.w X.A.in1.in1 { s with heap := sortingHeap (s.heap.push (seqObj "list" vs.toArray 0)) s.heap.objs.size vs } (dataKind (sortingHeap (s.heap.push (seqObj "list" vs.toArray 0)) s.heap.objs.size vs) (L.map PyData.str)) vs :=
    SortsAt.data (s := { s with heap := sortingHeap (s.heap.push (seqObj "list" vs.toArray 0)) s.heap.objs.size vs }) (each_map (R := fun v d => ∃ as, Reads (sortingHeap (s.heap.push (seqObj "list" vs.toArray 0)) s.heap.objs.size vs) v d as) PyData.str er) al (.inr fun d hd => by
      obtain ⟨x, _, rfl⟩ := List.mem_map.mp hd
      exact ⟨(fun z => by cases z), fun xs z => by cases z⟩) fun d hd => by
      obtain ⟨x, _, rfl⟩ := List.mem_map.mp hd
      rw [PyData.depth]
      show X.A.units + 1 + 1 + 0 < cLine
      omega
  refine wpAny_call_entry slot_list_sort ⟨_, ho, rfl⟩ entry_list_sort (list_sort_vals (s := { s with heap := s.heap.push (seqObj "list" vs.toArray 0) }) ho S hz ⟨_, rfl, ?_⟩) (args_list_sort _)
  have out := sortVals_data (h' := sortingHeap (s.heap.push (seqObj "list" vs.toArray 0)) s.heap.objs.size vs) (enc := PyData.str) false rv er al
  rw [show dataLe false (PyData.str : Str → PyData) = fun a b => decide (a.cps.toList ≤ b.cps.toList) from dataLe_str (fun b : Str => b)] at out
  have rel : Vals ((srtX L).map V.str) (sortVals (dataKind (sortingHeap (s.heap.push (seqObj "list" vs.toArray 0)) s.heap.objs.size vs) (L.map PyData.str)) false vs vs) := str_vals out
  generalize sortVals (dataKind (sortingHeap (s.heap.push (seqObj "list" vs.toArray 0)) s.heap.objs.size vs) (L.map PyData.str)) false vs vs = os at rel ⊢
  have lo : ((srtX L).map V.str).length ≤ sizeLine := by
    rw [List.length_map, (srtX_perm L).length_eq, ← rv.length]
    exact hz
  obtain ⟨c, gc⟩ := sortedHeap_at (vs := vs) (out := os.toArray) ho
  refine q _ (I.laid (t' := s.toks) (fun b o e => ?_) (Nat.le_refl _) ⟨lo, os, c, rel, gc⟩)
  have lt := Heap.lt_size e
  rw [sortedHeap_old (Nat.ne_of_lt lt) (by rw [size_push']; exact Nat.lt_succ_of_lt lt)]
  exact up b o e
theorem Texts.each {w : World} : ∀ {es : List (Int × Value)} {L : List Str}, Texts w es L → EachIs (fun v x => ∃ tk, v = Value.str x tk) (es.map (·.2)) L
  | _, _, .nil => .nil
  | _, _, .cons g t => .cons g.1 t.each
theorem each_perm {α : Type} {R : Value → α → Prop} {vs vs' : List Value} (p : vs'.Perm vs) : ∀ {L : List α}, EachIs R vs L → ∃ L', EachIs R vs' L' ∧ L'.Perm L := by
  induction p with
  | nil => intro L h; exact ⟨L, h, .refl _⟩
  | cons x p ih =>
    intro L h
    cases h with
    | cons g t =>
      obtain ⟨L', h', p'⟩ := ih t
      exact ⟨_ :: L', .cons g h', p'.cons _⟩
  | swap x y l =>
    intro L h
    cases h with
    | cons g t =>
      cases t with
      | cons g2 t => exact ⟨_, .cons g2 (.cons g t), .swap _ _ _⟩
  | trans p q ih1 ih2 =>
    intro L h
    obtain ⟨L1, h1, p1⟩ := ih2 h
    obtain ⟨L2, h2, p2⟩ := ih1 h1
    exact ⟨L2, h2, p2.trans p1⟩
/-- sorted(set of texts) -/
def rSortX (w : World) : List V → Hp → VK → Prop := fun vs H Q => ∃ (a : Addr) (L : List Str), vs = [V.ref a] ∧ H a = some (SetXO w a L) ∧ L.length ≤ 1000 ∧ ∀ (ys : List Str) (p : Addr), ys.Perm L → ys.Nodup → ys.Pairwise (fun a b => a.cps.toList ≤ b.cps.toList) → H p = none → Q (.ref p) (upd H p (.lst (ys.map V.str)))
theorem cr_sortX (hc : X.calm = true) (hu : X.A.units + 64 < cLine) : CallR X (.builtin "sorted") (rSortX X.w) := by
  intro pins s σ H vs us Q I r h
  obtain ⟨a, L, rfl, ha, few, q⟩ := h
  rw [Vals.ref1 r]
  have Z : SetX X.w s.heap a L := (I.hok a _ ha).1
  obtain ⟨o, es, ep, t, g1, g2, g3, tx, ft, ri, ld⟩ := Z.ex
  refine Calls.call_function_entry kind_sorted plain_sorted entry_sorted (args_sorted1 _) ?_
  unfold Builtin.«sorted»
  refine wpAny_bind (m := checkCount "sorted" 1 1 _) (wpAny_pure (wpAny_bind (collect_set (A := X.A.in1) (I.ok.hd hc) ⟨o, g1, g2.1, g3⟩ ft (by rw [← Array.length_toList, tx.length]; exact Z.few) ri ld fun s1 vs k1 hz e1 e2 pm => ?_)))
  obtain ⟨L', ev, pL⟩ := each_perm pm tx.each
  have I1 : Inv X pins σ H s1 := I.call' (ch := []) e2 (Un.kept k1) (I.hok.kept k1) (by rw [e1]; exact I.bare) (fun _ z => nomatch z)
  have fresh := I1.hok.fresh (Nat.le_refl _)
  have lv : vs.length ≤ sizeLine := by rw [ev.length, pL.length_eq, sizeLine_eq]; omega
  refine wpAny_bind (wpAny_newList ?_ lv)
  refine wpAny_bind (wpAny_holding (sort_tailX (Q := fun v s' => wpAny (model X.prog X.w) X.A.in1 (ret v) _ _ s') I1 (by omega) ev lv _ rfl fun s' J => wpAny_pure ⟨_, rfl, .ref _, _, J, rfl, q (srtX L') _ ((srtX_perm L').trans pL) (((srtX_perm L').trans pL).nodup_iff.mpr Z.nd) (srtX_pw L') fresh⟩))
end
end My

set_option Elab.async false
set_option linter.all false
set_option maxRecDepth 100000
set_option maxHeartbeats 2000000
/-! sorted(xs), xs a list of texts, any number of them. -/
namespace My
open PySem PySem.Spec PyProof.Rows L2 PySem.SeqAt PySem.W
theorem vals_str : ∀ {L : List Str} {vs : List Value}, Vals (L.map V.str) vs → EachIs (fun v x => ∃ tk, v = Value.str x tk) vs L
  | [], _, .nil => .nil
  | _ :: _, _, .cons r t => .cons r (vals_str t)
section
variable {X : Cx}
def rSortXL (K : PySem.W.Frag) : List V → Hp → VK → Prop := fun vs H Q => ∃ (l : Addr) (L : List Str), vs = [V.ref l] ∧ SqL K H l (L.map V.str) ∧ L.length ≤ 1000 ∧ ∀ p, H p = none → Q (.ref p) (upd H p (.lst ((srtX L).map V.str)))
theorem cr_sortXL (hu : X.A.units + 64 < cLine) : CallR X (.builtin "sorted") (rSortXL X.K) := by
  intro pins s σ H vs us Q I r h
  obtain ⟨l, L, rfl, hl, few, q⟩ := h
  rw [Vals.ref1 r]
  obtain ⟨its, rv, pl, hz⟩ := I.list hl
  have lv : its.length ≤ sizeLine := by rw [← rv.length, List.length_map, sizeLine_eq]; omega
  refine Calls.call_function_entry kind_sorted plain_sorted entry_sorted (args_sorted1 _) ?_
  unfold Builtin.«sorted»
  refine wpAny_bind (m := checkCount "sorted" 1 1 _) (wpAny_pure (wpAny_bind (collect_list pl.isList ?_ lv)))
  have k1 : ∀ b o, s.heap.get? b = some o → ((s.heap.push (seqObj "list" #[] 0)).update s.heap.objs.size (Obj.mapSeq (· ++ its.toArray))).get? b = some o := fun b o e => by
    have lt := Heap.lt_size e
    rw [Heap.get?_update_ne _ _ _ _ (Nat.ne_of_lt lt)]
    exact Heap.get?_push_of_some _ e
  have I1 : Inv X pins σ H { s with heap := (s.heap.push (seqObj "list" #[] 0)).update s.heap.objs.size (Obj.mapSeq (· ++ its.toArray)), toks := s.toks } := I.kept k1
  have fresh := I1.hok.fresh (Nat.le_refl _)
  refine wpAny_bind (wpAny_newList ?_ lv)
  refine wpAny_bind (wpAny_holding (sort_tailX (Q := fun v s' => wpAny (model X.prog X.w) X.A.in1 (ret v) _ _ s') I1 (by omega) (vals_str rv) lv _ rfl fun s' J => wpAny_pure ⟨_, rfl, .ref _, _, J, rfl, q _ fresh⟩))
end
end My

set_option Elab.async false
set_option linter.all false
set_option maxRecDepth 100000
set_option maxHeartbeats 2000000
namespace L52
open PySem PySem.Spec PyProof.Rows L2 LT
open My hiding Tbs Gk Tk
section
variable {P : Program} {w : World} {K : PySem.W.Frag} {mg : Str → Option Value} {base : Heap}
/-! ### the law's own walk -/
def keysOf (hs : List (Key × V)) : List Key := hs.map (·.1)
theorem keys_put (hs : List (Key × V)) (k : Key) (v : V) : (k ∈ keysOf hs ∧ keysOf (putK hs k v) = keysOf hs) ∨ (k ∉ keysOf hs ∧ keysOf (putK hs k v) = keysOf hs ++ [k]) := by
  unfold keysOf putK
  by_cases c : k ∈ hs.map (·.1)
  · refine .inl ⟨c, ?_⟩
    obtain ⟨p, hp, e⟩ := List.mem_map.mp c
    rw [if_pos (List.any_eq_true.mpr ⟨p, hp, decide_eq_true e⟩), List.map_map]
    refine List.map_congr_left fun q _ => ?_
    show (if q.1 = k then (q.1, v) else q).1 = q.1
    split <;> rfl
  · refine .inr ⟨c, ?_⟩
    rw [if_neg, List.map_append]
    · rfl
    · intro z
      obtain ⟨p, hp, e⟩ := List.any_eq_true.mp z
      exact c (List.mem_map.mpr ⟨p, hp, of_decide_eq_true e⟩)
theorem keys_drop (hs : List (Key × V)) (k : Key) : keysOf (dropK hs k) = (keysOf hs).filter (fun x => decide (x ≠ k)) := by
  unfold keysOf dropK
  rw [List.filter_map]
  rfl
theorem has_put (hs : List (Key × V)) (x a : Str) (v : V) : has (putK hs (.inr x) v) a = (decide (a = x) || has hs a) := by
  unfold has
  rw [valV_put]
  by_cases e : a = x
  · rw [if_pos (by rw [e]), decide_eq_true e]; rfl
  · rw [if_neg (fun z => e (Sum.inr.inj z)), decide_eq_false e, Bool.false_or]
theorem valV_drop (hs : List (Key × V)) (k k' : Key) : valV (dropK hs k) k' = if k' = k then none else valV hs k' := by
  unfold valV dropK
  induction hs with
  | nil => split <;> rfl
  | cons p l ih =>
    rw [List.filter_cons]
    by_cases c : p.1 = k
    · rw [if_neg (by simp [c]), ih]
      by_cases e : k' = k
      · rw [if_pos e, if_pos e]
      · rw [if_neg e, if_neg e, List.find?_cons_of_neg (by simp [c]; exact fun z => e z.symm)]
    · rw [if_pos (by simp [c])]
      by_cases e : p.1 = k'
      · rw [List.find?_cons_of_pos (by simp [e]), List.find?_cons_of_pos (by simp [e]), if_neg (fun z => c (e.trans z))]
      · rw [List.find?_cons_of_neg (by simp [e]), List.find?_cons_of_neg (by simp [e]), ih]
theorem has_drop (hs : List (Key × V)) (x a : Str) : has (dropK hs (.inr x)) a = (!decide (a = x) && has hs a) := by
  unfold has
  rw [valV_drop]
  by_cases e : a = x
  · rw [if_pos (by rw [e]), decide_eq_true e]; rfl
  · rw [if_neg (fun z => e (Sum.inr.inj z)), decide_eq_false e]; rfl
def doneL (ws : List Vw) : List (Str × Str) := doneP ws ws.length
theorem run_snoc (ws : List Vw) (v : Vw) : runW (ws ++ [v]) = stepW (runW ws) v := by
  unfold runW
  rw [List.foldl_append]
  rfl
def goodV (ws : List Vw) (v : Vw) : Bool := good (runW ws).hs (runW ws).kn v.z v.a v.b
theorem ok_snoc (ws : List Vw) (v : Vw) : (runW (ws ++ [v])).ok = (runW ws).ok ++ [goodV ws v] := by
  rw [run_snoc]
  unfold stepW goodV
  split
  · rename_i h; rw [h]
  · rename_i h; rw [Bool.eq_false_iff.mpr h]
theorem done_snoc (ws : List Vw) (v : Vw) : doneL (ws ++ [v]) = doneL ws ++ (doneF (v, goodV ws v)).toList := by
  unfold doneL doneP
  rw [ok_snoc, List.zip_append (run_ok_len ws).symm]
  have l1 : (ws.zip (runW ws).ok).length = ws.length := by rw [List.length_zip, run_ok_len, Nat.min_self]
  have e : List.zip [v] [goodV ws v] = [(v, goodV ws v)] := rfl
  rw [e, List.take_of_length_le (by rw [List.length_append, List.length_append, l1]; exact Nat.le_refl _), List.take_of_length_le (by rw [l1]; exact Nat.le_refl _), List.filterMap_append]
  cases q : doneF (v, goodV ws v) with
  | none => simp [q]
  | some p => simp [q]
/-- the law's lists against the walk -/
structure LS (hl sn : List Str) (dl : List (Str × Str)) (ws : List Vw) : Prop where
  kn : sn = (runW ws).kn
  hs : ∀ x, x ∈ hl ↔ has (runW ws).hs x = true
  dn : dl = doneL ws
  nd : hl.Nodup
  sub : ∀ x ∈ hl, x ∈ sn
theorem snoc_nd {hl : List Str} {a : Str} (h : hl.Nodup) (n : a ∉ hl) : (hl ++ [a]).Nodup := List.nodup_append.mpr ⟨h, by simp, fun x hx y hy e => n (by rw [← List.mem_singleton.mp hy, ← e]; exact hx)⟩
theorem snoc_sub {hl sn : List Str} {a : Str} (h : ∀ x ∈ hl, x ∈ sn) : ∀ x ∈ hl ++ [a], x ∈ sn ++ [a] := fun x hx => by
  rcases List.mem_append.mp hx with h1 | h1
  · exact List.mem_append_left _ (h x h1)
  · exact List.mem_append_right _ h1
section
variable {hl sn : List Str} {dl : List (Str × Str)} {ws : List Vw} {z a : Str} {b : Str} {ob : Option Str} {lv : V} {dd : Int}
theorem LS.nil : LS [] [] [] [] := ⟨rfl, fun x => by simp [runW, has, valV], rfl, List.nodup_nil, fun x hx => by cases hx⟩
theorem LS.no (h : LS hl sn dl ws) (g : goodV ws ⟨z, a, ob, lv, dd⟩ = false) : LS hl sn dl (ws ++ [⟨z, a, ob, lv, dd⟩]) := by
  have e : stepW (runW ws) ⟨z, a, ob, lv, dd⟩ = ⟨(runW ws).hs, (runW ws).kn, (runW ws).ok ++ [false]⟩ := by
    unfold stepW
    exact if_neg (fun q => by unfold goodV at g; rw [g] at q; cases q)
  refine ⟨by rw [run_snoc, e]; exact h.kn, fun x => by rw [run_snoc, e]; exact h.hs x, ?_, h.nd, h.sub⟩
  rw [done_snoc, g]
  show dl = doneL ws ++ []
  rw [List.append_nil]
  exact h.dn
theorem step_yes (g : goodV ws ⟨z, a, ob, lv, dd⟩ = true) : stepW (runW ws) ⟨z, a, ob, lv, dd⟩ = ⟨nextH (runW ws).hs z a ob lv, nextK (runW ws).kn z a ob, (runW ws).ok ++ [true]⟩ := by
  unfold stepW
  exact if_pos g
theorem done_other (hz : z ≠ "ahead") (o : Bool) : doneF (⟨z, a, ob, lv, dd⟩, o) = none := by
  unfold doneF aheadP
  cases o
  · rfl
  · rw [if_pos rfl, if_neg hz]
theorem LS.other (h : LS hl sn dl ws) (h1 : z ≠ "house") (h2 : z ≠ "part") (h3 : z ≠ "join") (h4 : z ≠ "ahead") : LS hl sn dl (ws ++ [⟨z, a, ob, lv, dd⟩]) := by
  cases g : goodV ws ⟨z, a, ob, lv, dd⟩ with
  | false => exact h.no g
  | true =>
    refine ⟨?_, fun x => ?_, ?_, h.nd, h.sub⟩
    · rw [run_snoc, step_yes g]
      show sn = nextK _ z a ob
      unfold nextK
      rw [if_neg h1, if_neg h2]
      exact h.kn
    · rw [run_snoc, step_yes g, h.hs x]
      show _ ↔ has (nextH _ z a ob lv) x = true
      unfold nextH
      rw [if_neg h1, if_neg h2, if_neg h3]
      split
      · rw [has_put]
        have ha : has (runW ws).hs a = true := by
          unfold goodV at g
          rw [good_other h1 h2] at g
          exact List.all_eq_true.mp g a (.head _)
        by_cases e : x = a
        · rw [e, ha]; simp
        · rw [decide_eq_false e, Bool.false_or]
      · exact Iff.rfl
    · rw [done_snoc, done_other h4]
      show dl = doneL ws ++ []
      rw [List.append_nil]
      exact h.dn
theorem LS.house (h : LS hl sn dl ws) (na : a ∉ sn) : LS (hl ++ [a]) (sn ++ [a]) dl (ws ++ [⟨"house", a, ob, lv, dd⟩]) := by
  have g : goodV ws ⟨"house", a, ob, lv, dd⟩ = true := by
    unfold goodV good
    rw [if_pos rfl, ← h.kn, decide_eq_false na]
    rfl
  refine ⟨?_, fun x => ?_, ?_, snoc_nd h.nd (fun q => na (h.sub _ q)), snoc_sub h.sub⟩
  · rw [run_snoc, step_yes g]
    show _ = nextK _ "house" a ob
    unfold nextK
    rw [if_pos rfl, h.kn]
  · rw [run_snoc, step_yes g]
    show _ ↔ has (nextH _ "house" a ob lv) x = true
    unfold nextH
    rw [if_pos rfl, has_put, Bool.or_eq_true, decide_eq_true_eq, ← h.hs x, List.mem_append, List.mem_singleton]
    exact Or.comm
  · rw [done_snoc, done_other (by decide +kernel)]
    show dl = doneL ws ++ []
    rw [List.append_nil]
    exact h.dn
theorem LS.housed (h : LS hl sn dl ws) (na : a ∈ sn) : LS hl sn dl (ws ++ [⟨"house", a, ob, lv, dd⟩]) := h.no (by
  unfold goodV good
  rw [if_pos rfl, ← h.kn, decide_eq_true na]
  rfl)
theorem part_good (h : LS hl sn dl ws) : goodV ws ⟨"part", a, some b, lv, dd⟩ = (!decide (b ∈ sn) && decide (a ∈ hl)) := by
  unfold goodV good
  rw [if_neg (show ¬ (Str.ofString "part") = Str.ofString "house" by decide +kernel), if_pos rfl, ← h.kn]
  show (!decide (b ∈ sn) && has (runW ws).hs a) = _
  congr 1
  rw [Bool.eq_iff_iff, decide_eq_true_eq, h.hs a]
theorem LS.part (h : LS hl sn dl ws) (ia : a ∈ hl) (nb : b ∉ sn) : LS (hl ++ [b]) (sn ++ [b]) dl (ws ++ [⟨"part", a, some b, lv, dd⟩]) := by
  have g : goodV ws ⟨"part", a, some b, lv, dd⟩ = true := by
    rw [part_good h, decide_eq_false nb, decide_eq_true ia]
    rfl
  refine ⟨?_, fun x => ?_, ?_, snoc_nd h.nd (fun q => nb (h.sub _ q)), snoc_sub h.sub⟩
  · rw [run_snoc, step_yes g]
    show _ = nextK _ "part" a (some b)
    unfold nextK
    rw [if_neg (by decide +kernel), if_pos rfl, h.kn]
    rfl
  · rw [run_snoc, step_yes g]
    show _ ↔ has (nextH _ "part" a (some b) lv) x = true
    unfold nextH
    rw [if_neg (by decide +kernel), if_pos rfl, has_put, Bool.or_eq_true, decide_eq_true_eq, ← h.hs x, List.mem_append, List.mem_singleton]
    exact Or.comm
  · rw [done_snoc, done_other (by decide +kernel)]
    show dl = doneL ws ++ []
    rw [List.append_nil]
    exact h.dn
theorem LS.parted (h : LS hl sn dl ws) (n : ¬ (a ∈ hl ∧ b ∉ sn)) : LS hl sn dl (ws ++ [⟨"part", a, some b, lv, dd⟩]) := h.no (by
  rw [part_good h]
  by_cases ia : a ∈ hl
  · have ib : b ∈ sn := Classical.byContradiction fun q => n ⟨ia, q⟩
    rw [decide_eq_true ib]
    rfl
  · rw [decide_eq_false ia, Bool.and_false])
theorem two_good (h : LS hl sn dl ws) (h1 : z ≠ "house") (h2 : z ≠ "part") : goodV ws ⟨z, a, some b, lv, dd⟩ = (decide (a ∈ hl) && decide (b ∈ hl)) := by
  unfold goodV
  rw [good_other h1 h2]
  show (has (runW ws).hs a && (has (runW ws).hs b && true)) = _
  rw [Bool.and_true]
  congr 1
  · rw [Bool.eq_iff_iff, decide_eq_true_eq, h.hs a]
  · rw [Bool.eq_iff_iff, decide_eq_true_eq, h.hs b]
theorem LS.join (h : LS hl sn dl ws) (ia : a ∈ hl) (ib : b ∈ hl) : LS (hl.filter fun x => !decide (x = b)) sn dl (ws ++ [⟨"join", a, some b, lv, dd⟩]) := by
  have g : goodV ws ⟨"join", a, some b, lv, dd⟩ = true := by
    rw [two_good h (by decide +kernel) (by decide +kernel), decide_eq_true ia, decide_eq_true ib]
    rfl
  refine ⟨?_, fun x => ?_, ?_, h.nd.filter _, fun x hx => h.sub x (List.mem_filter.mp hx).1⟩
  · rw [run_snoc, step_yes g]
    show _ = nextK _ "join" a (some b)
    unfold nextK
    rw [if_neg (by decide +kernel), if_neg (by decide +kernel)]
    exact h.kn
  · rw [run_snoc, step_yes g]
    show _ ↔ has (nextH _ "join" a (some b) lv) x = true
    unfold nextH
    rw [if_neg (by decide +kernel), if_neg (by decide +kernel), if_pos rfl]
    show _ ↔ has (dropK _ (.inr b)) x = true
    rw [has_drop, Bool.and_eq_true, ← h.hs x, List.mem_filter]
    exact And.comm
  · rw [done_snoc, done_other (by decide +kernel)]
    show dl = doneL ws ++ []
    rw [List.append_nil]
    exact h.dn
theorem LS.ahead (h : LS hl sn dl ws) (ia : a ∈ hl) (ib : b ∈ hl) : LS hl sn (dl ++ [(a, b)]) (ws ++ [⟨"ahead", a, some b, lv, dd⟩]) := by
  have g : goodV ws ⟨"ahead", a, some b, lv, dd⟩ = true := by
    rw [two_good h (by decide +kernel) (by decide +kernel), decide_eq_true ia, decide_eq_true ib]
    rfl
  refine ⟨?_, fun x => ?_, ?_, h.nd, h.sub⟩
  · rw [run_snoc, step_yes g]
    show _ = nextK _ "ahead" a (some b)
    unfold nextK
    rw [if_neg (by decide +kernel), if_neg (by decide +kernel)]
    exact h.kn
  · rw [run_snoc, step_yes g]
    show _ ↔ has (nextH _ "ahead" a (some b) lv) x = true
    unfold nextH
    rw [if_neg (by decide +kernel), if_neg (by decide +kernel), if_neg (by decide +kernel), if_neg (by decide +kernel)]
    exact h.hs x
  · rw [done_snoc, g, h.dn]
    congr 1
theorem LS.twono (h : LS hl sn dl ws) (h1 : z ≠ "house") (h2 : z ≠ "part") (n : ¬ (a ∈ hl ∧ b ∈ hl)) : LS hl sn dl (ws ++ [⟨z, a, some b, lv, dd⟩]) := h.no (by
  rw [two_good h h1 h2]
  by_cases ia : a ∈ hl
  · rw [decide_eq_false (fun q => n ⟨ia, q⟩), Bool.and_false]
  · rw [decide_eq_false ia]
    rfl)
end
def preD (d : Int) (vf : List Vw) (i : Nat) : List Vw := (vf.take i).filter fun v => decide (v.d ≤ d)
theorem pre_yes {d : Int} {vf : List Vw} {i : Nat} {v : Vw} (h : vf[i]? = some v) (le : v.d ≤ d) : preD d vf (i + 1) = preD d vf i ++ [v] := by
  unfold preD
  rw [List.take_add_one, h, List.filter_append]
  congr 1
  show List.filter _ [v] = _
  rw [List.filter_cons, if_pos (decide_eq_true le)]
  rfl
theorem pre_no {d : Int} {vf : List Vw} {i : Nat} {v : Vw} (h : vf[i]? = some v) (le : ¬ v.d ≤ d) : preD d vf (i + 1) = preD d vf i := by
  unfold preD
  rw [List.take_add_one, h, List.filter_append]
  show _ ++ List.filter _ [v] = _
  rw [List.filter_cons, if_neg (fun q => le (of_decide_eq_true q))]
  exact List.append_nil _
/-- a saying's view: its names are unlike, and of the list -/
def VS (zs : List Str) (v : Vw) : Prop := ∀ b, v.z = "ahead" → v.b = some b → v.a ∈ zs ∧ b ∈ zs ∧ v.a ≠ b
theorem nk_str {H : Hp} {a : Str} {k : NestedKey} (n : Nk H (.str a) k) : k = .text a := by cases n; rfl
theorem views_full {H : Hp} {zs : List Str} : ∀ {xs : List V} {ks : List NestedKey}, NkAll H xs ks → (∀ k ∈ ks, PgK k) → (∀ k ∈ ks, Sy zs k) → ∃ vf, Views H xs vf ∧ (∀ d, Views H (fltD d xs ks) (vf.filter fun v => decide (v.d ≤ d))) ∧ ∀ v ∈ vf, VS zs v
  | _, _, .nil, _, _ => ⟨[], .nil, fun d => .nil, fun v hv => by cases hv⟩
  | x :: xs, k :: ks, .cons n h, p, s => by
    obtain ⟨vf, v1, v2, v3⟩ := views_full h (fun k hk => p k (.tail _ hk)) fun k hk => s k (.tail _ hk)
    obtain ⟨pa, z, a, b, lv, r, e, hp, pv⟩ := view n (p k (.head _))
    have at1 : VwAt H x ⟨z, a, b, lv, dayK k⟩ := ⟨pa, r, e, hp, pv⟩
    refine ⟨⟨z, a, b, lv, dayK k⟩ :: vf, .cons at1 v1, fun d => ?_, fun v hv => ?_⟩
    · have v2 := v2 d
      unfold fltD at v2 ⊢
      rw [List.zip_cons_cons, List.filter_cons, List.filter_cons]
      by_cases le : dayK k ≤ d
      · rw [if_pos (decide_eq_true le), if_pos (decide_eq_true le)]
        exact .cons at1 v2
      · rw [if_neg (fun q => le (of_decide_eq_true q)), if_neg (fun q => le (of_decide_eq_true q))]
        exact v2
    · rcases List.mem_cons.mp hv with rfl | hv
      · intro b' ez eb
        have ez : z = "ahead" := ez
        have eb : b = some b' := eb
        subst ez eb
        have er : r = [.str a, .str b'] := by cases pv; rfl
        subst er
        subst e
        cases n with
        | @tup _ ys ls h2 hk =>
          rw [hp] at h2
          cases h2
          cases hk with
          | cons n1 hk =>
            cases hk with
            | cons n2 hk =>
              cases hk with
              | cons n3 hk =>
                cases hk with
                | cons n4 hk =>
                  cases hk
                  have e1 := nk_str n1
                  have e3 := nk_str n3
                  have e4 := nk_str n4
                  subst e1 e3 e4
                  exact (s _ (.head _)).1 _ a b' rfl
      · exact v3 v hv
theorem says_in {zs : List Str} {ws : List Vw} (h : ∀ v ∈ ws, VS zs v) {p : Str × Str} (hp : p ∈ saysOf ws) : p.1 ∈ zs ∧ p.2 ∈ zs ∧ p.1 ≠ p.2 := by
  unfold saysOf doneP at hp
  obtain ⟨hp, _⟩ := List.mem_filter.mp hp
  obtain ⟨⟨v, o⟩, hv, e⟩ := List.mem_filterMap.mp hp
  have hv2 := (List.of_mem_zip (List.mem_of_mem_take hv)).1
  unfold doneF aheadP at e
  cases o with
  | false => simp at e
  | true =>
    rw [if_pos rfl] at e
    by_cases ez : v.z = "ahead"
    · rw [if_pos ez] at e
      cases eb : v.b with
      | none => rw [eb] at e; cases e
      | some b =>
        rw [eb] at e
        cases e
        exact h v hv2 b ez eb
    · rw [if_neg ez] at e
      cases e
theorem flt_nk {H : Hp} (d : Int) : ∀ {xs : List V} {ks : List NestedKey}, NkAll H xs ks → NkAll H (fltD d xs ks) (ks.filter fun k => decide (dayK k ≤ d)) ∧ fltD d (fltD d xs ks) (ks.filter fun k => decide (dayK k ≤ d)) = fltD d xs ks
  | _, _, .nil => ⟨.nil, rfl⟩
  | x :: xs, k :: ks, .cons n h => by
    obtain ⟨a, b⟩ := flt_nk d h
    unfold fltD at a b ⊢
    rw [List.zip_cons_cons, List.filter_cons, List.filter_cons]
    by_cases le : dayK k ≤ d
    · rw [if_pos (decide_eq_true le), if_pos (decide_eq_true le)]
      refine ⟨.cons n a, ?_⟩
      rw [List.map_cons, List.zip_cons_cons, List.filter_cons, if_pos (decide_eq_true le), List.map_cons, b]
    · rw [if_neg (fun q => le (of_decide_eq_true q)), if_neg (fun q => le (of_decide_eq_true q))]
      exact ⟨a, b⟩
theorem fine_says {zs : List Str} (hz : ∀ z ∈ zs, Nm z) : ∀ {ls : List NestedKey}, (∀ k ∈ ls, ∃ p : Str × Str, k = sayK p ∧ p.1 ∈ zs ∧ p.2 ∈ zs ∧ p.1 ≠ p.2) → FineAll (NestedKey.datas ls) (2017 * ls.length) ∧ PyData.depthAll (NestedKey.datas ls) ≤ 1
  | [], _ => ⟨by rw [NestedKey.datas]; exact .nil, by rw [NestedKey.datas, PyData.depthAll]; omega⟩
  | k :: ls, h => by
    obtain ⟨p, rfl, p1, p2, _⟩ := h k (.head _)
    obtain ⟨c, d⟩ := fine_says hz fun y hy => h y (.tail _ hy)
    have t := FineAll.cons (fine_text (hz _ p1).plain) (FineAll.cons (fine_text (hz _ p2).plain) .nil)
    have e : (sayK p).data = .tuple [.str p.1, .str p.2] := by unfold sayK; simp [NestedKey.data, NestedKey.datas]
    have dp : (PyData.tuple [.str p.1, .str p.2]).depth ≤ 1 := by
      rw [PyData.depth, PyData.depthAll, PyData.depthAll, PyData.depthAll, PyData.depth, PyData.depth]
      omega
    have f : Fine (.tuple [.str p.1, .str p.2]) 2015 := ⟨t.sh, by rw [GU.cost]; have := t.cost; omega, by rw [PyData.canLay0]; exact t.lay, by omega⟩
    have t2 := FineAll.cons f c
    rw [NestedKey.datas, e]
    refine ⟨⟨t2.sh, by have := t2.cost; rw [List.length_cons]; omega, t2.lay, t2.deep⟩, by rw [PyData.depthAll]; omega⟩
theorem repr_says {zs : List Str} (hz : ∀ z ∈ zs, Nm z) {ls : List NestedKey} (h : ∀ k ∈ ls, ∃ p : Str × Str, k = sayK p ∧ p.1 ∈ zs ∧ p.2 ∈ zs ∧ p.1 ≠ p.2) (n : ls.length ≤ 100) : GU.Sh (.tuple (NestedKey.datas ls)) ∧ (PyData.tuple (NestedKey.datas ls)).depth ≤ 50 ∧ GU.cost (.tuple (NestedKey.datas ls)) ≤ sizeLine := by
  obtain ⟨f, fd⟩ := fine_says hz h
  refine ⟨f.sh, by rw [PyData.depth]; omega, ?_⟩
  rw [GU.cost]
  have := f.cost
  have : GU.costAll (NestedKey.datas ls) + 3 ≤ 4000403 := by omega
  exact Nat.le_trans this (by decide)
end
end L52

set_option Elab.async false
set_option linter.all false
set_option maxRecDepth 100000
set_option maxHeartbeats 2000000
namespace L52
open PySem PySem.Spec PyProof.Rows L2 LT
open My hiding Tbs Gk Tk
section
variable {P : Program} {w : World} {K : PySem.W.Frag} {mg : Str → Option Value} {base : Heap}
structure OkK (zs : List Str) (hs : List (Key × V)) (kn : List Str) : Prop where
  nd : (keysOf hs).Nodup
  sub : ∀ k ∈ keysOf hs, ∃ a ∈ zs, k = .inr a
  kd : kn.Nodup
  ks : ∀ a ∈ kn, a ∈ zs
def VwN (zs : List Str) (v : Vw) : Prop := v.a ∈ zs ∧ ∀ b, v.b = some b → b ∈ zs
theorem OkK.put {zs : List Str} {hs : List (Key × V)} {kn : List Str} {a : Str} {v : V} (h : OkK zs hs kn) (ha : a ∈ zs) : OkK zs (putK hs (.inr a) v) kn := by
  rcases keys_put hs (.inr a) v with ⟨_, e⟩ | ⟨c, e⟩
  · exact ⟨by rw [e]; exact h.nd, by rw [e]; exact h.sub, h.kd, h.ks⟩
  · refine ⟨?_, ?_, h.kd, h.ks⟩
    · rw [e]
      exact List.nodup_append.mpr ⟨h.nd, by simp, fun x hx y hy e => c (by rw [← List.mem_singleton.mp hy, ← e]; exact hx)⟩
    · rw [e]
      intro k hk
      rcases List.mem_append.mp hk with hk | hk
      · exact h.sub k hk
      · exact ⟨a, ha, List.mem_singleton.mp hk⟩
theorem OkK.know {zs : List Str} {hs : List (Key × V)} {kn : List Str} {a : Str} (h : OkK zs hs kn) (ha : a ∈ zs) (n : a ∉ kn) : OkK zs hs (kn ++ [a]) :=
  ⟨h.nd, h.sub, List.nodup_append.mpr ⟨h.kd, by simp, fun x hx y hy e => n (by rw [← List.mem_singleton.mp hy, ← e]; exact hx)⟩, fun x hx => (List.mem_append.mp hx).elim (h.ks x) (fun e => by rw [List.mem_singleton.mp e]; exact ha)⟩
theorem OkK.drop {zs : List Str} {hs : List (Key × V)} {kn : List Str} {k : Key} (h : OkK zs hs kn) : OkK zs (dropK hs k) kn := by
  refine ⟨?_, ?_, h.kd, h.ks⟩
  · rw [keys_drop]; exact h.nd.filter _
  · rw [keys_drop]
    exact fun x hx => h.sub x (List.mem_filter.mp hx).1
theorem OkK.step {zs : List Str} {w : Wk} {v : Vw} (h : OkK zs w.hs w.kn) (n : VwN zs v) : OkK zs (stepW w v).hs (stepW w v).kn := by
  unfold stepW
  split
  · rename_i g
    show OkK zs (nextH w.hs v.z v.a v.b v.lv) (nextK w.kn v.z v.a v.b)
    unfold good at g
    unfold nextH nextK
    split
    · rename_i e
      rw [if_pos e] at g
      exact (h.put n.1).know n.1 (fun z => by rw [decide_eq_true z] at g; cases g)
    rename_i e1
    rw [if_neg e1] at g
    split
    · rename_i e
      rw [if_pos e] at g
      cases hb : v.b with
      | none => rw [hb] at g; cases g
      | some b =>
        rw [hb] at g
        have g : (!decide (b ∈ w.kn) && has w.hs v.a) = true := g
        rw [Bool.and_eq_true] at g
        have nb := n.2 b hb
        exact (h.put nb).know nb (fun z => by
          have z : b ∈ w.kn := z
          rw [decide_eq_true z] at g; cases g.1)
    split
    · exact h.drop
    split
    · exact h.put n.1
    · exact h
  · exact h
theorem run_ok {zs : List Str} {ws : List Vw} (n : ∀ v ∈ ws, VwN zs v) : ∀ i, i ≤ ws.length → OkK zs (runW (ws.take i)).hs (runW (ws.take i)).kn
  | 0, _ => ⟨List.nodup_nil, (fun k hk => by cases hk), List.nodup_nil, (fun k hk => by cases hk)⟩
  | i + 1, h => by
    have ih := run_ok n i (by omega)
    obtain ⟨v, hv⟩ : ∃ v, ws[i]? = some v := ⟨_, List.getElem?_eq_getElem (by omega)⟩
    rw [run_next hv]
    exact ih.step (n v (List.mem_of_getElem? hv))
theorem run_okAll {zs : List Str} {ws : List Vw} (n : ∀ v ∈ ws, VwN zs v) : OkK zs (runW ws).hs (runW ws).kn := by
  have := run_ok n ws.length (Nat.le_refl _)
  rw [List.take_of_length_le (Nat.le_refl _)] at this
  exact this
theorem OkK.texts {zs : List Str} {hs : List (Key × V)} {kn : List Str} (h : OkK zs hs kn) : ∃ ks : List Str, hs.map (·.1) = ks.map Sum.inr ∧ ks.length ≤ zs.length ∧ kn.length ≤ zs.length := by
  have key : ∀ l : List Key, (∀ k ∈ l, ∃ a ∈ zs, k = .inr a) → ∃ ks : List Str, l = ks.map Sum.inr := by
    intro l
    induction l with
    | nil => exact fun _ => ⟨[], rfl⟩
    | cons k l ih =>
      intro hl
      obtain ⟨a, _, e⟩ := hl k (.head _)
      obtain ⟨ks, e2⟩ := ih fun x hx => hl x (.tail _ hx)
      exact ⟨a :: ks, by rw [e, e2]; rfl⟩
  obtain ⟨ks, e⟩ := key _ h.sub
  refine ⟨ks, e, ?_, h.kd.length_le_of_subset fun a ha => h.ks a ha⟩
  have l := h.nd.length_le_of_subset (l₂ := zs.map Sum.inr) fun k hk => by
    obtain ⟨a, ha, e⟩ := h.sub k hk
    exact List.mem_map.mpr ⟨a, ha, e.symm⟩
  rw [List.length_map] at l
  have : (keysOf hs).length = ks.length := by rw [e, List.length_map]
  omega
/-- what each page's view says, of a story's names -/
theorem view_ok {zs : List Str} {H : Hp} {x : V} {k : NestedKey} {v : Vw} (n : Nk H x k) (p : PgK k) (nm : ∀ nm, NestedKey.text nm ∈ restK k → nm ∈ zs) (h : VwAt H x v) : VwN zs v := by
  obtain ⟨z, d, rr, rfl, re, _⟩ := p
  obtain ⟨pa, r, rfl, hp, vw⟩ := h
  obtain ⟨vz, va, vb, vl, vd⟩ := v
  dsimp only at *
  cases n with
  | @tup _ xs _ ha hk =>
    rw [hp] at ha
    cases ha
    cases hk with
    | cons n1 hk =>
      cases n1
      cases hk with
      | cons n2 hk =>
        cases n2
        have nm : ∀ nm, NestedKey.text nm ∈ rr → nm ∈ zs := nm
        cases vw
        case house =>
          cases hk with
          | cons n3 hk =>
            cases n3
            cases hk with
            | cons n4 hk =>
              cases hk
              cases re with
              | house _ hw => exact ⟨nm _ (by simp [restK]), fun b e => by cases e⟩
        case home =>
          cases hk with
          | cons n3 hk =>
            cases n3
            cases hk with
            | cons n4 hk =>
              cases hk
              cases re with
              | home _ hw => exact ⟨nm _ (by simp [restK]), fun b e => by cases e⟩
        case part b =>
          cases hk with
          | cons n3 hk =>
            cases n3
            cases hk with
            | cons n4 hk =>
              cases n4
              cases hk with
              | cons n5 hk =>
                cases hk
                cases re with
                | part _ _ hw => exact ⟨nm _ (by simp [restK]), fun b' e => by cases e; exact nm _ (by simp [restK])⟩
        case mourn =>
          cases hk with
          | cons n3 hk =>
            cases n3
            exact ⟨nm _ (by simp [restK]), fun b e => by cases e⟩
        all_goals
          cases hk with
          | cons n3 hk =>
            cases n3
            cases hk with
            | cons n4 hk =>
              cases n4
              exact ⟨nm _ (by simp [restK]), fun b' e => by cases e; exact nm _ (by simp [restK])⟩
theorem sorted_pw : ∀ l : List Str, sortedS l = true → l.Pairwise (fun a b => ¬ b.cps.toList < a.cps.toList)
  | [], _ => .nil
  | [x], _ => .cons (fun _ h => by cases h) .nil
  | x :: y :: r, h => by
    have h : (!ltCps y.cps.toList x.cps.toList && risingS y r) = true := h
    rw [Bool.and_eq_true] at h
    have h1 : ¬ y.cps.toList < x.cps.toList := fun z => by
      rw [ltCps_eq, decide_eq_true z] at h
      exact absurd h.1 (by decide)
    have ih := sorted_pw (y :: r) h.2
    refine .cons (fun b hb => ?_) ih
    rcases List.mem_cons.mp hb with rfl | hb
    · exact h1
    · have h2 := List.rel_of_pairwise_cons ih hb
      exact List.le_trans (List.not_lt.mp h1) (List.not_lt.mp h2) |> List.not_lt.mpr
theorem sorted_unique {l m : List Str} (p : l.Perm m) (h : sortedS l = true) (h' : sortedS m = true) : l = m :=
  List.Perm.eq_of_pairwise (le := fun a b => ¬ b.cps.toList < a.cps.toList) (fun a b _ _ h1 h2 => text_total h2 h1) (sorted_pw l h) (sorted_pw m h') p
theorem valV_mem {hs : List (Key × V)} {k : Key} : k ∈ keysOf hs → ∃ v, valV hs k = some v ∧ (k, v) ∈ hs := by
  intro h
  obtain ⟨p, hp, e⟩ := List.mem_map.mp h
  cases f : hs.find? (fun kv => decide (kv.1 = k)) with
  | none => exact absurd (List.find?_eq_none.mp f p hp) (by simp [e])
  | some q =>
    refine ⟨q.2, by unfold valV; rw [f]; rfl, ?_⟩
    have e2 := List.find?_some f
    have e2 : q.1 = k := of_decide_eq_true e2
    rw [← e2]
    exact List.mem_of_find?_eq_some f
theorem perm_texts {ys ys' : List Str} {l : List Key} (a : (ys.map Sum.inr).Perm l) (b : (ys'.map Sum.inr).Perm l) : ys.Perm ys' := by
  have h := (a.trans b.symm).filterMap (fun k : Key => match k with | .inr s => some s | .inl _ => none)
  have e : ∀ l : List Str, (l.map (Sum.inr : Str → Key)).filterMap (fun k : Key => match k with | .inr s => some s | .inl _ => none) = l := by
    intro l
    induction l with
    | nil => rfl
    | cons x l ih => rw [List.map_cons, List.filterMap_cons, ih]
  rw [e, e] at h
  exact h
theorem key_has {hs : List (Key × V)} {x : Str} : (Sum.inr x : Key) ∈ keysOf hs ↔ has hs x = true := by
  constructor
  · intro h
    obtain ⟨v, hv, _⟩ := valV_mem h
    unfold has
    rw [hv]; rfl
  · intro h
    unfold has valV at h
    cases e : hs.find? (fun kv => decide (kv.1 = Sum.inr x)) with
    | none => rw [e] at h; cases h
    | some q =>
      have e2 := List.find?_some e
      have e2 : q.1 = Sum.inr x := of_decide_eq_true e2
      exact List.mem_map.mpr ⟨q, List.mem_of_find?_eq_some e, e2⟩
/-- who stands, by the walk's homes: rising names -/
theorem stand_eq {hs : List (Key × V)} {ys hl : List Str} (p : (ys.map Sum.inr).Perm (keysOf hs)) (so : sortedS ys = true) (nd : (keysOf hs).Nodup) (ndl : hl.Nodup) (h : ∀ x, x ∈ hl ↔ has hs x = true) : srtX hl = ys := by
  have ndy : ys.Nodup := (List.pairwise_map.mp (p.nodup_iff.mpr nd)).imp fun q e => q (by rw [e])
  have pm : (srtX hl).Perm ys := (srtX_perm hl).trans ((List.perm_ext_iff_of_nodup ndl ndy).mpr fun x => by
    rw [h x, ← key_has, ← p.mem_iff]
    exact ⟨fun q => by obtain ⟨y, hy, e⟩ := List.mem_map.mp q; cases e; exact hy, fun q => List.mem_map.mpr ⟨x, q, rfl⟩⟩)
  refine List.Perm.eq_of_pairwise (le := fun a b : Str => ¬ b.cps.toList < a.cps.toList) (fun a b _ _ h1 h2 => text_total h2 h1) ?_ (sorted_pw ys so) pm
  exact (srtX_pw hl).imp fun {a b} q => List.not_lt.mpr q
inductive NP (H : Hp) : List V → List Str → Prop
  | nil : NP H [] []
  | cons {q : Addr} {y : Str} {v : V} {ms : List V} {ys : List Str} : H q = some (.tup [.str y, v]) → NP H ms ys → NP H (.ref q :: ms) (y :: ys)
theorem NP.at {H H' : Hp} (t : Tups H H') : ∀ {ms : List V} {ys : List Str}, NP H ms ys → NP H' ms ys
  | [], _, .nil => .nil
  | _ :: _, _, .cons a b => .cons (t _ _ a) (b.at t)
theorem NP.snoc {H : Hp} {q : Addr} {y : Str} {v : V} (h : H q = some (.tup [.str y, v])) : ∀ {ms : List V} {ys : List Str}, NP H ms ys → NP H (ms ++ [.ref q]) (ys ++ [y])
  | [], _, .nil => .cons h .nil
  | _ :: _, _, .cons a b => .cons a (b.snoc h)
theorem NP.length {H : Hp} : ∀ {ms : List V} {ys : List Str}, NP H ms ys → ms.length = ys.length
  | [], _, .nil => rfl
  | _ :: _, _, .cons _ b => congrArg (· + 1) b.length
theorem NP.get {H : Hp} : ∀ {ms : List V} {ys : List Str} {i : Nat} {m : V}, NP H ms ys → ms[i]? = some m → ∃ q y v, m = .ref q ∧ ys[i]? = some y ∧ H q = some (.tup [.str y, v])
  | [], _, _, _, .nil, e => by simp at e
  | _ :: _, _, 0, _, .cons a _, e => ⟨_, _, _, (Option.some.inj e).symm, rfl, a⟩
  | _ :: _, _, i + 1, _, .cons _ b, e => b.get (i := i) (by simpa using e)
def spStnd (T : Tx K mg w) : Sp := fun vs H Q _ => ∃ (a : Addr) (d : Int) (xs : List V) (ks : List NestedKey) (ws : List Vw) (zs : List Str), vs = [.ref a, .int d] ∧ H a = some (.tup xs) ∧ PgsAt H xs ks ∧ xs.length ≤ 200 ∧ Tbs (tbs T) H ∧ Views H (fltD d xs ks) ws ∧ (∀ v ∈ ws, VwN zs v) ∧ zs.length ≤ 12 ∧
  ∀ p ms ys H', Gk (tbs T) H H' → H' p = some (.lst ms) → NP H' ms ys → (ys.map Sum.inr).Perm (keysOf (runW ws).hs) → sortedS ys = true → ys.length ≤ 12 → Q (.ref p) H'
theorem ok_stnd (T : Tx K mg w) (B : Tb T base) : FnOk P w K mg base CX0 7 T.f_standing T.d_standing ["book", "day"] (spStnd T) := by
  have G_walk_houses : FnOk P w K mg base CX0 6 T.f_walk_houses T.d_walk_houses ["book", "day"] (spWalk T) := ok_walk T B
  refine T.F_standing.ok S_standing (fun vs H Q E h => ?_) (fun cdv A outer s H vs Q E hr h => ?_)
  · obtain ⟨a, d, xs, ks, ws, zs, rfl, _⟩ := h
    rfl
  · obtain ⟨a, d, xs, ks, ws, zs, rfl, ha, pg, lx, tb, vw, vn, lz, q⟩ := h
    refine ⟨_, (pss_cons (ps_asg (pe_call G_walk_houses hr (by rfl) T.g_walk_houses T.F_walk_houses.kp T.b_walk_houses .nil pass0 (pa_cons (pv 0) (pa_cons (pv 1) pa_nil))) (pg_tup rfl (pgs_cons (pg_name (i := 2) S_standing.nd rfl (.inr rfl)) (pgs_cons (pg_name (i := 3) S_standing.nd rfl (.inl rfl)) (pgs_cons (pg_name (i := 4) S_standing.nd rfl (.inl rfl)) pgs_nil)))))
      (pss_one (ps_ret (pe_lc (own := [("name", 5)]) (g := gName 5) (tt := tYes) (by rfl) S_standing.nd (pi_list (pe_callB (call_sortedD (by rfl)) (by rfl) T.m_sorted (by decide +kernel) (pa_cons (pv 2) pa_nil))) (blkOk_by (own := [("name", 5)]) (N := N_standing) (sc := defScope s_standing) (by decide +kernel)) (fun _ _ _ _ _ => (pg_name (i := 5) S_standing.nd rfl (.inl rfl))) (fun _ _ _ _ _ => pts_nil) (fun _ _ _ _ _ => (pe_tup (pa_cons (pv 5) (pa_cons (pe_dget (hu_of hr) (pv 2) (pv 5) (fun _ _ => rfl)) pa_nil)))))))), ?_⟩
    refine ⟨_, rfl, _, rfl, a, d, xs, ks, ws, rfl, ha, pg, lx, tb, vw, fun r hm kn mk ms H1 g1 h1 hh _ _ _ => ?_⟩
    refine ⟨r, _, rfl, .inl (.inl h1), rfl, _, _, rfl, _, _, rfl, _, _, rfl, rfl, ?_⟩
    have okk := run_okAll vn
    obtain ⟨kt, ekt, lkt, _⟩ := okk.texts
    refine ⟨_, rfl, hm, _, kt, rfl, .inl hh, ekt, by omega, fun ys sp perm srt nsp => ?_⟩
    have lys := perm.length_eq
    have ssp := same_upd (o := .lst (ys.map V.str)) nsp
    refine ⟨sp, rfl, ⟨_, .inl (.inl upd_same)⟩, fun D nD => ?_⟩
    have sD := fun o => same_upd (o := o) nD
    have hh2 := ssp _ _ hh
    have hsp : upd H1 sp (.lst (ys.map V.str)) sp = some (.lst (ys.map V.str)) := upd_same
    have g2 : Gk (tbs T) H (upd H1 sp (.lst (ys.map V.str))) := g1.trans (.of_same ssp g1.2)
    generalize upd H1 sp (.lst (ys.map V.str)) = H2 at *
    refine lc_list (xs := ys.map V.str) (fun i Hx => ∃ ms, Same H2 Hx ∧ Hx D = some (.lst ms) ∧ NP Hx ms (ys.take i)) ⟨[], sD _, upd_same, .nil⟩ (fun i Hx hi ⟨_, sx, _⟩ => .inl (.inl (sx _ _ hsp))) ?_ ?_
    · rintro i x Hx hx ⟨ms2, sx, hD, np⟩
      obtain ⟨y, hy, rfl⟩ : ∃ y, ys[i]? = some y ∧ x = V.str y := by
        rw [List.getElem?_map] at hx
        cases e : ys[i]? with
        | none => rw [e] at hx; cases hx
        | some y => rw [e] at hx; exact ⟨y, rfl, (Option.some.inj hx).symm⟩
      have hi := (List.getElem?_eq_some_iff.mp hy).1
      have lm := np.length
      rw [List.length_take] at lm
      have ym : Sum.inr y ∈ keysOf (runW ws).hs := by
        show _ ∈ (runW ws).hs.map (·.1)
        rw [ekt]
        exact List.mem_map.mpr ⟨y, perm.mem_iff.mp (List.mem_of_getElem? hy), rfl⟩
      obtain ⟨v, hv, mv⟩ := valV_mem ym
      refine ⟨rfl, tYesT ⟨_, rfl, _, rfl, _, rfl, hm, v, rfl, by rw [← hv]; exact DGet.k (k := .inr y) (sx _ _ hh2), sz (by show 2 ≤ 1000; decide), fun q2 nq => ?_⟩⟩
      have sq := same_upd (o := .tup [.str y, v]) nq
      have hD2 := sq _ _ hD
      have tl := tups_lst (o := .lst (ms2 ++ [.ref q2])) hD2
      refine ⟨ms2, hD2, small1000 (by omega), ms2 ++ [.ref q2], same_fresh nD (sx.trans sq), upd_same, ?_⟩
      rw [List.take_add_one, hy]
      exact ((np.at (.same sq)).snoc upd_same).at tl
    · rintro Hx ⟨ms2, sx, hD, np⟩
      rw [List.length_map, List.take_of_length_le (Nat.le_refl _)] at np
      refine q D ms2 ys _ (g2.trans (.of_same sx g2.2)) hD np ?_ srt (by omega)
      show (ys.map Sum.inr).Perm ((runW ws).hs.map (·.1))
      rw [ekt]
      exact perm.map _
def spStNm (T : Tx K mg w) : Sp := fun vs H Q _ => ∃ (a : Addr) (d : Int) (xs : List V) (ks : List NestedKey) (ws : List Vw) (zs : List Str), vs = [.ref a, .int d] ∧ H a = some (.tup xs) ∧ PgsAt H xs ks ∧ xs.length ≤ 200 ∧ Tbs (tbs T) H ∧ Views H (fltD d xs ks) ws ∧ (∀ v ∈ ws, VwN zs v) ∧ zs.length ≤ 12 ∧
  ∀ p ys H', Gk (tbs T) H H' → H' p = some (.tup (ys.map V.str)) → (ys.map Sum.inr).Perm (keysOf (runW ws).hs) → sortedS ys = true → Q (.ref p) H'
theorem ok_stnm (T : Tx K mg w) (B : Tb T base) : FnOk P w K mg base CX0 9 T.f_standing_names T.d_standing_names ["book", "day"] (spStNm T) := by
  have G_standing : FnOk P w K mg base CX0 7 T.f_standing T.d_standing ["book", "day"] (spStnd T) := ok_stnd T B
  refine T.F_standing_names.ok S_standing_names (fun vs H Q E h => ?_) (fun A outer s H vs Q E hr h => ?_)
  · obtain ⟨a, d, xs, ks, ws, zs, rfl, _⟩ := h
    rfl
  · obtain ⟨a, d, xs, ks, ws, zs, rfl, ha, pg, lx, tb, vw, vn, lz, q⟩ := h
    refine ⟨_, (pss_one (ps_ret (GE.pe_tupleG (own := [("name", 2), ("home", 3)]) (g := gTup K 2 (gCons (gName 2) (gCons (gName 3) gNil))) (tt := tYes) (by rfl) S_standing_names.nd hr (by rfl) T.m_tuple B.b_standing_names rfl ⟨blkOk_by (own := [("name", 2), ("home", 3)]) (N := N_standing_names) (sc := defScope s_standing_names) (by decide +kernel), rfl, (by decide +kernel), (by decide +kernel)⟩ (pi_list (pe_call G_standing (hr.mono (by decide)) (by rfl) T.g_standing T.F_standing.kp T.b_standing .nil pass0 (pa_cons (pv 0) (pa_cons (pv 1) pa_nil)))) (fun _ _ _ _ _ _ hr => (pg_tup rfl (pgs_cons (pg_name (i := 2) S_standing_names.nd rfl (.inl rfl)) (pgs_cons (pg_name (i := 3) S_standing_names.nd rfl (.inl rfl)) pgs_nil)))) (fun _ _ _ _ _ _ hr => pts_nil) (fun _ _ _ _ _ _ hr => (pv 2))))), ?_⟩
    refine ⟨_, rfl, _, rfl, a, d, xs, ks, ws, zs, rfl, ha, pg, lx, tb, vw, vn, lz, fun p ms ys H1 g1 hp np perm so ly => ?_⟩
    refine ⟨p, rfl, ⟨_, .inl (.inl hp)⟩, g1.2 _ (by simp [tbs]), fun H2 tab => ?_⟩
    have g2 := g1.trans ((Tk.of g1.2 (by simp [tbs]) tab).gk g1.2)
    have g12 := (Tk.of g1.2 (by simp [tbs]) tab).gk g1.2
    have hp2 := g12.1 _ _ hp (fun ps z => by cases z)
    have np2 := np.at (LT.Gk.tups g12)
    refine GE.tg_it (walk_list (xs := ms)) (fun i us H' => H' = H2 ∧ us = (ys.take i).map V.str) ⟨rfl, rfl⟩ ?_ ?_ ?_
    · rintro i us H' _ ⟨rfl, _⟩
      exact .inl (.inl hp2)
    · rintro i x us H3 H4 hi ⟨rfl, rfl⟩ ⟨rfl, hx⟩
      obtain ⟨qa, y, v, rfl, hy, hqa⟩ := np2.get hx
      refine ⟨qa, _, rfl, .inl (.inl hqa), rfl, _, _, rfl, _, _, rfl, rfl, rfl, tYesT ⟨_, rfl, Nat.lt_of_le_of_lt (m := 1000) (by rw [List.length_map, List.length_take]; omega) (by decide), rfl, ?_⟩⟩
      rw [List.take_add_one, hy, List.map_append]
      rfl
    · rintro us H3 ⟨rfl, rfl⟩
      refine ⟨Nat.le_of_lt (Nat.lt_of_le_of_lt (m := 1000) (by rw [List.length_map, List.length_take]; omega) (by decide)), fun n hn => q n ys _ (g2.trans (.new g2.2 hn)) ?_ perm so⟩
      have := np.length
      rw [upd_same, List.take_of_length_le (by omega)]
end
end L52

set_option Elab.async false
set_option linter.all false
set_option maxRecDepth 100000
set_option maxHeartbeats 2000000
/-! len(s), s a set of texts. -/
namespace My
open PySem PySem.Spec PyProof.Rows L2 PySem.SeqAt PySem.W
def rLenX (w : World) : List V → Hp → VK → Prop := fun vs H Q => ∃ (a : Addr) (L : List Str), vs = [V.ref a] ∧ H a = some (SetXO w a L) ∧ Q (.int L.length) H
theorem cr_lenX {X : Cx} : CallR X (.builtin "len") (rLenX X.w) := by
  intro pins s σ H vs us Q I r h
  obtain ⟨a, L, rfl, ha, q⟩ := h
  rw [Vals.ref1 r]
  have Z : SetX X.w s.heap a L := (I.hok a _ ha).1
  obtain ⟨o, es, ep, t, g1, g2, g3, tx, ft, ri, ld⟩ := Z.ex
  have l : es.size = L.length := by rw [← Array.length_toList, tx.length]
  have few := Z.few
  have big : scanBound ≤ 2 ^ 40 := by decide
  refine call_len_set g1 g2 g3 ft (by rw [l]; omega) ⟨.int L.length, H, I.tok _, ⟨_, by rw [l]⟩, q⟩
end My

set_option Elab.async false
set_option linter.all false
set_option maxRecDepth 100000
set_option maxHeartbeats 2000000
/-! t[::-1], t a tuple of two. -/
namespace My
open PySem PySem.Spec PyProof.Rows L2 HT
section
variable {prog : Program} {w : World} {A : Around} {E : Value → Shared → Prop} {s : Shared}
theorem applied_back {sl : Addr} {u : Tok} {Q : Int × Int × Nat → Shared → Prop} (hs : s.heap.IsSliceOf sl .none .none (.int (-1) u)) (h : Q (1, -1, 2) s) :
    wpAny (model prog w) A (Builtin.Slice.sliceApplied (.ref sl) (pure (2 : Int))) Q E s := by
  obtain ⟨o, ho, _, hd⟩ := hs
  unfold Builtin.Slice.sliceApplied Builtin.Slice.sliceFields
  refine wpAny_bind (wpAny_bind (wpAny_field ho hd (x := .none) rfl ?_))
  refine wpAny_bind (wpAny_field ho hd (x := .none) rfl ?_)
  refine wpAny_bind (wpAny_field ho hd (x := .int (-1) u) rfl (wpAny_pure ?_))
  refine wpAny_bind (slicePart_ (.int (-1) u) ?_)
  show wpAny _ _ (if ((-1 : Int) == 0) = true then _ else _) _ _ s
  rw [if_neg (show ¬ ((-1 : Int) == 0) = true by decide)]
  exact wpAny_bind (slicePart_ .none (wpAny_bind (slicePart_ .none (wpAny_bind (wpAny_pure (wpAny_pure h))))))
theorem item_back {t sl : Addr} {a b : Value} {u : Tok} {Q : Value → Shared → Prop} (ht : IsTup s.heap t #[a, b]) (hs : s.heap.IsSliceOf sl .none .none (.int (-1) u))
    (h : Q (.ref s.heap.objs.size) { s with heap := s.heap.push { cls := .type "tuple", data := .seq #[b, a] } }) : wpAny (model prog w) A (getItem (.ref t) (.ref sl)) Q E s := by
  obtain ⟨o, ho, hc, hd⟩ := id hs
  have ty : s.TypeIs (.ref sl) "slice" := ⟨o, ho, hc⟩
  have fit : sizeOk (.seq #[b, a]) := by show 2 ≤ sizeLine; exact sz (by decide)
  unfold getItem
  try with_reducible refine wpAny_holding ?_
  first | refine wpAny_bind (wpAny_pure ?_) | skip
  refine wpAny_bind (wpAny_sequenceKey ht.typeIs (by decide) (wpAny_bind (wpAny_callSpecial?_slot (name := Str.ofString "__getitem__") ht.typeIs PyProof.Rows.slot_tuple_getitem (wpAny_call_entry PyProof.Rows.slot_tuple_getitem ht.typeIs entry_tuple_getitem ?_ (args_tuple_getitem _ _)))))
  show wpAny _ _ (Builtin.Tuple.tupleItemsOf (.ref t) >>= _) _ _ s
  refine wpAny_bind (tupleItemsOf_ ht (wpAny_bind (wpAny_typeOf ty ?_)))
  rw [if_pos (by decide)]
  refine wpAny_bind (applied_back hs ?_)
  show wpAny _ _ (if (((1 : Int) == 0) && ((-1 : Int) == 1) && ((2 : Nat) == 2)) = true then _ else _) _ _ s
  rw [if_neg (by decide)]
  have e : ((List.range 2).filterMap fun (k : Nat) => (#[a, b] : Array Value)[((1 : Int) + (k : Int) * (-1)).toNat]?).toArray = #[b, a] := rfl
  rw [e]
  first
    | exact wpAny_bind (m := Builtin.Tuple.tupleExact _) (wpAny_newObj_type (wpAny_pure ⟨_, rfl, wpAny_pure h⟩) fit)
    | exact wpAny_bind (m := Builtin.Tuple.tupleExact _) (wpAny_newObj_type (wpAny_bind (wpAny_pure (wpAny_pure ⟨_, rfl, wpAny_pure h⟩))) fit)
    | exact wpAny_bind (wpAny_bind (m := Builtin.Tuple.tupleExact _) (wpAny_newObj_type (wpAny_pure (wpAny_pure ⟨_, rfl, wpAny_pure h⟩)) fit))
    | exact wpAny_bind (wpAny_bind (m := Builtin.Tuple.tupleExact _) (wpAny_newObj_type (wpAny_pure ⟨_, rfl, wpAny_pure h⟩) fit))
end
section
variable {X : Cx} {K1 : PySem.W.Frag}
def tRevP (K : PySem.W.Frag) (te : TE) : TE := fun σ H Q => te σ H fun x H1 => ∃ a p q, x = .ref a ∧ SqT K H1 a [p, q] ∧ ∀ b, H1 b = none → Q (.ref b) (upd H1 b (.tup [q, p]))
theorem pe_revP {e : Expr} {te : TE} {k : Nat} {p1 p2 p3 pos : Pos} (hK : X.K = K1) (he : PE X e te) : PE X (.Subscript e (.Slice none none (some (.UnaryOp .USub (.Constant (.int 1) k p1) p2)) p3) pos) (tRevP K1 te) := by
  subst hK
  have step : PO X (some (.UnaryOp .USub (.Constant (.int 1) k p1) p2)) (tPart (tUn (rU fun i => .int (-i)) (tC (.int 1)))) := po_some (pe_un un_neg pe_int)
  constructor
  intro pins s σ H Q I h
  refine Subscript_ (thn (he.run pins s σ H _ I h) ?_)
  rintro v s1 ⟨x, H1, I1, r1, a, p, q, rfl, hx, hq⟩
  cases r1
  refine wpAny_Slice (thn (po_none.run pins s1 σ H1 (fun o G => o = none ∧ G = H1) I1 ⟨rfl, rfl⟩) ?_)
  rintro vl s2 ⟨o1, G1, I2, q1, rfl, rfl⟩
  refine thn (po_none.run pins s2 σ G1 (fun o G => o = none ∧ G = G1) I2 ⟨rfl, rfl⟩) ?_
  rintro vu s3 ⟨o2, G2, I3, q2, rfl, rfl⟩
  refine thn (step.run pins s3 σ G2 (fun o G => o = some (-1) ∧ G = G2) I3 ⟨1, rfl, -1, rfl, rfl, rfl⟩) ?_
  rintro vs s4 ⟨o3, G3, I4, q3, rfl, rfl⟩
  cases q1
  cases q2
  cases q3 with
  | int _ u =>
    have I5 : Inv X pins σ G3 { s4 with heap := s4.heap.push { cls := .type "slice", data := .fields #[.none, .none, .int (-1) u] } } := I4.kept (t' := s4.toks) fun b ob q => Heap.get?_push_of_some _ q
    obtain ⟨its, r, ht, _⟩ := I5.tuple hx
    cases r with
    | @cons _ b1 _ _ ra r =>
      cases r with
      | @cons _ b2 _ _ rb r =>
        cases r
        show wpAny (model X.prog X.w) X.A (subscriptTail e (.Slice none none (some (.UnaryOp .USub (.Constant (.int 1) k p1) p2)) p3) (.ref a) (.ref s4.heap.objs.size)) (EP X pins σ Q) X.xe { s4 with heap := s4.heap.push { cls := .type "slice", data := .fields #[.none, .none, .int (-1) u] } }
        refine tail_any (ops := [.ref a, .ref s4.heap.objs.size]) ht.typeIs (PyProof.Rows.slot_tuple_getitem.lookup) ?_ (by with_unfolding_all rfl)
        refine item_back ht (Heap.IsSliceOf.new _ .none .none (.int (-1) u)) ?_
        refine ⟨.ref _, _, I5.laid (t' := s4.toks) (o := .tup [q, p]) (fun b ob q => Heap.get?_push_of_some _ q) (Nat.le_refl _) ⟨sz (by show 2 ≤ 1000; decide), [b2, b1], .cons rb (.cons ra .nil), IsTup.new _ _⟩, rfl, hq _ (I5.hok.fresh (Nat.le_refl _))⟩
end
end My

set_option Elab.async false
set_option linter.all false
set_option maxRecDepth 100000
set_option maxHeartbeats 2000000
namespace L52
open PySem PySem.Spec PyProof.Rows L2 LT
open My hiding Tbs Gk Tk
section
variable {P : Program} {w : World} {K : PySem.W.Frag} {mg : Str → Option Value} {base : Heap}
theorem idx_at : ∀ {l : List Str} {i : Nat} {x : Str}, l.Nodup → l[i]? = some x → l.idxOf x = i
  | y :: l, 0, x, _, h => by
    have e : y = x := Option.some.inj h
    rw [e, List.idxOf_cons_self]
  | y :: l, i + 1, x, nd, h => by
    obtain ⟨n1, n2⟩ := List.nodup_cons.mp nd
    have h : l[i]? = some x := h
    have ne : y ≠ x := fun e => n1 (by rw [e]; exact List.mem_of_getElem? h)
    rw [List.idxOf_cons]
    rw [show (y == x) = false from beq_eq_false_iff_ne.mpr ne, idx_at n2 h]
    rfl
theorem nk_erase {H : Hp} : ∀ {xs : List V} {ks : List NestedKey}, NkAll H xs ks → ∀ i : Nat, NkAll H (xs.eraseIdx i) (ks.eraseIdx i)
  | _, _, .nil, _ => .nil
  | _ :: _, _ :: _, .cons _ h, 0 => h
  | _ :: _, _ :: _, .cons n h, i + 1 => .cons n (nk_erase h i)
/-- a pair of two unlike names of the list -/
def InP (zs : List Str) (p : Str × Str) : Prop := p.1 ∈ zs ∧ p.2 ∈ zs ∧ p.1 ≠ p.2
theorem nodup_len {α : Type} {l m : List α} (nd : l.Nodup) (h : ∀ x ∈ l, x ∈ m) : l.length ≤ m.length := by
  induction l generalizing m with
  | nil => exact Nat.zero_le _
  | cons a l ih =>
    obtain ⟨h1, h2⟩ := List.nodup_cons.mp nd
    obtain ⟨s, t, rfl⟩ := List.append_of_mem (h a (.head _))
    have := ih (m := s ++ t) h2 fun x hx => by
      have := h x (.tail _ hx)
      have ne : x ≠ a := fun z => h1 (z ▸ hx)
      simp only [List.mem_append, List.mem_cons] at this ⊢
      rcases this with h | h | h
      · exact .inl h
      · exact absurd h ne
      · exact .inr h
    simp only [List.length_append, List.length_cons] at this ⊢
    omega
inductive Path (ps : List (Str × Str)) : Str → Str → Prop
  | one {a b : Str} : (a, b) ∈ ps → Path ps a b
  | more {a b c : Str} : Path ps a b → (b, c) ∈ ps → Path ps a c
theorem Path.trans {ps : List (Str × Str)} {a b c : Str} (p : Path ps a b) (q : Path ps b c) : Path ps a c := by
  induction q with
  | one h => exact .more p h
  | more _ h ih => exact .more ih h
/-- a way by sayings, told from its begin; of none it stays -/
inductive Wy (ps : List (Str × Str)) (a : Str) : Str → List (Str × Str) → Prop
  | nil : Wy ps a a []
  | snoc {b c : Str} {wp : List (Str × Str)} : Wy ps a b wp → (b, c) ∈ ps → Wy ps a c (wp ++ [(b, c)])
theorem Wy.stay {ps : List (Str × Str)} {a b : Str} {wp : List (Str × Str)} (h : Wy ps a b wp) (n : wp = []) : b = a := by
  cases h with
  | nil => rfl
  | snoc _ _ => simp at n
theorem Wy.path {ps : List (Str × Str)} {a b : Str} {wp : List (Str × Str)} (h : Wy ps a b wp) (n : wp ≠ []) : Path ps a b := by
  induction h with
  | nil => exact absurd rfl n
  | @snoc b c wp h m ih =>
    by_cases e : wp = []
    · rw [h.stay e] at m
      exact .one m
    · exact .more (ih e) m
theorem Wy.sub {ps : List (Str × Str)} {a b : Str} {wp : List (Str × Str)} (h : Wy ps a b wp) : ∀ x ∈ wp, x ∈ ps := by
  induction h with
  | nil => exact fun x hx => by cases hx
  | snoc h m ih => exact fun x hx => (List.mem_append.mp hx).elim (ih x) fun q => by rw [List.mem_singleton.mp q]; exact m
/-- the tuple of a way -/
def WT (H : Hp) (q : Addr) (wp : List (Str × Str)) : Prop := ∃ ws, H q = some (.tup ws) ∧ NkAll H ws (wp.map sayK)
theorem WT.at {H H' : Hp} {q : Addr} {wp : List (Str × Str)} (h : WT H q wp) (t : Tups H H') : WT H' q wp := by
  obtain ⟨ws, a, b⟩ := h
  exact ⟨ws, t _ _ a, b.at t⟩
abbrev WE := Str × Addr × List (Str × Str)
def keysW (es : List WE) : List Str := es.map (·.1)
def kvW (es : List WE) : List (Key × V) := es.map fun e => (Sum.inr e.1, V.ref e.2.1)
theorem valW_none {es : List WE} {x : Str} (h : x ∉ keysW es) : valV (kvW es) (.inr x) = none := by
  induction es with
  | nil => rfl
  | cons e es ih =>
    have h1 : e.1 ≠ x := fun z => h (by rw [← z]; exact .head _)
    have h2 : x ∉ keysW es := fun z => h (.tail _ z)
    show valV ((Sum.inr e.1, V.ref e.2.1) :: kvW es) (.inr x) = none
    rw [valV_neg (fun z => h1 (Sum.inr.inj z))]
    exact ih h2
theorem valW_some {es : List WE} {x : Str} (h : x ∈ keysW es) : ∃ e ∈ es, e.1 = x ∧ valV (kvW es) (.inr x) = some (.ref e.2.1) := by
  induction es with
  | nil => cases h
  | cons e es ih =>
    by_cases z : e.1 = x
    · exact ⟨e, .head _, z, by show valV ((Sum.inr e.1, V.ref e.2.1) :: kvW es) (.inr x) = _; exact valV_pos (congrArg Sum.inr z)⟩
    · obtain ⟨e2, m, a, b⟩ := ih ((List.mem_cons.mp h).resolve_left fun q => z q.symm)
      refine ⟨e2, .tail _ m, a, ?_⟩
      show valV ((Sum.inr e.1, V.ref e.2.1) :: kvW es) (.inr x) = _
      rw [valV_neg (fun q => z (Sum.inr.inj q))]
      exact b
def clW (ps : List (Str × Str)) (es : List WE) (x : Str) : Prop := ∀ p ∈ ps, p.1 = x → p.2 ∈ keysW es
structure WaysAt (H : Hp) (r : Addr) (ps : List (Str × Str)) (a : Str) (es : List WE) : Prop where
  at_ : H r = some (.dK (kvW es))
  val : ∀ e ∈ es, WT H e.2.1 e.2.2 ∧ Wy ps a e.1 e.2.2 ∧ (e.2.2.map (·.1)).Nodup ∧ e.2.2 ≠ [] ∧ (e.1 ≠ a → (e.2.2.map (·.1) ++ [e.1]).Nodup)
  nd : (keysW es).Nodup
theorem WaysAt.key {H : Hp} {r : Addr} {ps : List (Str × Str)} {a : Str} {es : List WE} (h : WaysAt H r ps a es) {x : Str} (m : x ∈ keysW es) : Path ps a x := by
  obtain ⟨e, he, rfl⟩ := List.mem_map.mp m
  exact (h.val e he).2.1.path (h.val e he).2.2.2.1
theorem WaysAt.len {H : Hp} {r : Addr} {ps : List (Str × Str)} {a : Str} {es : List WE} (h : WaysAt H r ps a es) : es.length ≤ ps.length := by
  have := nodup_len (m := ps.map (·.2)) h.nd fun x hx => by
    cases h.key hx with
    | one m => exact List.mem_map_of_mem (f := (·.2)) m
    | more _ m => exact List.mem_map_of_mem (f := (·.2)) m
  unfold keysW at this
  rw [List.length_map, List.length_map] at this
  exact this
abbrev FE := Addr × Str × Addr × List (Str × Str)
structure FrAt (H : Hp) (ps : List (Str × Str)) (a : Str) (es : List WE) (f : FE) : Prop where
  pr : H f.1 = some (.tup [.str f.2.1, .ref f.2.2.1])
  wt : WT H f.2.2.1 f.2.2.2
  wy : Wy ps a f.2.1 f.2.2.2
  own : f.2.1 = a → f.2.2.2 = [] ∨ clW ps es a
  nd : f.2.1 ≠ a → (f.2.2.2.map (·.1) ++ [f.2.1]).Nodup
  sub : ∀ x ∈ f.2.2.2.map (·.1) ++ [f.2.1], x = a ∨ x ∈ keysW es
theorem clW.mono {ps : List (Str × Str)} {es es' : List WE} {x : Str} (h : clW ps es x) (m : ∀ x ∈ keysW es, x ∈ keysW es') : clW ps es' x := fun p hp e => m _ (h p hp e)
theorem FrAt.at {H H' : Hp} {ps : List (Str × Str)} {a : Str} {es es' : List WE} {f : FE} (h : FrAt H ps a es f) (t : Tups H H') (m : ∀ x ∈ keysW es, x ∈ keysW es') : FrAt H' ps a es' f :=
  ⟨t _ _ h.pr, h.wt.at t, h.wy, fun e => (h.own e).imp id (·.mono m), h.nd, fun x hx => (h.sub x hx).imp id (m x)⟩
theorem WaysAt.tups {H H' : Hp} {r : Addr} {ps : List (Str × Str)} {a : Str} {es : List WE} (h : WaysAt H r ps a es) (t : Tups H H') (e : H' r = H r) : WaysAt H' r ps a es :=
  ⟨e.trans h.at_, fun x hx => ⟨(h.val x hx).1.at t, (h.val x hx).2⟩, h.nd⟩
theorem closed_all {ps : List (Str × Str)} {es : List WE} {a b : Str} (h : ∀ x, x = a ∨ x ∈ keysW es → clW ps es x) (p : Path ps a b) : b ∈ keysW es := by
  induction p with
  | one m => exact h a (.inl rfl) _ m rfl
  | more _ m ih => exact h _ (.inr ih) _ m rfl
def spWays : Sp := fun vs H Q _ => ∃ (s : Addr) (ys : List V) (ps : List (Str × Str)) (a : Str), vs = [.ref s, .str a] ∧ H s = some (.tup ys) ∧ NkAll H ys (ps.map sayK) ∧ ps.length ≤ 80 ∧ (∀ p ∈ ps, p.1 ≠ p.2) ∧
  ∀ r es H', Same H H' → H r = none → WaysAt H' r ps a es → (∀ b, Path ps a b → b ∈ keysW es) → Q (.ref r) H'
/-- way + (saying,) -/
theorem cat_say {K : PySem.W.Frag} {H : Hp} {q : Addr} {wp : List (Str × Str)} {y : Addr} {p : Str × Str} {Q : V → Hp → Prop} (h : WT H q wp) (hy : H y = some (.tup [.str p.1, .str p.2])) (l : wp.length ≤ 100) (k : ∀ r H', Same H H' → H r = none → WT H' r (wp ++ [p]) → Q (.ref r) H') :
    1 ≤ sizeLine ∧ ∀ c, H c = none → rCatA K (.ref q) (.ref c) (upd H c (.tup [.ref y])) Q := by
  obtain ⟨ws, hq, nk⟩ := h
  have lw : ws.length = wp.length := by have := nk.length; rw [List.length_map] at this; exact this
  refine ⟨by decide, fun c nc => ?_⟩
  have sc := same_upd (o := .tup [.ref y]) nc
  have ny : Nk (upd H c (.tup [.ref y])) (.ref y) (sayK p) := nk_say (sc _ _ hy)
  refine ⟨q, c, ws, [.ref y], rfl, rfl, .inl (.inl (sc _ _ hq)), .inl (.inl upd_same), Nat.le_trans (show _ ≤ 1000 by rw [List.length_singleton]; omega) (by decide), fun e => ?_, fun _ e => (by cases e), fun _ _ r nr => ?_⟩
  · subst e
    have e0 : wp = [] := List.length_eq_zero_iff.mp (by rw [← lw]; rfl)
    subst e0
    exact k c _ sc nc ⟨_, upd_same, .cons ny .nil⟩
  · have sr := same_upd (o := .tup (ws ++ [.ref y])) nr
    refine k r _ (sc.trans sr) (upd_free nr).2 ⟨_, upd_same, ?_⟩
    rw [List.map_append]
    exact (((nk.at (.same sc)).app (.cons ny .nil))).at (.same sr)
theorem tups_dK {H : Hp} {R : Addr} {kvs : List (Key × V)} {o : HO} (h : H R = some (.dK kvs)) : Tups H (upd H R o) := fun b xs e => by
  rw [upd_ne (fun z => by rw [z, h] at e; cases e)]
  exact e
theorem keysW_app {es : List WE} {e : WE} {x : Str} : x ∈ keysW (es ++ [e]) ↔ x ∈ keysW es ∨ x = e.1 := by
  unfold keysW
  rw [List.map_append, List.mem_append]
  exact or_congr Iff.rfl (by rw [List.map_singleton, List.mem_singleton])
/-- what stands while the walk goes on -/
structure StW (H Hx : Hp) (R F G : Addr) (ps : List (Str × Str)) (a : Str) (fe fu : List FE) (es : List WE) : Prop where
  sm : Same H Hx
  wa : WaysAt Hx R ps a es
  hF : Hx F = some (.lst (fu.map fun f => V.ref f.1))
  hG : Hx G = some (.lst (fe.map fun f => V.ref f.1))
  fr : ∀ f ∈ fe, FrAt Hx ps a es f
  fn : ∀ f ∈ fu, FrAt Hx ps a es f ∧ (f.2.1 = a → clW ps es a)
theorem ok_ways (T : Tx K mg w) : FnOk P w K mg base CX0 1 T.f_ways_from T.d_ways_from ["some", "a"] (spWays) := by
  refine T.F_ways_from.ok S_ways_from (fun vs H Q E h => ?_) (fun cdv A outer s H vs Q E hr h => ?_)
  · obtain ⟨s, ys, ps, a, rfl, _⟩ := h
    rfl
  · obtain ⟨s, ys, ps, a, rfl, hs, nk, l40, un, q⟩ := h
    have lys : ys.length = ps.length := by have := nk.length; rw [List.length_map] at this; exact this
    refine ⟨_, (pss_cons (ps_set (i := 2) S_ways_from.nd rfl (.inl rfl) pe_dnewK)
      (pss_cons (ps_set (i := 3) S_ways_from.nd rfl (.inl rfl) (pe_lst (pa_cons (pe_tup (pa_cons (pv 1) (pa_cons (pe_tup pa_nil) pa_nil))) pa_nil)))
      (pss_cons (ps_while PassesOwn.never (pt_truth (pv 3) (by intro _; rfl)) (pss_cons (ps_set (i := 4) S_ways_from.nd rfl (.inl rfl) (pe_lst pa_nil))
      (pss_cons (ps_for PassesOwn.never rfl (pi_list (pv 3)) (pg_tup rfl (pgs_cons (pg_name (i := 5) S_ways_from.nd rfl (.inl rfl)) (pgs_cons (pg_name (i := 6) S_ways_from.nd rfl (.inl rfl)) pgs_nil)))
      (pss_one (ps_for PassesOwn.never rfl (pi_tup (pv 0)) (pg_name (i := 7) S_ways_from.nd rfl (.inl rfl))
      (pss_one (ps_if (PW.pt (pw_and (pt_cmpR op_eq (pe_ix ix_tup (pv 7) pe_int (fun _ _ => rfl)) (pv 5) (nomark _)) (pw_and1 (pt_cmp (pc_dnotin (hu_of hr) (pe_ix ix_tup (pv 7) pe_int (fun _ _ => rfl)) (pv 2)))))) (pss_cons (ps_dput (hu_of hr) (pv 2) (pe_ix ix_tup (pv 7) pe_int (fun _ _ => rfl)) (pe_op op_catA (pv 6) (pe_tup (pa_cons (pv 7) pa_nil))) rfl)
      (pss_one (ps_expr (pe_bm PySem.F.plainAttrs_list PySem.F.slot_list_append PySem.F.type_list_append mt_append (pv 4) (pa_cons (pe_tup (pa_cons (pe_ix ix_tup (pv 7) pe_int (fun _ _ => rfl)) (pa_cons (pe_op op_catA (pv 6) (pe_tup (pa_cons (pv 7) pa_nil))) pa_nil))) pa_nil))))) pss_nil)))))
      (pss_one (ps_set (i := 3) S_ways_from.nd rfl (.inl rfl) (pv 4))))))
      (pss_one (ps_ret (pv 2)))))), ?_⟩
    refine fun R nR => ?_
    have s0 := same_upd (o := .dK []) nR
    refine ⟨_, rfl, sz (by show 0 ≤ 1000; decide), fun c0 n0 => ⟨sz (by show 2 ≤ 1000; decide), fun c1 n1 => ⟨sz (by show 1 ≤ 1000; decide), fun G nG => ?_⟩⟩⟩
    have s1 := same_upd (o := .tup []) n0
    have s2 := same_upd (o := .tup [.str a, .ref c0]) n1
    have s3 := same_upd (o := .lst [.ref c1]) nG
    have hR := s3 _ _ (s2 _ _ (s1 _ _ (upd_same (H := H) (a := R) (o := .dK []))))
    have hc0 := s3 _ _ (s2 _ _ (upd_same (H := upd H R (.dK [])) (a := c0) (o := .tup [])))
    have hc1 := s3 _ _ (upd_same (H := upd (upd H R (.dK [])) c0 (.tup [])) (a := c1) (o := .tup [.str a, .ref c0]))
    have hG := upd_same (H := upd (upd (upd H R (.dK [])) c0 (.tup [])) c1 (.tup [.str a, .ref c0])) (a := G) (o := .lst [.ref c1])
    have sA := ((s0.trans s1).trans s2).trans s3
    generalize upd (upd (upd (upd H R (.dK [])) c0 (.tup [])) c1 (.tup [.str a, .ref c0])) G (.lst [.ref c1]) = H1 at hR hc0 hc1 hG sA ⊢
    refine ⟨fun m σ Hx => ∃ (y4 y5 y6 y7 : Option V) (G : Addr) (fe : List FE) (es : List WE), σ = [some (.ref s), some (.str a), some (.ref R), some (.ref G), y4, y5, y6, y7] ∧ Same H Hx ∧ WaysAt Hx R ps a es ∧ Hx G = some (.lst (fe.map fun f => V.ref f.1)) ∧ (∀ f ∈ fe, FrAt Hx ps a es f) ∧ (∀ x, x = a ∨ x ∈ keysW es → x ∈ fe.map (·.2.1) ∨ clW ps es x) ∧ ((∀ f ∈ fe, f.2.1 = a) ∨ clW ps es a) ∧ m = (ps.length - es.length) + (if fe = [] then 0 else 1), ⟨_, _, _, _, _, G, [(c1, a, c0, [])], [], rfl, sA, ⟨hR, (fun e he => by cases he), List.nodup_nil⟩, hG, ?_, ?_, .inl (fun f hf => by rw [List.mem_singleton.mp hf]), rfl⟩, ?_⟩
    · intro f hf
      rw [List.mem_singleton.mp hf]
      exact ⟨hc1, ⟨[], hc0, .nil⟩, .nil, fun _ => .inl rfl, fun _ => by simp, fun x hx => .inl (by simpa using hx)⟩
    · rintro x (rfl | h)
      · exact .inl (.head _)
      · cases h
    clear hR hc0 hc1 hG sA nG n1 n0
    rintro m σ Hx ⟨y4, y5, y6, y7, G, fe, es, rfl, sx, wa, hG, fr, cov, ph, em⟩
    refine ⟨_, rfl, _, .inl ⟨_, .inl (.inl hG), rfl⟩, ite2 (fun e => ?_) (fun e => ?_)⟩
    · have ne : fe ≠ [] := fun z => by rw [z] at e; cases e
      rw [if_neg ne] at em
      refine ⟨_, fun σ' H' h => h, ?_⟩
      refine ⟨sz (by show 0 ≤ 1000; decide), fun F nF => ?_⟩
      have sF := same_upd (o := .lst []) nF
      have GF : G ≠ F := ne_of_none hG nF
      have fF : H F = none := by
        cases e : H F with
        | none => rfl
        | some o => rw [sx _ _ e] at nF; cases nF
      have st0 : StW H (upd Hx F (.lst [])) R F G ps a fe [] es := ⟨sx.trans sF, wa.tups (.same sF) (by rw [sF _ _ wa.at_, wa.at_]), upd_same, sF _ _ hG, fun f hf => (fr f hf).at (.same sF) (fun _ h => h), fun f hf => by cases hf⟩
      generalize upd Hx F (.lst []) = H2 at st0 ⊢
      have l0 := wa.len
      clear fr hG wa sx nF sF
      refine ⟨_, rfl, G, rfl, ⟨_, .inl (.inl st0.hG)⟩, ?_⟩
      refine for_list (xs := fe.map fun f => V.ref f.1) (fun i σ Hy => ∃ (y5 y6 y7 : Option V) (fu : List FE) (ez : List WE), σ = [some (.ref s), some (.str a), some (.ref R), some (.ref G), some (.ref F), y5, y6, y7] ∧ StW H Hy R F G ps a fe fu ez ∧ (∀ x, x = a ∨ x ∈ keysW ez → x ∈ fu.map (·.2.1) ∨ x ∈ (fe.drop i).map (·.2.1) ∨ clW ps ez x) ∧ ez.length = es.length + fu.length ∧ ((∀ f ∈ fe, f.2.1 = a) ∨ clW ps ez a)) ⟨_, _, _, [], es, rfl, st0, fun x hx => .inr (cov x hx), rfl, ph⟩ ?_ ?_ ?_
      · rintro i σ Hy hi ⟨_, _, _, _, _, _, st, _⟩
        exact .inl (.inl st.hG)
      · rintro i v σ Hy hv ⟨y5, y6, y7, fu, ez, rfl, st, cv, lz, ph2⟩
        obtain ⟨f, hf, rfl⟩ : ∃ f, fe[i]? = some f ∧ v = V.ref f.1 := by
          rw [List.getElem?_map] at hv
          cases e : fe[i]? with
          | none => rw [e] at hv; cases hv
          | some y => rw [e] at hv; exact ⟨y, rfl, (Option.some.inj hv).symm⟩
        have mf := List.mem_of_getElem? hf
        have dr : fe.drop i = f :: fe.drop (i + 1) := List.drop_eq_getElem?_toList_append.trans (by rw [hf]; rfl)
        refine ⟨f.1, _, rfl, .inl (.inl (st.fr f mf).pr), rfl, _, _, rfl, _, _, rfl, rfl, ?_⟩
        refine ⟨_, rfl, s, rfl, ⟨_, .inl (.inl (st.sm _ _ hs))⟩, ?_⟩
        refine for_tup (xs := ys) (fun k σ Hz => ∃ (y7 : Option V) (fu : List FE) (ez : List WE), σ = [some (.ref s), some (.str a), some (.ref R), some (.ref G), some (.ref F), some (.str f.2.1), some (.ref f.2.2.1), y7] ∧ StW H Hz R F G ps a fe fu ez ∧ (∀ x, x = a ∨ x ∈ keysW ez → x ∈ fu.map (·.2.1) ∨ x ∈ (fe.drop (i + 1)).map (·.2.1) ∨ x = f.2.1 ∨ clW ps ez x) ∧ ez.length = es.length + fu.length ∧ ((∀ f ∈ fe, f.2.1 = a) ∨ clW ps ez a) ∧ ∀ p ∈ ps.take k, p.1 = f.2.1 → p.2 ∈ keysW ez) ⟨_, fu, ez, rfl, st, fun x hx => ?_, lz, ph2, fun p hp => by rw [List.take_zero] at hp; cases hp⟩ ?_ ?_ ?_
        · rcases cv x hx with h | h | h
          · exact .inl h
          · rw [dr, List.map_cons] at h
            rcases List.mem_cons.mp h with h | h
            · exact .inr (.inr (.inl h))
            · exact .inr (.inl h)
          · exact .inr (.inr (.inr h))
        · rintro k σ Hz hk ⟨_, _, _, _, st, _⟩
          exact .inl (.inl (st.sm _ _ hs))
        · clear st cv lz ph2
          rintro k v σ Hz hv2 ⟨y7, fu, ez, rfl, st, cv, lz, ph2, dn⟩
          obtain ⟨kk, hk2, nx⟩ := nk.get hv2
          obtain ⟨p, hp, rfl⟩ : ∃ p, ps[k]? = some p ∧ kk = sayK p := by
            rw [List.getElem?_map] at hk2
            cases e : ps[k]? with
            | none => rw [e] at hk2; cases hk2
            | some y => rw [e] at hk2; exact ⟨y, rfl, (Option.some.inj hk2).symm⟩
          obtain ⟨y, rfl, hy⟩ := say_nk nx
          have hyz := st.sm _ _ hy
          have mp := List.mem_of_getElem? hp
          have tk : ps.take (k + 1) = ps.take k ++ [p] := by rw [List.take_add_one, hp]; rfl
          have skip : (p.1 = f.2.1 → p.2 ∈ keysW ez) → ∀ p' ∈ ps.take (k + 1), p'.1 = f.2.1 → p'.2 ∈ keysW ez := fun h p' hp' e => by
            rw [tk] at hp'
            rcases List.mem_append.mp hp' with q | q
            · exact dn p' q e
            · rw [List.mem_singleton.mp q] at e ⊢
              exact h e
          refine ⟨_, rfl, y, _, 0, .str p.1, rfl, rfl, .inl (.inl hyz), rfl, _, rfl, rfl, _, rfl, ite2 (fun e => ?_) (fun e => ?_)⟩
          · have e : p.1 = f.2.1 := V.str.inj (of_decide_eq_true e)
            by_cases mk : p.2 ∈ keysW ez
            · obtain ⟨en, _, _, ev⟩ := valW_some mk
              refine ⟨_, rfl, y, _, 1, .str p.2, rfl, rfl, .inl (.inl hyz), rfl, _, rfl, R, _, rfl, DGet.k (k := .inr p.2) st.wa.at_, ?_⟩
              rw [ev]
              exact ⟨_, rfl, ⟨_, fu, ez, rfl, st, cv, lz, ph2, skip fun _ => mk⟩⟩
            · refine ⟨_, rfl, y, _, 1, .str p.2, rfl, rfl, .inl (.inl hyz), rfl, _, rfl, R, _, rfl, DGet.k (k := .inr p.2) st.wa.at_, ?_⟩
              rw [valW_none mk]
              have fm := st.fr f mf
              have nda : f.2.1 = a → f.2.2.2 = [] := fun z => (fm.own z).elim id fun c => absurd (c p mp (e.trans z)) mk
              have nd1 : (f.2.2.2.map (·.1) ++ [f.2.1]).Nodup := by
                by_cases z : f.2.1 = a
                · rw [nda z]; simp
                · exact fm.nd z
              have pe : p = (f.2.1, p.2) := by rw [← e]
              have wy1 : Wy ps a p.2 (f.2.2.2 ++ [p]) := by
                have := Wy.snoc fm.wy (by rw [← pe]; exact mp : (f.2.1, p.2) ∈ ps)
                rw [← pe] at this
                exact this
              have nd2 : ((f.2.2.2 ++ [p]).map (·.1)).Nodup := by
                rw [List.map_append, List.map_singleton, e]
                exact nd1
              have lw : (f.2.2.2 ++ [p]).length ≤ 80 := by
                have := nodup_len (m := ps.map (·.1)) nd2 fun x hx => by
                  obtain ⟨g, hg, rfl⟩ := List.mem_map.mp hx
                  exact List.mem_map_of_mem (f := (·.1)) (wy1.sub g hg)
                rw [List.length_map, List.length_map] at this
                omega
              rw [List.length_append, List.length_singleton] at lw
              have lz2 := st.wa.len
              refine ⟨_, rfl, ?_⟩
              refine ⟨_, rfl, _, rfl, cat_say fm.wt hyz (by omega) fun r1 H3 s3 f3 w3 => ?_⟩
              refine ⟨_, rfl, _, rfl, y, _, 1, .str p.2, rfl, rfl, .inl (.inl (s3 _ _ hyz)), rfl, R, _, rfl, DPut.k (k := .inr p.2) (s3 _ _ st.wa.at_) (small1000 (by unfold kvW; rw [List.length_map]; omega)), ?_⟩
              rw [putK_new _ (valW_none mk)]
              have hR3 := s3 _ _ st.wa.at_
              have tR : Tups H3 (upd H3 R (.dK (kvW ez ++ [(.inr p.2, .ref r1)]))) := tups_dK hR3
              have RF : R ≠ F := fun z => by have := st.hF; rw [← z, st.wa.at_] at this; cases this
              have RG : R ≠ G := fun z => by have := st.hG; rw [← z, st.wa.at_] at this; cases this
              have hF4 : upd H3 R (.dK (kvW ez ++ [(.inr p.2, .ref r1)])) F = _ := (upd_ne RF.symm).trans (s3 _ _ st.hF)
              have hG4 : upd H3 R (.dK (kvW ez ++ [(.inr p.2, .ref r1)])) G = _ := (upd_ne RG.symm).trans (s3 _ _ st.hG)
              have hR4 := upd_same (H := H3) (a := R) (o := .dK (kvW ez ++ [(.inr p.2, .ref r1)]))
              have sm4 := same_fresh (o := .dK (kvW ez ++ [(.inr p.2, .ref r1)])) nR (st.sm.trans s3)
              have t4 := (Tups.same s3).trans tR
              have w4 := w3.at tR
              generalize upd H3 R (.dK (kvW ez ++ [(.inr p.2, .ref r1)])) = H4 at hF4 hG4 hR4 sm4 t4 w4 ⊢
              refine ⟨_, rfl, .inl ⟨rfl, _, .inl (.inl hF4)⟩, ?_⟩
              refine ⟨_, rfl, y, _, 1, .str p.2, rfl, rfl, .inl (.inl (t4 _ _ hyz)), rfl, _, rfl, _, rfl, cat_say (fm.wt.at t4) (t4 _ _ hyz) (by omega) fun r2 H5 s5 f5 w5 => ⟨sz (by show 2 ≤ 1000; decide), fun c nc => ?_⟩⟩
              have s6 := same_upd (o := .tup [.str p.2, .ref r2]) nc
              have s56 := s5.trans s6
              have hF6 := s56 _ _ hF4
              refine ⟨F, _, .ref c, rfl, rfl, hF6, small1000 (by rw [List.length_map]; omega), ?_⟩
              have hc := upd_same (H := H5) (a := c) (o := .tup [.str p.2, .ref r2])
              have w6 := w5.at (.same s6)
              have hR6 := s56 _ _ hR4
              have hG6 := s56 _ _ hG4
              have sm6 := sm4.trans s56
              have t6 := t4.trans (.same s56)
              have w46 := w4.at (.same s56)
              generalize upd H5 c (.tup [.str p.2, .ref r2]) = H6 at hF6 hc w6 hR6 hG6 sm6 t6 w46 ⊢
              have tF := tups_lst (o := .lst (fu.map (fun f => V.ref f.1) ++ [.ref c])) hF6
              have t7 := t6.trans tF
              have up : ∀ x ∈ keysW ez, x ∈ keysW (ez ++ [(p.2, r1, f.2.2.2 ++ [p])]) := fun x hx => keysW_app.mpr (.inl hx)
              have own : p.2 = a → clW ps (ez ++ [(p.2, r1, f.2.2.2 ++ [p])]) a := fun z => ph2.elim (fun h => absurd (e.trans ((h f mf).trans z.symm)) (un p mp)) fun h => h.mono up
              have nd3 : p.2 ≠ a → ((f.2.2.2 ++ [p]).map (·.1) ++ [p.2]).Nodup := fun z => by
                rw [List.nodup_append]
                refine ⟨nd2, by simp, fun x hx u hu => ?_⟩
                rw [List.mem_singleton.mp hu]
                rw [List.map_append, List.map_singleton, e] at hx
                intro q
                rcases fm.sub x hx with h | h
                · exact z (q.symm.trans h)
                · exact mk (by rw [← q]; exact h)
              refine ⟨_, fu ++ [(c, p.2, r2, f.2.2.2 ++ [p])], ez ++ [(p.2, r1, f.2.2.2 ++ [p])], rfl, ⟨same_fresh fF sm6, ⟨?_, ?_, ?_⟩, ?_, (upd_ne GF).trans hG6, fun g hg => (st.fr g hg).at t7 up, ?_⟩, ?_, ?_, ph2.imp id (·.mono up), ?_⟩
              · rw [upd_ne RF, hR6]
                unfold kvW
                rw [List.map_append]
                rfl
              · intro g hg
                rcases List.mem_append.mp hg with h | h
                · exact ⟨(st.wa.val g h).1.at t7, (st.wa.val g h).2⟩
                · rw [List.mem_singleton.mp h]
                  exact ⟨w46.at tF, wy1, nd2, by simp, nd3⟩
              · unfold keysW
                rw [List.map_append, List.nodup_append]
                refine ⟨st.wa.nd, by simp, fun x hx z hz => ?_⟩
                rw [List.map_singleton, List.mem_singleton] at hz
                have hz : z = p.2 := hz
                exact fun q => mk (by rw [← hz, ← q]; exact hx)
              · rw [upd_same, List.map_append]
                rfl
              · intro g hg
                rcases List.mem_append.mp hg with h | h
                · exact ⟨(st.fn g h).1.at t7 up, fun z => ((st.fn g h).2 z).mono up⟩
                · rw [List.mem_singleton.mp h]
                  refine ⟨⟨tF _ _ hc, w6.at tF, wy1, fun z => .inr (own z), fun z => ?_, fun x hx => ?_⟩, own⟩
                  · show ((f.2.2.2 ++ [p]).map (·.1) ++ [p.2]).Nodup
                    rw [List.nodup_append]
                    refine ⟨nd2, by simp, fun x hx u hu => ?_⟩
                    rw [List.mem_singleton.mp hu]
                    rw [List.map_append, List.map_singleton, e] at hx
                    intro q
                    rcases fm.sub x hx with h | h
                    · exact z (q.symm.trans h)
                    · exact mk (by rw [← q]; exact h)
                  · have hx : x ∈ (f.2.2.2 ++ [p]).map (·.1) ++ [p.2] := hx
                    rcases List.mem_append.mp hx with h | h
                    · rw [List.map_append, List.map_singleton, e] at h
                      exact (fm.sub x h).imp id (up x)
                    · rw [List.mem_singleton.mp h]
                      exact .inr (keysW_app.mpr (.inr rfl))
              · intro x hx
                have : (x = a ∨ x ∈ keysW ez) ∨ x = p.2 := by
                  rcases hx with h | h
                  · exact .inl (.inl h)
                  · exact (keysW_app.mp h).imp .inr id
                rcases this with h | h
                · rcases cv x h with h | h | h | h
                  · exact .inl (by rw [List.map_append]; exact List.mem_append_left _ h)
                  · exact .inr (.inl h)
                  · exact .inr (.inr (.inl h))
                  · exact .inr (.inr (.inr (h.mono up)))
                · exact .inl (by rw [List.map_append, h]; exact List.mem_append_right _ (.head _))
              · rw [List.length_append, List.length_append, lz]
                show _ + 1 = _ + (_ + 1)
                omega
              · intro p' hp' e'
                rw [tk] at hp'
                rcases List.mem_append.mp hp' with h | h
                · exact up _ (dn p' h e')
                · rw [List.mem_singleton.mp h]
                  exact keysW_app.mpr (.inr rfl)
          · have e : ¬ p.1 = f.2.1 := fun z => e (by rw [z]; exact decide_eq_true rfl)
            exact ⟨_, fu, ez, rfl, st, cv, lz, ph2, skip fun z => absurd z e⟩
        · rintro σ Hz ⟨y7, fu, ez, rfl, st, cv, lz, ph2, dn⟩
          rw [lys, List.take_of_length_le (Nat.le_refl _)] at dn
          refine ⟨_, _, _, fu, ez, rfl, st, fun x hx => ?_, lz, ph2⟩
          rcases cv x hx with h | h | h | h
          · exact .inl h
          · exact .inr (.inl h)
          · subst h
            exact .inr (.inr dn)
          · exact .inr (.inr h)
      · rintro σ Hy ⟨y5, y6, y7, fu, ez, rfl, st, cv, lz, ph2⟩
        rw [List.length_map, List.drop_length] at cv
        have cv2 : ∀ x, x = a ∨ x ∈ keysW ez → x ∈ fu.map (·.2.1) ∨ clW ps ez x := fun x hx => (cv x hx).imp id fun h => h.elim (fun h => by cases h) id
        refine ⟨_, rfl, ?_⟩
        have l2 := st.wa.len
        refine ⟨_, ?_, _, _, _, _, F, fu, ez, rfl, st.sm, st.wa, st.hF, fun g hg => (st.fn g hg).1, cv2, ?_, rfl⟩
        · rw [em]
          cases fu with
          | nil => rw [List.length_nil] at lz; rw [if_pos rfl]; omega
          | cons g r => rw [List.length_cons] at lz; rw [if_neg (fun z => by cases z)]; omega
        · rcases cv2 a (.inl rfl) with h | h
          · obtain ⟨g, hg, eg⟩ := List.mem_map.mp h
            exact .inr ((st.fn g hg).2 eg)
          · exact .inr h
    · have ne : fe = [] := by
        cases fe with
        | nil => rfl
        | cons => exact absurd rfl e
      subst ne
      exact ⟨_, rfl, q R es Hx sx nR wa fun b hb => closed_all (fun x hx => (cov x hx).elim (fun h => by cases h) id) hb⟩
/-- what goes_ahead tells -/
def GoesTo (H : Hp) (ps : List (Str × Str)) (a b : Str) (v : V) : Prop := (v = .non ∧ ¬ Path ps a b) ∨ ∃ (q : Addr) (wp : List (Str × Str)), v = .ref q ∧ WT H q wp ∧ Wy ps a b wp ∧ (wp.map (·.1)).Nodup ∧ wp ≠ []
def spGoes : Sp := fun vs H Q _ => ∃ (n : V) (s : Addr) (ys : List V) (ps : List (Str × Str)) (a b : Str), vs = [n, .ref s, .str a, .str b] ∧ H s = some (.tup ys) ∧ NkAll H ys (ps.map sayK) ∧ ps.length ≤ 80 ∧ (∀ p ∈ ps, p.1 ≠ p.2) ∧
  ∀ v H', Same H H' → GoesTo H' ps a b v → Q v H'
theorem ok_goes (T : Tx K mg w) : FnOk P w K mg base CX0 2 T.f_goes_ahead T.d_goes_ahead ["names", "some", "a", "b"] (spGoes) := by
  have G_ways_from : FnOk P w K mg base CX0 1 T.f_ways_from T.d_ways_from ["some", "a"] (spWays) := ok_ways T
  refine T.F_goes_ahead.ok S_goes_ahead (fun vs H Q E h => ?_) (fun cdv A outer s H vs Q E hr h => ?_)
  · obtain ⟨n, s, ys, ps, a, b, rfl, _⟩ := h
    rfl
  · obtain ⟨n, s, ys, ps, a, b, rfl, hs, nk, l40, un, q⟩ := h
    refine ⟨_, (pss_one (ps_ret (pe_dget1 (hu_of hr) (pe_call G_ways_from hr (by rfl) T.g_ways_from T.F_ways_from.kp T.b_ways_from .nil pass0 (pa_cons (pv 1) (pa_cons (pv 2) pa_nil))) (pv 3) ⟨by rfl, by rfl, by rfl, by rfl⟩))), ?_⟩
    refine ⟨_, rfl, _, rfl, s, ys, ps, a, rfl, hs, nk, l40, un, fun r es H1 s1 _ wa all => ?_⟩
    refine ⟨r, rfl, .inl ⟨_, .inl wa.at_⟩, _, rfl, _, DGet.k (k := .inr b) wa.at_, ?_⟩
    by_cases mk : b ∈ keysW es
    · obtain ⟨e, he, eb, ev⟩ := valW_some mk
      rw [ev]
      obtain ⟨w1, w2, w3, w4, _⟩ := wa.val e he
      rw [eb] at w2
      exact q _ H1 s1 (.inr ⟨e.2.1, e.2.2, rfl, w1, w2, w3, w4⟩)
    · rw [valW_none mk]
      exact q _ H1 s1 (.inl ⟨rfl, fun p => mk (all b p)⟩)
end
end L52

set_option Elab.async false
set_option linter.all false
set_option maxRecDepth 100000
set_option maxHeartbeats 2000000
/-! xs.remove(x), xs a list of texts, x its first item's like. -/
namespace My
open PySem PySem.Spec PyProof.Rows L2 PySem.SeqAt
def eqT (z : Str) (v : Value) : Bool := match v with
  | .str y _ => y == z
  | _ => false
def rRemX : V → List V → Hp → VK → Prop := fun x xs H Q => ∃ (l : Addr) (zs : List Str) (z : Str) (j : Nat), x = .ref l ∧ xs = [.str z] ∧ H l = some (.lst (zs.map V.str)) ∧ zs[j]? = some z ∧ (∀ m : Nat, m < j → zs[m]? ≠ some z) ∧ zs.length ≤ 1000 ∧ Q .non (upd H l (.lst ((zs.eraseIdx j).map V.str)))
theorem erase_mapS : ∀ (l : List Str) (j : Nat), (l.map V.str).eraseIdx j = (l.eraseIdx j).map V.str
  | [], _ => rfl
  | _ :: _, 0 => rfl
  | a :: r, j + 1 => by
    show V.str a :: (r.map V.str).eraseIdx j = V.str a :: (r.eraseIdx j).map V.str
    rw [erase_mapS r j]
theorem mt_removeX {X : Cx} : MtM X "list.remove" rRemX := by
  intro pins s σ H x xs v us Q I rx rxs h
  obtain ⟨l, zs, z, j, rfl, rfl, hH, hj, hno, lz, q⟩ := h
  cases rx
  obtain ⟨u, rfl, ru⟩ := rxs.one
  obtain ⟨t, rfl⟩ := ru
  obtain ⟨zz, its, n, r, hl, e⟩ := I.lstM hH
  rw [List.length_map] at hl
  have li := r.length
  rw [List.length_map] at li
  have each : ∀ (m : Nat) (hm : m < its.toArray.size), ∃ y t', zs[m]? = some y ∧ its.toArray[m] = Value.str y t' := fun m hm => by
    rw [List.size_toArray] at hm
    have lm : m < zs.length := by omega
    obtain ⟨w, hw, t', e⟩ := r.get (i := m) (x := .str zs[m]) (by rw [List.getElem?_map, List.getElem?_eq_getElem lm]; rfl)
    have e2 := (List.getElem?_eq_some_iff.mp hw).2
    exact ⟨zs[m], t', List.getElem?_eq_getElem lm, by rw [List.getElem_toArray, e2]; exact e⟩
  have hjn : j < zs.length := (List.getElem?_eq_some_iff.mp hj).1
  have hjl : j < its.toArray.size := by rw [List.size_toArray]; omega
  refine call_meets PySem.F.slot_list_remove ⟨_, e, rfl⟩ PySem.F.entry_list_remove (PySem.F.args_list_remove_2 _ _)
    (MeetsSeq.list_remove l its.toArray n (.str z t) (eqT z) (fun y hy => ?_) j hjl ?_ ?_ (by rw [List.size_toArray, sizeLine_eq]; omega)) ⟨e, ?_⟩
  · obtain ⟨m, hm, rfl⟩ := Array.mem_iff_getElem.mp hy
    obtain ⟨y, t', _, e2⟩ := each m hm
    rw [e2]
    show MeetsSeq.EqGives _ _ (y == z)
    rw [← str_beq]
    exact SeqRoads2.EqGives.str y z t' t
  · obtain ⟨y, t', h1, h2⟩ := each j hjl
    obtain rfl : z = y := Option.some.inj (hj.symm.trans h1)
    rw [h2]
    exact beq_self_eq_true z
  · intro m hm hmj
    obtain ⟨y, t', h1, h2⟩ := each m hm
    rw [h2]
    exact beq_eq_false_iff_ne.mpr fun e2 => hno m hmj (by rw [h1, e2])
  · have rr := r.eraseIdx j
    rw [erase_mapS] at rr
    refine ⟨.non, _, I.lset (its' := its.eraseIdx j) (t' := s.toks) hH e ?_ rr ?_, rfl, q⟩
    · show its.toArray.eraseIdxIfInBounds j = (its.eraseIdx j).toArray
      rw [List.eraseIdxIfInBounds_toArray]
    · have := List.length_eraseIdx_le zs j
      rw [List.length_map]
      exact Nat.le_trans this (sz lz)
end My

set_option Elab.async false
set_option linter.all false
set_option maxRecDepth 100000
set_option maxHeartbeats 2000000
namespace L52
open PySem PySem.Spec PyProof.Rows L2 LT
open My hiding Tbs Gk Tk
section
variable {P : Program} {w : World} {K : PySem.W.Frag} {mg : Str → Option Value} {base : Heap}
theorem lamTab {c P : Addr} (h : GxR.TabB base mg c P) : LamX.TabB base mg c P := ⟨h.1, h.2, h.3⟩
/-- what first_place makes of a lambda's reading: asked of 0, 1, .. till it tells True -/
def TTf (K : PySem.W.Frag) : V → (V → Hp → VK → Prop) → Hp → VK → Prop := fun v tl H Q => ∃ (th : Addr) (xs : List V) (Pv : Nat → Hp → Prop), v = .ref th ∧ (SqL K H th xs ∨ SqT K H th xs) ∧ xs.length ≤ 1000 ∧ Pv 0 H ∧ (∀ (i : Nat) H', i < xs.length → Pv i H' → Same H H' ∧ ∀ R : VK, (∀ b H'', (b = true → ∀ p, H'' p = none → Q (.ref p) (upd H'' p (.tup [.int (0 + (i : Int))]))) → (b = false → Pv (i + 1) H'') → R (.bl b) H'') → tl (.int (0 + (i : Int))) H' R) ∧ ∀ H', Pv xs.length H' → Q .non H'
theorem first_gives {X : Cx} (T : Tx X.K X.mg X.w) (q : Str) (cdv : Value) : LM.Gives1 X N_first_place "first_place" (defScope s_first_place) T.f_first_place cdv (defBody s_first_place) "is_amiss" q (TTf X.K) := by
  intro v f c' s H Q tl act hc h
  obtain ⟨th, xs, Pv, rfl, hx, l1000, p0, step, fin⟩ := h
  refine ⟨_, (pss_cons (ps_for PassesOwn.never rfl (pi_range1 (by rfl) T.m_range (pa_cons (pe_callB call_len_seq (by rfl) T.m_len PySem.boot_len (pa_cons (pv 0) pa_nil)) pa_nil)) (pg_name (i := 2) S_first_place.nd rfl (.inl rfl))
      (pss_one (ps_if (pt_val (act _ _ _ _ _ _ (pv 2) rfl)) (pss_one (ps_ret (pe_tup (pa_cons (pv 2) pa_nil)))) pss_nil)))
      (pss_one (ps_ret pe_non))), ?_⟩
  refine ⟨_, rfl, th, xs, rfl, hx, xs.length, rfl, by omega, by omega, ?_⟩
  refine for_range (lo := 0) (n := xs.length) (fun i σ Hx => (∃ y2, σ = [some (.ref th), some (.ref f), y2]) ∧ Pv i Hx) ⟨⟨_, rfl⟩, p0⟩ ?_ ?_
  · rintro i σ Hx hi ⟨⟨y2, rfl⟩, pv⟩
    obtain ⟨sm, go⟩ := step i Hx hi pv
    refine ⟨rfl, _, rfl, sm _ _ hc, go _ fun b H'' yes no => ?_⟩
    refine ⟨_, rfl, ite2 (fun e => ?_) (fun e => ?_)⟩
    · exact ⟨_, rfl, sz (by show 1 ≤ 1000; decide), fun p np => yes e p np⟩
    · exact ⟨⟨_, rfl⟩, no (by simpa using e)⟩
  · rintro σ Hx ⟨⟨y2, rfl⟩, pv⟩
    exact fin Hx pv
theorem say_at {H : Hp} : ∀ {ws : List V} {wp : List (Str × Str)} {i : Nat} {p : Str × Str}, NkAll H ws (wp.map sayK) → wp[i]? = some p → ∃ y, ws[i]? = some (.ref y) ∧ H y = some (.tup [.str p.1, .str p.2])
  | [], [], _, _, _, h => by cases h
  | x :: ws, q :: wp, 0, p, h, e => by
    cases h with
    | cons n h =>
      have e : q = p := Option.some.inj e
      subst e
      obtain ⟨y, rfl, hy⟩ := say_nk n
      exact ⟨y, rfl, hy⟩
  | x :: ws, q :: wp, i + 1, p, h, e => by
    cases h with
    | cons n h =>
      obtain ⟨y, a, b⟩ := say_at h (show wp[i]? = some p from e)
      exact ⟨y, a, b⟩
theorem at_prev {α : Type} (xs : List α) {i : Nat} (h : i < xs.length) : atI xs ((i : Int) - 1) = xs[if i = 0 then xs.length - 1 else i - 1]? := by
  unfold atI ixN
  by_cases e : i = 0
  · subst e
    rw [if_neg (by omega), if_pos (by omega), if_pos rfl]
    show xs[_]? = _
    congr 1
    omega
  · rw [if_pos (by omega), if_pos (by omega), if_neg e]
    show xs[_]? = _
    congr 1
    omega
theorem cut_nat {xs : List V} {z : Int} {i : Nat} (e : z = (i : Int)) (h : i ≤ xs.length) : cutV xs none (some z) = xs.take i := by
  subst e
  unfold cutV
  rw [HT.sIx_none, HT.sIx_nat, List.drop_zero, Nat.min_eq_left h, Nat.sub_zero]
/-- a ring of the sayings -/
def IsRing (ps wp : List (Str × Str)) : Prop := wp ≠ [] ∧ (∀ x ∈ wp, x ∈ ps) ∧ (∀ (i : Nat) (x y : Str × Str), wp[i]? = some x → atI wp ((i : Int) - 1) = some y → x.1 = y.2) ∧ (wp.map (·.1)).Nodup
def spRF (T : Tx K mg w) : Sp := fun vs H Q _ => ∃ (s th : Addr) (ys : List V) (ps wp : List (Str × Str)), vs = [.ref s, .ref th] ∧ H s = some (.tup ys) ∧ NkAll H ys (ps.map sayK) ∧ WT H th wp ∧ wp.length ≤ 50 ∧ Tbs (tbs T) H ∧ (∀ H', Gk (tbs T) H H' → IsRing ps wp → Q .non H') ∧
  ∀ r pth wd us H', Gk (tbs T) H H' → ¬ IsRing ps wp → H' r = some (.tup [.str wd, .ref pth]) → H' pth = some (.tup us) → Q (.ref r) H'
theorem ok_rf (T : Tx K mg w) (B : Tb T base) : FnOk P w K mg base CX0 3 T.f_ring_fault T.d_ring_fault ["some", "thing"] (spRF T) := by
  refine T.F_ring_fault.ok S_ring_fault (fun vs H Q E h => ?_) (fun A outer s0 H vs Q E hr h => ?_)
  · obtain ⟨s, th, ys, ps, wp, rfl, _⟩ := h
    rfl
  · obtain ⟨s, th, ys, ps, wp, rfl, hs, nk, ⟨ws, hw, nw⟩, l50, hB, q0, q1⟩ := h
    have G_first_place := fun (q : Str) (cdv : Value) => first_gives (X := (cxOf CX0 P w K mg base N_ring_fault "ring_fault" (defScope s_ring_fault) T.f_ring_fault (Value.ref T.k_ring_fault) A outer s0 H E).nox) T q cdv
    refine ⟨_, (pss_cons (ps_if (PW.pt (pw_or (pt_not (pt_val (pe_callB call_isi (by rfl) T.m_isinstance (by decide +kernel) (pa_cons (pv 1) (pa_cons (pe_bltn (v := .ty "tuple") (by rfl) T.m_tuple (by decide +kernel) rfl) pa_nil))))) (pw_or1 (pt_not (pt_truth (pv 1) (by intro _; rfl)))))) (pss_one (ps_ret (pe_tup (pa_cons pe_str (pa_cons (pe_tup pa_nil) pa_nil))))) pss_nil)
      (pss_cons (ps_set (i := 2) S_ring_fault.nd rfl (.inl rfl) (LM.lamcall1 (n := 0) (k := "k") (c := T.k_ring_fault) (P := T.P_ring_fault) (by rfl) T.g_first_place T.F_first_place T.b_first_place S_first_place rfl (by first | exact .inl rfl | exact .inr (.inl rfl)) (G_first_place _) (lamTab B.b_ring_fault) rfl (hr.mono (by decide)) (show LM.Scp (defScope s_ring_fault) _ "k" from LM.scp_by (by decide +kernel)) (show ("k" : Str) ∉ N_ring_fault by decide +kernel) rfl (fun _ _ _ _ _ _ => rfl) (pv 1) rfl (fun A outer s H f c hr => (pe_cmpR (r := rInN K true) (op_notInN hr.units) (pe_ix (r := rIxT K) ix_tup (pv 1) (pv 5) (fun _ _ => rfl)) (pv 0) (by rfl)))))
      (pss_cons (ps_if (pt_cmpR op_notN (pv 2) pe_non (nomark _)) (pss_one (ps_ret (pe_tup (pa_cons pe_str (pa_cons (pv 2) pa_nil))))) pss_nil)
      (pss_cons (ps_set (i := 2) S_ring_fault.nd rfl (.inl rfl) (LM.lamcall1 (n := 0) (k := "k") (c := T.k_ring_fault) (P := T.P_ring_fault) (by rfl) T.g_first_place T.F_first_place T.b_first_place S_first_place rfl (by first | exact .inl rfl | exact .inr (.inl rfl)) (G_first_place _) (lamTab B.b_ring_fault) rfl (hr.mono (by decide)) (show LM.Scp (defScope s_ring_fault) _ "k" from LM.scp_by (by decide +kernel)) (show ("k" : Str) ∉ N_ring_fault by decide +kernel) rfl (fun _ _ _ _ _ _ => rfl) (pv 1) rfl (fun A outer s H f c hr => (pe_cmpR op_ne (pe_ix (r := rIxT K) ix_tup (pe_ix (r := rIxT K) ix_tup (pv 1) (pv 5) (fun _ _ => rfl)) pe_int (fun _ _ => rfl)) (pe_ix (r := rIxT K) ix_tup (pe_ix (r := rIxT K) ix_tup (pv 1) (pe_op op_sub (pv 5) pe_int) (fun _ _ => rfl)) pe_int (fun _ _ => rfl)) (nomark _)))))
      (pss_cons (ps_if (pt_cmpR op_notN (pv 2) pe_non (nomark _)) (pss_one (ps_ret (pe_tup (pa_cons pe_str (pa_cons (pv 2) pa_nil))))) pss_nil)
      (pss_cons (ps_set (i := 3) S_ring_fault.nd rfl (.inr rfl) (pe_lc (own := [("saying", 4)]) (g := gName 4) (tt := tYes) (by rfl) S_ring_fault.nd (pi_tup (pv 1)) (blkOk_by (own := [("saying", 4)]) (N := N_ring_fault) (sc := defScope s_ring_fault) (by decide +kernel)) (fun _ _ _ _ _ => (pg_name (i := 4) S_ring_fault.nd rfl (.inl rfl))) (fun _ _ _ _ _ => pts_nil) (fun _ _ _ _ _ => (pe_ix (r := rIxT K) ix_tup (pv 4) pe_int (fun _ _ => rfl)))))
      (pss_cons (ps_set (i := 2) S_ring_fault.nd rfl (.inl rfl) (LM.lamcall1 (n := 0) (k := "k") (c := T.k_ring_fault) (P := T.P_ring_fault) (by rfl) T.g_first_place T.F_first_place T.b_first_place S_first_place rfl (by first | exact .inl rfl | exact .inr (.inl rfl)) (G_first_place _) (lamTab B.b_ring_fault) rfl (hr.mono (by decide)) (show LM.Scp (defScope s_ring_fault) _ "k" from LM.scp_by (by decide +kernel)) (show ("k" : Str) ∉ N_ring_fault by decide +kernel) rfl (fun _ _ _ _ _ _ => rfl) (pv 1) rfl (fun A outer s H f c hr => (pe_cmpR (r := rIn K false) op_in_seq (pe_ix (r := rIxL K) ix_list (pv 3) (pv 5) (fun _ _ => rfl)) (pe_slice (r := rSlL K) sl_list (pv 3) po_none (po_some (pv 5))) (by rfl)))))
      (pss_cons (ps_if (pt_cmpR op_notN (pv 2) pe_non (nomark _)) (pss_one (ps_ret (pe_tup (pa_cons pe_str (pa_cons (pv 2) pa_nil))))) pss_nil)
      (pss_one (ps_ret pe_non)))))))))), ?_⟩
    have lw : ws.length = wp.length := by have := nw.length; rw [List.length_map] at this; exact this
    have ht : Typed H (.ref th) := .inl ⟨_, hw⟩
    obtain ⟨t1, y1, k1⟩ := ty_kind (K := K) (n := "tuple") (.inr (.inr (.inr rfl))) ht
    have kb : kindB H "tuple" (.ref th) = true := by simp [kindB, hw]
    rw [kb] at k1
    refine ⟨_, rfl, _, _, t1, _, _, rfl, .ty _, y1, k1, _, rfl, iteF ?_⟩
    refine ⟨_, rfl, _, .inr (.inl ⟨_, .inl (.inl hw), rfl⟩), ite2 (fun e => ?_) (fun e => ?_)⟩
    · have we : wp = [] := List.length_eq_zero_iff.mp (by rw [← lw]; cases ws with | nil => rfl | cons => cases e)
      refine ⟨sz (by show 0 ≤ 1000; decide), fun c0 n0 => ⟨sz (by show 2 ≤ 1000; decide), fun r nr => ?_⟩⟩
      have s1 := same_upd (o := .tup []) n0
      have s2 := same_upd (o := .tup [.str "shape", .ref c0]) nr
      exact q1 r c0 _ [] _ (.of_same (s1.trans s2) hB) (fun z => z.1 we) upd_same (s2 _ _ upd_same)
    · have wsn : ws ≠ [] := fun z => e (by rw [z]; rfl)
      have wpn : wp ≠ [] := fun z => wsn (List.length_eq_zero_iff.mp (by rw [lw, z]; rfl))
      have mT : (T.P_ring_fault, ("ring_fault" : Str) ++ (".<locals>." : Str) ++ ("<lambda>" : Str)) ∈ (tbs T).l := by simp [tbs]
      refine ⟨_, rfl, hB.lam _ mT, fun H1 md => ?_⟩
      have g1 := Gk.made hB mT md
      have hw1 := g1.tup hw
      have hs1 := g1.tup hs
      have nw1 := nw.at g1.tups
      have nk1 := nk.at g1.tups
      refine ⟨th, ws, fun i H' => H' = H1 ∧ ∀ x ∈ wp.take i, x ∈ ps, rfl, .inr (.inl (.inl hw1)), by omega, ⟨rfl, fun x hx => by rw [List.take_zero] at hx; cases hx⟩, ?_, ?_⟩
      · rintro i H' hi ⟨rfl, al⟩
        obtain ⟨x, hx⟩ : ∃ p, wp[i]? = some p := ⟨wp[i]'(by omega), List.getElem?_eq_getElem _⟩
        obtain ⟨y, hy, hyy⟩ := say_at nw1 hx
        refine ⟨fun _ _ e => e, fun R hR => ?_⟩
        refine ⟨_, rfl, _, rfl, th, _, _, .ref y, rfl, rfl, .inl (.inl hw1), at_of (j := i) (by omega) hy, _, rfl, s, ys, sayK x, _, rfl, .inr (.inl (.inl hs1)), nk_say hyy, nk1, Nat.le_trans (say_depth x) (by decide), ?_⟩
        refine hR _ _ (fun e p np => ?_) (fun e => ⟨rfl, fun z hz => ?_⟩)
        · have nx : x ∉ ps := fun h => by
            have e : (!decide (sayK x ∈ ps.map sayK)) = true := e
            rw [decide_eq_true (List.mem_map_of_mem h)] at e
            cases e
          refine ⟨_, rfl, rfl, true, rfl, iteT ?_⟩
          refine ⟨_, rfl, sz (by show 2 ≤ 1000; decide), fun r nr => ?_⟩
          have s1 := same_upd (o := .tup [.int (0 + (i : Int))]) np
          have s2 := same_upd (o := .tup [.str "saying", .ref p]) nr
          exact q1 r p _ _ _ (g1.trans (.of_same (s1.trans s2) g1.2)) (fun z => nx (z.2.1 x (List.mem_of_getElem? hx))) upd_same (s2 _ _ upd_same)
        · rw [List.take_add_one, hx] at hz
          rcases List.mem_append.mp hz with h | h
          · exact al z h
          · have ez : z = x := by simpa using h
            have e : (!decide (sayK x ∈ ps.map sayK)) = false := e
            have e2 : sayK x ∈ ps.map sayK := by
              refine Classical.byContradiction fun n => ?_
              rw [decide_eq_false n] at e
              cases e
            obtain ⟨u, hu, eu⟩ := List.mem_map.mp e2
            rw [ez, ← sayK_inj eu]
            exact hu
      · rintro H' ⟨rfl, al⟩
        rw [lw, List.take_of_length_le (Nat.le_refl _)] at al
        refine ⟨_, rfl, rfl, false, rfl, iteF ?_⟩
        refine ⟨_, rfl, g1.2.lam _ mT, fun H2 md2 => ?_⟩
        have g2 := g1.trans (Gk.made g1.2 mT md2)
        have hw2 := g2.tup hw
        have nw2 := nw.at g2.tups
        refine ⟨th, ws, fun i H' => H' = H2 ∧ ∀ (j : Nat) (x y : Str × Str), j < i → wp[j]? = some x → atI wp ((j : Int) - 1) = some y → x.1 = y.2, rfl, .inr (.inl (.inl hw2)), by omega, ⟨rfl, fun j x y h => by omega⟩, ?_, ?_⟩
        · rintro i H' hi ⟨rfl, ch⟩
          have hi2 : i < wp.length := by omega
          obtain ⟨x, hx⟩ : ∃ p, wp[i]? = some p := ⟨wp[i], List.getElem?_eq_getElem hi2⟩
          obtain ⟨y, hy, hyy⟩ := say_at nw2 hx
          have ep := at_prev wp hi2
          have ej : (if i = 0 then wp.length - 1 else i - 1) < wp.length := by split <;> omega
          obtain ⟨x2, hx2⟩ : ∃ p, wp[if i = 0 then wp.length - 1 else i - 1]? = some p := ⟨_, List.getElem?_eq_getElem ej⟩
          obtain ⟨y2, hy2, hyy2⟩ := say_at nw2 hx2
          have eq2 : atI ws ((0 + (i : Int)) - 1) = some (.ref y2) := by
            rw [show (0 + (i : Int)) - 1 = (i : Int) - 1 by omega, at_prev ws hi, lw]
            exact hy2
          rw [hx2] at ep
          refine ⟨fun _ _ e => e, fun R hR => ?_⟩
          refine ⟨_, rfl, _, rfl, th, _, _, .ref y, rfl, rfl, .inl (.inl hw2), at_of (j := i) (by omega) hy, y, _, 0, .str x.1, rfl, rfl, .inl (.inl hyy), rfl, _, rfl, _, rfl, _, _, rfl, rfl, th, _, _, .ref y2, rfl, rfl, .inl (.inl hw2), eq2, y2, _, 1, .str x2.2, rfl, rfl, .inl (.inl hyy2), rfl, rfl, ?_⟩
          refine hR _ _ (fun e p np => ?_) (fun e => ⟨rfl, fun j u v hj hu hv => ?_⟩)
          · have nx : x.1 ≠ x2.2 := fun h => by rw [h] at e; simp at e
            refine ⟨_, rfl, rfl, true, rfl, iteT ?_⟩
            refine ⟨_, rfl, sz (by show 2 ≤ 1000; decide), fun r nr => ?_⟩
            have s1 := same_upd (o := .tup [.int (0 + (i : Int))]) np
            have s2 := same_upd (o := .tup [.str "link", .ref p]) nr
            exact q1 r p _ _ _ (g2.trans (.of_same (s1.trans s2) g2.2)) (fun z => nx (z.2.2.1 i x x2 hx ep)) upd_same (s2 _ _ upd_same)
          · rcases Nat.lt_succ_iff_lt_or_eq.mp hj with h | rfl
            · exact ch j u v h hu hv
            · rw [hx] at hu
              rw [ep] at hv
              cases hu
              cases hv
              simpa using e
        · rintro H' ⟨rfl, ch⟩
          refine ⟨_, rfl, rfl, false, rfl, iteF ?_⟩
          refine ⟨_, rfl, th, rfl, ⟨_, .inl (.inl hw2)⟩, fun D nD => ?_⟩
          refine lc_tup (xs := ws) (fun j Hz => Hz = upd H' D (.lst (((wp.take j).map (·.1)).map V.str))) (by rw [List.take_zero]; rfl) (fun j Hz hj e => by rw [e]; exact .inl (.inl (same_upd nD _ _ hw2))) ?_ ?_
          · rintro j v Hz hv rfl
            have hj := (List.getElem?_eq_some_iff.mp hv).1
            obtain ⟨p, hp⟩ : ∃ p, wp[j]? = some p := ⟨wp[j]'(by omega), List.getElem?_eq_getElem _⟩
            obtain ⟨y, hy, hyy⟩ := say_at (nw2.at (.same (same_upd (o := .lst (((wp.take j).map (·.1)).map V.str)) nD))) hp
            rw [hv] at hy
            cases hy
            refine ⟨rfl, tYesT ⟨_, rfl, y, _, 0, .str p.1, rfl, rfl, .inl (.inl hyy), rfl, _, upd_same, small1000 (by rw [List.length_map, List.length_map, List.length_take]; omega), ?_⟩⟩
            show _ = upd _ _ _
            rw [upd_upd', List.take_add_one, hp, List.map_append, List.map_append]
            rfl
          · rintro Hz rfl
            rw [lw, List.take_of_length_le (Nat.le_refl _)]
            have sD := same_upd (o := .lst ((wp.map (·.1)).map V.str)) nD
            have g3 := g2.trans (.of_same sD g2.2)
            have hD := upd_same (H := H') (a := D) (o := .lst ((wp.map (·.1)).map V.str))
            generalize upd H' D (.lst ((wp.map (·.1)).map V.str)) = H3 at g3 hD ⊢
            refine ⟨_, rfl, g3.2.lam _ mT, fun H4 md4 => ?_⟩
            have g34 := Gk.made g3.2 mT md4
            have g4 := g3.trans g34
            have hw4 := g4.tup hw
            have hD4 := g34.1 _ _ hD (fun ps z => by cases z)
            refine ⟨th, ws, fun i Hy => Same H4 Hy ∧ Gk (tbs T) H Hy ∧ ((wp.map (·.1)).take i).Nodup, rfl, .inr (.inl (.inl hw4)), by omega, ⟨fun _ _ e => e, g4, by rw [List.take_zero]; exact List.nodup_nil⟩, ?_, ?_⟩
            · rintro i Hy hi ⟨sy, gy, ndi⟩
              have hi2 : i < wp.length := by omega
              have hi3 : i < (wp.map (·.1)).length := by rw [List.length_map]; exact hi2
              obtain ⟨z, hz⟩ : ∃ z, (wp.map (·.1))[i]? = some z := ⟨_, List.getElem?_eq_getElem hi3⟩
              have hz2 : ((wp.map (·.1)).map V.str)[i]? = some (V.str z) := by rw [List.getElem?_map, hz]; rfl
              have hDy := sy _ _ hD4
              refine ⟨sy, fun R hR => ?_⟩
              have ecut : cutV ((wp.map (·.1)).map V.str) none (some (0 + (i : Int))) = (((wp.map (·.1)).take i).map V.str) := by
                rw [List.map_take]
                exact cut_nat (by omega) (by rw [List.length_map]; omega)
              refine ⟨_, rfl, _, rfl, D, _, _, .str z, rfl, rfl, .inl (.inl hDy), at_of (j := i) (by omega) hz2, _, rfl, _, rfl, 0 + (i : Int), rfl, D, _, rfl, .inl (.inl hDy), fun S nS => ?_⟩
              rw [ecut]
              have sS := same_upd (o := .lst (((wp.map (·.1)).take i).map V.str)) nS
              refine ⟨S, _, rfl, .inl (.inl (.inl upd_same)), rfl, flat_strs _, ?_⟩
              have iv := inV_strs z ((wp.map (·.1)).take i)
              refine hR _ _ (fun e p np => ?_) (fun e => ⟨sy.trans sS, gy.trans (.of_same sS gy.2), ?_⟩)
              · have e : inV (.str z) (((wp.map (·.1)).take i).map V.str) = true := e
                rw [iv] at e
                have mz := of_decide_eq_true e
                refine ⟨_, rfl, rfl, true, rfl, iteT ?_⟩
                refine ⟨_, rfl, sz (by show 2 ≤ 1000; decide), fun r nr => ?_⟩
                have s1 := same_upd (o := .tup [.int (0 + (i : Int))]) np
                have s2 := same_upd (o := .tup [.str "twice", .ref p]) nr
                refine q1 r p _ _ _ (gy.trans (.of_same (sS.trans (s1.trans s2)) gy.2)) (fun q => ?_) upd_same (s2 _ _ upd_same)
                obtain ⟨j, hj⟩ := List.mem_iff_getElem?.mp mz
                have lj := (List.getElem?_eq_some_iff.mp hj).1
                rw [List.length_take] at lj
                rw [List.getElem?_take, if_pos (by omega)] at hj
                have := nd_ix q.2.2.2 hj hz
                omega
              · have e : inV (.str z) (((wp.map (·.1)).take i).map V.str) = false := e
                rw [iv] at e
                have mz := of_decide_eq_false e
                rw [List.take_add_one, hz, List.nodup_append]
                refine ⟨ndi, by simp, fun x hx y hy q => mz ?_⟩
                have ey : y = z := by simpa using hy
                rw [← ey, ← q]
                exact hx
            · rintro Hy ⟨sy, gy, ndi⟩
              refine ⟨_, rfl, rfl, false, rfl, iteF ?_⟩
              rw [lw, List.take_of_length_le (by rw [List.length_map]; exact Nat.le_refl _)] at ndi
              exact q0 Hy gy ⟨wpn, al, fun j x y hx hy => ch j x y (by rw [lw]; exact (List.getElem?_eq_some_iff.mp hx).1) hx hy, ndi⟩
/-- no saying goes to it from one that is left -/
def freeB (ps : List (Str × Str)) (left : List Str) (x : Str) : Bool := !(ps.any fun p => decide (p.1 ∈ left) && decide (p.2 = x))
def spFree (T : Tx K mg w) : Sp := fun vs H Q _ => ∃ (a l : Addr) (ys : List V) (ps : List (Str × Str)) (left : List Str) (x : Str), vs = [.ref a, .ref l, .str x] ∧ H a = some (.tup ys) ∧ NkAll H ys (ps.map sayK) ∧ H l = some (.lst (left.map V.str)) ∧ Tbs (tbs T) H ∧ ∀ H', Gk (tbs T) H H' → Q (.bl (freeB ps left x)) H'
theorem ok_free (T : Tx K mg w) (B : Tb T base) : FnOk P w K mg base CX0 2 T.f_is_free T.d_is_free ["some", "left", "name"] (spFree T) := by
  refine T.F_is_free.ok S_is_free (fun vs H Q E h => ?_) (fun A outer s H vs Q E hr h => ?_)
  · obtain ⟨a, l, ys, ps, left, x, rfl, _⟩ := h
    rfl
  · obtain ⟨a, l, ys, ps, left, x, rfl, ha, nk, hl, hB, q⟩ := h
    refine ⟨_, (pss_one (ps_ret (pe_not (GE.pe_anyG (own := [("ahead", 3), ("behind", 4)]) (g := gTup K 2 (gCons (gName 3) (gCons (gName 4) gNil))) (tt := tYes) (by rfl) S_is_free.nd hr (by rfl) T.m_any B.b_is_free rfl ⟨blkOk_by (own := [("ahead", 3), ("behind", 4)]) (N := N_is_free) (sc := defScope s_is_free) (by decide +kernel), rfl, (by decide +kernel), (by decide +kernel)⟩ (pi_tup (pv 0)) (fun _ _ _ _ _ _ hr => (pg_tup rfl (pgs_cons (pg_name (i := 3) S_is_free.nd rfl (.inl rfl)) (pgs_cons (pg_name (i := 4) S_is_free.nd rfl (.inl rfl)) pgs_nil)))) (fun _ _ _ _ _ _ hr => pts_nil) (fun _ _ _ _ _ _ hr => (pe_and (pe_cmpR (r := rIn K false) op_in_seq (pv 3) (pv 1) (by rfl)) (pe_one (pe_cmpR op_eq (pv 4) (pv 2) (nomark _))))))))), ?_⟩
    refine ⟨_, rfl, a, rfl, ⟨_, .inl (.inl ha)⟩, hB _ (by simp [tbs]), fun H2 tab => ?_⟩
    have g2 := (Tk.of hB (by simp [tbs]) tab).gk hB
    have ha2 := g2.tup ha
    have hl2 := g2.1 _ _ hl (fun ps z => by cases z)
    have nk2 := nk.at (Gk.tups g2)
    have qq := q H2 g2
    refine GE.ag_it (walk_tup (xs := ys)) (fun i H' => H' = H2 ∧ ∀ (k : Nat) (p : Str × Str), k < i → ps[k]? = some p → (decide (p.1 ∈ left) && decide (p.2 = x)) = false) ⟨rfl, fun k p hk => by omega⟩ (fun i Hx _ e => by rw [e.1]; exact .inl (.inl ha2)) ?_ ?_
    · rintro i v H3 H4 hi ⟨rfl, hp⟩ ⟨rfl, hx⟩
      obtain ⟨k, hk, nx⟩ := nk2.get hx
      obtain ⟨p, hpi, rfl⟩ : ∃ p, ps[i]? = some p ∧ k = sayK p := by
        rw [List.getElem?_map] at hk
        cases e : ps[i]? with
        | none => rw [e] at hk; cases hk
        | some y => rw [e] at hk; exact ⟨y, rfl, (Option.some.inj hk).symm⟩
      obtain ⟨y, rfl, hy⟩ := say_nk nx
      have no : (decide (p.1 ∈ left) && decide (p.2 = x)) = false → ∀ (k : Nat) (p : Str × Str), k < i + 1 → ps[k]? = some p → (decide (p.1 ∈ left) && decide (p.2 = x)) = false := fun e k p' hk he => by
        rcases Nat.lt_succ_iff_lt_or_eq.mp hk with h | rfl
        · exact hp k p' h he
        · rw [hpi] at he; cases he; exact e
      refine ⟨y, [.str p.1, .str p.2], rfl, .inl (.inl hy), rfl, _, _, rfl, _, _, rfl, rfl, rfl, tYesT ?_⟩
      refine ⟨_, rfl, _, rfl, l, _, rfl, .inl (.inl (.inl hl2)), rfl, flat_strs left, _, rfl, ite2 (fun e => ?_) (fun e => ?_)⟩
      · have e : inV (.str p.1) (left.map V.str) = true := e
        rw [inV_strs] at e
        refine ⟨_, rfl, _, rfl, rfl, _, rfl, fun e2 => ?_, fun e2 => ⟨rfl, no ?_⟩⟩
        · have e2 : p.2 = x := V.str.inj (of_decide_eq_true e2)
          have fr : freeB ps left x = false := by
            unfold freeB
            rw [List.any_eq_true.mpr ⟨p, List.mem_of_getElem? hpi, by rw [e, decide_eq_true e2]; rfl⟩]
            rfl
          rw [fr] at qq
          exact ⟨_, rfl, qq⟩
        · have e2 : p.2 ≠ x := fun z => e2 (by rw [z]; exact decide_eq_true rfl)
          rw [decide_eq_false e2, Bool.and_false]
      · have e : ¬ inV (.str p.1) (left.map V.str) = true := e
        rw [inV_strs] at e
        exact ⟨false, rfl, fun z => (by cases z), fun _ => ⟨rfl, no (by rw [Bool.eq_false_iff.mpr e, Bool.false_and])⟩⟩
    · rintro H3 ⟨rfl, hp⟩
      have fr : freeB ps left x = true := by
        unfold freeB
        rw [List.any_eq_false.mpr fun p hm => ?_]
        · rfl
        · obtain ⟨k, hk⟩ := List.mem_iff_getElem?.mp hm
          have lk := (List.getElem?_eq_some_iff.mp hk).1
          have := nk.length
          rw [List.length_map] at this
          rw [hp k p (by omega) hk]
          exact Bool.noConfusion
      rw [fr] at qq
      exact ⟨_, rfl, qq⟩
/-- the program's order: the first free one, again and again -/
def rankF (ps : List (Str × Str)) : Nat → List Str → List Str
  | 0, _ => []
  | n + 1, left => match left.filter (freeB ps left) with
    | [] => []
    | x :: _ => x :: rankF ps n (left.erase x)
/-- at each step there is a free one -/
def AllFree (ps : List (Str × Str)) : Nat → List Str → Prop
  | 0, left => left = []
  | n + 1, left => ∃ x r, left.filter (freeB ps left) = x :: r ∧ AllFree ps n (left.erase x)
theorem erase_at {x : Str} : ∀ {l : List Str}, x ∈ l → ∃ j : Nat, l[j]? = some x ∧ (∀ m : Nat, m < j → l[m]? ≠ some x) ∧ l.eraseIdx j = l.erase x
  | y :: l, h => by
    by_cases e : y = x
    · subst e
      exact ⟨0, rfl, fun m hm => by omega, by rw [List.erase_cons_head]; rfl⟩
    · have hx : x ∈ l := (List.mem_cons.mp h).resolve_left fun z => e z.symm
      obtain ⟨j, a, b, c⟩ := erase_at hx
      refine ⟨j + 1, a, fun m hm => ?_, ?_⟩
      · cases m with
        | zero => exact fun z => e (Option.some.inj z)
        | succ m => exact b m (by omega)
      · rw [List.erase_cons_tail (by simpa using e)]
        show y :: l.eraseIdx j = _
        rw [c]
theorem gk_freshL {Ts : TL} {H H1 : Hp} {p : Addr} {o : HO} {xs : List V} (hp : H p = none) (g : Gk Ts H H1) (e : H1 p = some (.lst xs)) (_ : ∀ ps, HO.lst xs ≠ .tbl ps) : Gk Ts H (upd H1 p o) := ⟨fun b x h hn => by
  rw [upd_ne (ne_of_none h hp)]
  exact g.1 b x h hn, g.2.lst e⟩
theorem rd_s {H H' : Hp} {a : Addr} {o : HO} (h : Rd H a o) (s : Same H H') : Rd H' a o := h.elim (fun e => .inl (s _ _ e)) fun ⟨ob, e⟩ => .inr ⟨ob, s _ _ e⟩
theorem rd_g {Ts : TL} {H H' : Hp} {a : Addr} {xs : List V} (h : Rd H a (.tup xs)) (g : Gk Ts H H') : Rd H' a (.tup xs) := h.elim (fun e => .inl (g.1 _ _ e (fun ps z => by cases z))) fun ⟨ob, e⟩ => .inr ⟨ob, g.1 _ _ e (fun ps z => by cases z)⟩
theorem least_ex (rk : Str → Nat) : ∀ {l : List Str}, l ≠ [] → ∃ x ∈ l, ∀ y ∈ l, rk x ≤ rk y
  | [], h => absurd rfl h
  | [x], _ => ⟨x, .head _, fun y hy => by rw [List.mem_singleton.mp hy]; exact Nat.le_refl _⟩
  | x :: y :: r, _ => by
    obtain ⟨m, hm, h⟩ := least_ex rk (l := y :: r) (by simp)
    by_cases c : rk x ≤ rk m
    · exact ⟨x, .head _, fun z hz => (List.mem_cons.mp hz).elim (fun e => by rw [e]; exact Nat.le_refl _) fun hz => Nat.le_trans c (h z hz)⟩
    · exact ⟨m, .tail _ hm, fun z hz => (List.mem_cons.mp hz).elim (fun e => by rw [e]; omega) (h z)⟩
open Classical in
theorem ring_ex {ps : List (Str × Str)} {lf : List Str} (ne : lf ≠ []) (nd : lf.Nodup) (h : ∀ x ∈ lf, ∃ y ∈ lf, (y, x) ∈ ps) : ∃ x ∈ lf, Path ps x x := by
  refine byContradiction fun no => ?_
  obtain ⟨x, hx, least⟩ := least_ex (fun x => (lf.filter fun z => decide (Path ps z x)).length) ne
  obtain ⟨y, hy, p⟩ := h x hx
  have l := least y hy
  have ny : y ∉ lf.filter fun z => decide (Path ps z y) := fun q => no ⟨y, hy, of_decide_eq_true (List.mem_filter.mp q).2⟩
  have := nodup_len (l := y :: lf.filter fun z => decide (Path ps z y)) (m := lf.filter fun z => decide (Path ps z x)) (List.nodup_cons.mpr ⟨ny, nd.filter _⟩) fun z hz => by
    rcases List.mem_cons.mp hz with e | e
    · rw [e]; exact List.mem_filter.mpr ⟨hy, decide_eq_true (.one p)⟩
    · obtain ⟨e1, e2⟩ := List.mem_filter.mp e
      exact List.mem_filter.mpr ⟨e1, decide_eq_true (.more (of_decide_eq_true e2) p)⟩
  rw [List.length_cons] at this
  omega
/-- where each of some has another of them ahead, no order is -/
theorem no_order {ps : List (Str × Str)} {S : Str → Prop} (hS : ∀ x, S x → ∃ y, S y ∧ (y, x) ∈ ps) : ∀ {n : Nat} {lf : List Str}, (∀ x, S x → x ∈ lf) → (∃ x, S x) → ¬ AllFree ps n lf
  | 0, lf, sub, ⟨x, hx⟩, h => by
    have h : lf = [] := h
    have := sub x hx
    rw [h] at this
    cases this
  | n + 1, lf, sub, ex, h => by
    obtain ⟨x, r, ef, h2⟩ := h
    have mx : x ∈ lf.filter (freeB ps lf) := by rw [ef]; exact .head _
    have fx := (List.mem_filter.mp mx).2
    have nx : ¬ S x := fun q => by
      obtain ⟨y, hy, p⟩ := hS x q
      unfold freeB at fx
      rw [List.any_eq_true.mpr ⟨(y, x), p, by rw [decide_eq_true (sub y hy), decide_eq_true rfl]; rfl⟩] at fx
      cases fx
    exact no_order hS (fun y hy => (List.mem_erase_of_ne (fun (e : y = x) => nx (by rw [← e]; exact hy))).mpr (sub y hy)) ex h2
theorem ring_no {ps : List (Str × Str)} {x : Str} {n : Nat} {lf : List Str} (hz : ∀ p ∈ ps, p.1 ∈ lf ∧ p.2 ∈ lf) (p : Path ps x x) : ¬ AllFree ps n lf := by
  have go : ∀ y, Path ps x y → y ∈ lf := fun y h => by
    cases h with
    | one m => exact (hz _ m).2
    | more _ m => exact (hz _ m).2
  refine no_order (S := fun y => Path ps x y ∧ Path ps y x) (fun y ⟨h1, h2⟩ => ?_) (fun y h => go y h.1) ⟨x, p, p⟩
  cases h1 with
  | one m => exact ⟨x, ⟨p, p⟩, m⟩
  | more q m => exact ⟨_, ⟨q, Path.trans (.one m) h2⟩, m⟩
/-- a ring of sayings -/
def RingAt (H : Hp) (ps : List (Str × Str)) (o : Addr) : Prop := ∃ (x : Str) (wp : List (Str × Str)), WT H o wp ∧ Wy ps x x wp ∧ (wp.map (·.1)).Nodup ∧ wp ≠ []
def spAny : Sp := fun vs H Q _ => ∃ (l a : Addr) (ys : List V) (ps : List (Str × Str)) (lf : List Str), vs = [.ref l, .ref a] ∧ H l = some (.lst (lf.map V.str)) ∧ H a = some (.tup ys) ∧ NkAll H ys (ps.map sayK) ∧ ps.length ≤ 80 ∧ (∀ p ∈ ps, p.1 ≠ p.2) ∧ (∃ x ∈ lf, Path ps x x) ∧
  ∀ o H', Same H H' → RingAt H' ps o → Q (.ref o) H'
theorem ok_any (T : Tx K mg w) : FnOk P w K mg base CX0 3 T.f_any_ring T.d_any_ring ["names", "some"] (spAny) := by
  have G_goes_ahead : FnOk P w K mg base CX0 2 T.f_goes_ahead T.d_goes_ahead ["names", "some", "a", "b"] (spGoes) := ok_goes T
  refine T.F_any_ring.ok S_any_ring (fun vs H Q E h => ?_) (fun cdv A outer s H vs Q E hr h => ?_)
  · obtain ⟨l, a, ys, ps, lf, rfl, _⟩ := h
    rfl
  · obtain ⟨l, a, ys, ps, lf, rfl, hl, ha, nk, l40, un, ex, q⟩ := h
    refine ⟨_, (pss_cons (ps_for PassesOwn.never rfl (pi_list (pv 0)) (pg_name (i := 2) S_any_ring.nd rfl (.inl rfl))
      (pss_cons (ps_set (i := 3) S_any_ring.nd rfl (.inl rfl) (pe_call G_goes_ahead hr (by rfl) T.g_goes_ahead T.F_goes_ahead.kp T.b_goes_ahead .nil pass0 (pa_cons (pv 0) (pa_cons (pv 1) (pa_cons (pv 2) (pa_cons (pv 2) pa_nil))))))
      (pss_one (ps_if (pt_cmpR op_notN (pv 3) pe_non (nomark _)) (pss_one (ps_ret (pv 3))) pss_nil))))
      (pss_one (ps_ret pe_non))), ?_⟩
    refine ⟨_, rfl, l, rfl, ⟨_, .inl (.inl hl)⟩, ?_⟩
    refine for_list (xs := lf.map V.str) (fun i σ Hx => (∃ y2 y3, σ = [some (.ref l), some (.ref a), y2, y3]) ∧ Same H Hx ∧ ∀ x ∈ lf.take i, ¬ Path ps x x) ⟨⟨_, _, rfl⟩, fun _ _ e => e, fun x hx => by rw [List.take_zero] at hx; cases hx⟩ (fun i σ Hx hi h => .inl (.inl (h.2.1 _ _ hl))) ?_ ?_
    · rintro i v σ Hx hv ⟨⟨y2, y3, rfl⟩, sx, no⟩
      obtain ⟨z, hz, rfl⟩ : ∃ y, lf[i]? = some y ∧ v = V.str y := by
        rw [List.getElem?_map] at hv
        cases e : lf[i]? with
        | none => rw [e] at hv; cases hv
        | some y => rw [e] at hv; exact ⟨y, rfl, (Option.some.inj hv).symm⟩
      refine ⟨_, rfl, _, rfl, _, rfl, _, rfl, .ref l, a, ys, ps, z, z, rfl, sx _ _ ha, nk.at (.same sx), l40, un, fun v H1 s1 gt => ?_⟩
      have sA := sx.trans s1
      rcases gt with ⟨rfl, np⟩ | ⟨qq, wp, rfl, x1, x2, x3, x4⟩
      · refine ⟨_, rfl, rfl, false, rfl, iteF ⟨⟨_, _, rfl⟩, sA, fun x hx => ?_⟩⟩
        rw [List.take_add_one, hz] at hx
        rcases List.mem_append.mp hx with h | h
        · exact no x h
        · rw [show x = z by simpa using h]; exact np
      · exact ⟨_, rfl, rfl, true, rfl, iteT ⟨_, rfl, q qq H1 sA ⟨z, wp, x1, x2, x3, x4⟩⟩⟩
    · rintro σ Hx ⟨⟨y2, y3, rfl⟩, sx, no⟩
      rw [List.length_map, List.take_of_length_le (Nat.le_refl _)] at no
      obtain ⟨x, hx, p⟩ := ex
      exact absurd p (no x hx)
def spRank (T : Tx K mg w) : Sp := fun vs H Q _ => ∃ (n a : Addr) (ys : List V) (ps : List (Str × Str)) (zs : List Str), vs = [.ref n, .ref a] ∧ Rd H n (.tup (zs.map V.str)) ∧ H a = some (.tup ys) ∧ NkAll H ys (ps.map sayK) ∧ zs.length ≤ 9 ∧ zs.Nodup ∧ ps.length ≤ 80 ∧ (∀ p ∈ ps, p.1 ≠ p.2) ∧ Tbs (tbs T) H ∧
  (∀ r o ob H', Gk (tbs T) H H' → AllFree ps zs.length zs → H' r = some (.tup [.str "order", .ref o]) → H' o = some (.frz ob (.tup ((rankF ps zs.length zs).map V.str))) → TD ob → Q (.ref r) H') ∧
  (∀ r o H', Gk (tbs T) H H' → ¬ AllFree ps zs.length zs → H' r = some (.tup [.str "ring", .ref o]) → RingAt H' ps o → Q (.ref r) H')
theorem ok_rank (T : Tx K mg w) (B : Tb T base) : FnOk P w K mg base CX0 4 T.f_ranked T.d_ranked ["names", "some"] (spRank T) := by
  have G_is_free : FnOk P w K mg base CX0 2 T.f_is_free T.d_is_free ["some", "left", "name"] (spFree T) := ok_free T B
  have G_any_ring : FnOk P w K mg base CX0 3 T.f_any_ring T.d_any_ring ["names", "some"] (spAny) := ok_any T
  refine T.F_ranked.ok S_ranked (fun vs H Q E h => ?_) (fun cdv A outer s H vs Q E hr h => ?_)
  · obtain ⟨n, a, ys, ps, zs, rfl, _⟩ := h
    rfl
  · obtain ⟨n, a, ys, ps, zs, rfl, hn, ha, nk, l9, ndz, l40, un, hB, q, qr⟩ := h
    refine ⟨_, (pss_cons (ps_set (i := 2) S_ranked.nd rfl (.inl rfl) (pe_lst pa_nil))
      (pss_cons (ps_set (i := 3) S_ranked.nd rfl (.inr rfl) (pe_callTy call_list_of (by rfl) T.m_list (by decide +kernel) (pa_cons (pv 0) pa_nil)))
      (pss_cons (ps_while PassesOwn.never (pt_truth (pv 3) (by intro _; rfl)) (pss_cons (ps_setLc (i := 4) (own := [("name", 5)]) (g := gName 5) (by rfl) S_ranked.nd rfl rfl (sw_true rfl rfl rfl (by decide +kernel)) (pi_list (pv 3)) (blkOk_by (own := [("name", 5)]) (N := N_ranked) (sc := defScope s_ranked) (by decide +kernel)) (fun _ _ _ _ _ => (pg_name (i := 5) S_ranked.nd rfl (.inl rfl))) (fun _ _ _ _ _ => (pts_one (pt_val (pe_call G_is_free (hr.mono (by decide)) (by rfl) T.g_is_free T.F_is_free.kp T.b_is_free .nil pass0 (pa_cons (pv 1) (pa_cons (pv 3) (pa_cons (pv 5) pa_nil))))))) (fun _ _ _ _ _ => (pv 5)))
      (pss_cons (ps_if (pt_not (pt_truth (pv 4) (by intro _; rfl))) (pss_one (ps_ret (pe_tup (pa_cons pe_str (pa_cons (pe_call G_any_ring hr (by rfl) T.g_any_ring T.F_any_ring.kp T.b_any_ring .nil pass0 (pa_cons (pv 3) (pa_cons (pv 1) pa_nil))) pa_nil))))) pss_nil)
      (pss_cons (ps_expr (pe_bm PySem.F.plainAttrs_list PySem.F.slot_list_append PySem.F.type_list_append mt_append (pv 2) (pa_cons (pe_ix ix_list (pv 4) pe_int (fun _ _ => rfl)) pa_nil)))
      (pss_one (ps_expr (pe_bm PySem.F.plainAttrs_list PySem.F.slot_list_remove PySem.F.type_list_remove mt_removeX (pv 3) (pa_cons (pe_ix ix_list (pv 4) pe_int (fun _ _ => rfl)) pa_nil))))))))
      (pss_one (ps_ret (pe_tup (pa_cons pe_str (pa_cons (pe_callTy call_tupleD (by rfl) T.m_tuple (by decide +kernel) (pa_cons (pv 2) pa_nil)) pa_nil)))))))), ?_⟩
    refine ⟨sz (by show 0 ≤ 1000; decide), fun O nO => ?_⟩
    have sO := same_upd (o := .lst []) nO
    refine ⟨_, rfl, n, _, rfl, .inr (.inl (rd_s hn sO)), fun L nL => ?_⟩
    have sL := same_upd (o := .lst (zs.map V.str)) nL
    have g0 : Gk (tbs T) H _ := .of_same (sO.trans sL) hB
    have hO := sL _ _ (upd_same (H := H) (a := O) (o := .lst []))
    have hL := upd_same (H := upd H O (.lst [])) (a := L) (o := .lst (zs.map V.str))
    have OL : O ≠ L := ne_of_none (upd_same (H := H) (a := O) (o := .lst [])) nL
    have fL : H L = none := (upd_free nL).2
    generalize upd (upd H O (.lst [])) L (.lst (zs.map V.str)) = H1 at g0 hO hL ⊢
    refine ⟨fun m σ Hx => ∃ (dn lf : List Str) (y4 y5 : Option V), σ = [some (.ref n), some (.ref a), some (.ref O), some (.ref L), y4, y5] ∧ Gk (tbs T) H Hx ∧ Hx O = some (.lst (dn.map V.str)) ∧ Hx L = some (.lst (lf.map V.str)) ∧ lf.length = m ∧ lf.Nodup ∧ (AllFree ps m lf ↔ AllFree ps zs.length zs) ∧ dn ++ rankF ps m lf = rankF ps zs.length zs ∧ dn.length + m = zs.length, ⟨zs.length, [], zs, _, _, rfl, g0, hO, hL, rfl, ndz, Iff.rfl, rfl, by simp⟩, ?_⟩
    rintro m σ Hx ⟨dn, lf, y4, y5, rfl, gx, hOx, hLx, lm, ndl, afx, ex, ld⟩
    refine ⟨_, rfl, _, .inl ⟨_, .inl (.inl hLx), rfl⟩, ite2 (fun e => ?_) (fun e => ?_)⟩
    · have e : (lf.map V.str).isEmpty = false := by simpa using e
      obtain ⟨m, rfl⟩ : ∃ m', m = m' + 1 := by
        cases m with
        | zero => rw [List.length_eq_zero_iff.mp lm] at e; cases e
        | succ m => exact ⟨m, rfl⟩
      refine ⟨_, fun σ' H' h => ⟨m, by omega, h⟩, ?_⟩
      refine ⟨_, rfl, L, rfl, ⟨_, .inl (.inl hLx)⟩, fun D nD => ?_⟩
      have hax := gx.tup ha
      have nkx := nk.at (Gk.tups gx)
      refine lc_list (xs := lf.map V.str) (fun j H' => Gk (tbs T) Hx H' ∧ H' D = some (.lst (((lf.take j).filter (freeB ps lf)).map V.str))) ⟨.new gx.2 nD, upd_same⟩ (fun j H' hj h => .inl (.inl (h.1.1 _ _ hLx (fun ps z => by cases z)))) ?_ ?_
      · rintro j v H' hv ⟨g', hD⟩
        obtain ⟨y, hy, rfl⟩ : ∃ y, lf[j]? = some y ∧ v = V.str y := by
          rw [List.getElem?_map] at hv
          cases e : lf[j]? with
          | none => rw [e] at hv; cases hv
          | some y => rw [e] at hv; exact ⟨y, rfl, (Option.some.inj hv).symm⟩
        have hj := (List.getElem?_eq_some_iff.mp hy).1
        have tk : lf.take (j + 1) = lf.take j ++ [y] := by rw [List.take_add_one, hy]; rfl
        have lfl : ((lf.take j).filter (freeB ps lf)).length ≤ j := Nat.le_trans (List.length_filter_le _ _) (by rw [List.length_take]; omega)
        refine ⟨rfl, _, rfl, _, rfl, _, rfl, a, L, ys, ps, lf, y, rfl, g'.tup hax, nkx.at (Gk.tups g'), g'.1 _ _ hLx (fun ps z => by cases z), g'.2, fun H5 g5 => ⟨_, rfl, ite2 (fun e => ?_) (fun e => ?_)⟩⟩
        · have hD5 := g5.1 _ _ hD (fun ps z => by cases z)
          refine ⟨_, rfl, _, hD5, small1000 (by rw [List.length_map]; omega), gk_freshL nD (g'.trans g5) hD5 (fun ps z => by cases z), ?_⟩
          rw [upd_same, tk, List.filter_append, List.filter_cons, if_pos e, List.map_append]
          rfl
        · refine ⟨g'.trans g5, ?_⟩
          rw [tk, List.filter_append, List.filter_cons, if_neg e]
          show H5 D = some (.lst ((_ ++ []).map V.str))
          rw [List.append_nil]
          exact g5.1 _ _ hD (fun ps z => by cases z)
      · rintro H2 ⟨g2, hD⟩
        rw [List.length_map, List.take_of_length_le (Nat.le_refl _)] at hD
        have gH := gx.trans g2
        have hO2 := g2.1 _ _ hOx (fun ps z => by cases z)
        have hL2 := g2.1 _ _ hLx (fun ps z => by cases z)
        cases ef : lf.filter (freeB ps lf) with
        | nil =>
          rw [ef] at hD
          refine ⟨_, rfl, _, .inl ⟨_, .inl (.inl hD), rfl⟩, iteT ?_⟩
          have nf : ¬ AllFree ps (m + 1) lf := fun ⟨x, r, e1, _⟩ => by rw [ef] at e1; cases e1
          have exr := ring_ex (ps := ps) (lf := lf) (fun z => by rw [z] at lm; cases lm) ndl fun x hx => by
            have fx : ¬ freeB ps lf x = true := fun z => by
              have : x ∈ lf.filter (freeB ps lf) := List.mem_filter.mpr ⟨hx, z⟩
              rw [ef] at this
              cases this
            unfold freeB at fx
            have fx : (ps.any fun p => decide (p.1 ∈ lf) && decide (p.2 = x)) = true := by simpa using fx
            obtain ⟨p, hp, e⟩ := List.any_eq_true.mp fx
            rw [Bool.and_eq_true, decide_eq_true_eq, decide_eq_true_eq] at e
            exact ⟨p.1, e.1, by rw [← e.2]; exact hp⟩
          refine ⟨_, rfl, _, rfl, L, a, ys, ps, lf, rfl, hL2, g2.tup hax, nkx.at (Gk.tups g2), l40, un, exr, fun o H3 s3 ro => ⟨sz (by show 2 ≤ 1000; decide), fun r nr => ?_⟩⟩
          have s4 := same_upd (o := .tup [.str "ring", .ref o]) nr
          obtain ⟨x, wp, x1, x2⟩ := ro
          exact qr r o _ (gH.trans (.of_same (s3.trans s4) gH.2)) (fun h => nf (afx.mpr h)) upd_same ⟨x, wp, x1.at (.same s4), x2⟩
        | cons x rr =>
        rw [ef] at hD
        have afn : AllFree ps m (lf.erase x) ↔ AllFree ps zs.length zs := by
          rw [← afx]
          exact ⟨fun h => ⟨x, rr, ef, h⟩, fun ⟨x', r', e1, h⟩ => by rw [ef] at e1; cases e1; exact h⟩
        refine ⟨_, rfl, _, .inl ⟨_, .inl (.inl hD), rfl⟩, iteF ?_⟩
        refine ⟨_, rfl, .inl ⟨rfl, _, .inl (.inl hO2)⟩, _, rfl, D, _, 0, .str x, rfl, rfl, .inl (.inl hD), at_of (j := 0) rfl rfl, O, _, .str x, rfl, rfl, hO2, small1000 (by rw [List.length_map]; omega), ?_⟩
        have DO : D ≠ O := fun z => by rw [z, hOx] at nD; cases nD
        have DL : D ≠ L := fun z => by rw [z, hLx] at nD; cases nD
        have mx : x ∈ lf := (List.mem_filter.mp (by rw [ef]; exact .head _ : x ∈ lf.filter (freeB ps lf))).1
        obtain ⟨j, e1, e2, e3⟩ := erase_at mx
        have hD3 : upd H2 O (.lst (dn.map V.str ++ [.str x])) D = _ := (upd_ne DO).trans hD
        have hL3 : upd H2 O (.lst (dn.map V.str ++ [.str x])) L = _ := (upd_ne OL.symm).trans hL2
        refine ⟨_, rfl, .inl ⟨rfl, _, .inl (.inl hL3)⟩, _, rfl, D, _, 0, .str x, rfl, rfl, .inl (.inl hD3), at_of (j := 0) rfl rfl, L, lf, x, j, rfl, rfl, hL3, e1, e2, by omega, ?_⟩
        have g3 : Gk (tbs T) H (upd (upd H2 O (.lst (dn.map V.str ++ [.str x]))) L (.lst ((lf.eraseIdx j).map V.str))) := gk_freshL fL (gk_freshL nO gH hO2 (fun ps z => by cases z)) hL3 (fun ps z => by cases z)
        refine ⟨dn ++ [x], lf.erase x, _, _, rfl, g3, by rw [upd_ne OL, upd_same, List.map_append]; rfl, by rw [upd_same, e3], by rw [List.length_erase_of_mem mx]; omega, ndl.erase x, afn, ?_, by rw [List.length_append]; show _ + 1 + _ = _; omega⟩
        rw [← ex, List.append_assoc]
        show dn ++ (x :: rankF ps m (lf.erase x)) = _
        congr 1
        show _ = rankF ps (m + 1) lf
        rw [rankF, ef]
    · have e : (lf.map V.str).isEmpty = true := by simpa using e
      have e0 : lf = [] := by cases lf with | nil => rfl | cons => cases e
      have m0 : m = 0 := by rw [← lm, e0]; rfl
      subst m0
      have ed : dn = rankF ps zs.length zs := by rw [← ex]; show dn = dn ++ []; rw [List.append_nil]
      refine ⟨_, rfl, O, _, rfl, .inl (.inl hOx), fun o ob no td => ⟨sz (by show 2 ≤ 1000; decide), fun r nr => ?_⟩⟩
      have s1 := same_upd (o := .frz ob (.tup (dn.map V.str))) no
      have s2 := same_upd (o := .tup [.str "order", .ref o]) nr
      exact q r o ob _ (gx.trans (.of_same (s1.trans s2) gx.2)) (afx.mp e0) upd_same (s2 _ _ (by rw [← ed]; exact upd_same)) td
theorem idx_ne {y z : Str} (l : List Str) (e : y ≠ z) : (y :: l).idxOf z = l.idxOf z + 1 := by
  rw [List.idxOf_cons]
  have : (y == z) = false := by simpa using e
  rw [this]
  rfl
theorem ix_first {z : Str} : ∀ {l : List Str}, z ∈ l → l[l.idxOf z]? = some z ∧ ∀ m : Nat, m < l.idxOf z → l[m]? ≠ some z
  | y :: l, h => by
    by_cases e : y = z
    · subst e
      rw [List.idxOf_cons_self]
      exact ⟨rfl, fun m hm => by omega⟩
    · have hx := (List.mem_cons.mp h).resolve_left fun q => e q.symm
      obtain ⟨a, b⟩ := ix_first hx
      rw [idx_ne l e]
      refine ⟨a, fun m hm => ?_⟩
      cases m with
      | zero => exact fun q => e (Option.some.inj q)
      | succ m => exact b m (by omega)
/-- an order in which no saying's second name stands ahead of its first -/
def IsOrder (ps : List (Str × Str)) (xs : List Str) : Prop := ∀ p ∈ ps, xs.idxOf p.1 ≤ xs.idxOf p.2
theorem rank_order {ps : List (Str × Str)} : ∀ {n : Nat} {left : List Str}, AllFree ps n left → left.Nodup → (rankF ps n left).Perm left ∧ ∀ p ∈ ps, p.1 ∈ left → p.2 ∈ left → (rankF ps n left).idxOf p.1 ≤ (rankF ps n left).idxOf p.2
  | 0, left, h, _ => by
    have h : left = [] := h
    subst h
    exact ⟨List.Perm.refl _, fun p _ q => by cases q⟩
  | n + 1, left, ⟨x, r, ef, h⟩, nd => by
    have mx : x ∈ left.filter (freeB ps left) := by rw [ef]; exact .head _
    have fx := (List.mem_filter.mp mx).2
    have mx := (List.mem_filter.mp mx).1
    obtain ⟨p1, p2⟩ := rank_order h (nd.erase x)
    have er : rankF ps (n + 1) left = x :: rankF ps n (left.erase x) := by rw [rankF, ef]
    rw [er]
    refine ⟨(p1.cons x).trans (List.perm_cons_erase mx).symm, fun p hp h1 h2 => ?_⟩
    have n2 : p.2 ≠ x := fun e => by
      unfold freeB at fx
      rw [List.any_eq_true.mpr ⟨p, hp, by rw [decide_eq_true h1, decide_eq_true e]; rfl⟩] at fx
      cases fx
    by_cases e1 : p.1 = x
    · rw [e1, List.idxOf_cons_self]
      exact Nat.zero_le _
    · rw [idx_ne _ (Ne.symm e1), idx_ne _ (Ne.symm n2)]
      exact Nat.succ_le_succ (p2 p hp ((List.mem_erase_of_ne e1).mpr h1) ((List.mem_erase_of_ne n2).mpr h2))
theorem order_lt {ps : List (Str × Str)} {xs : List Str} (h : IsOrder ps xs) (hz : ∀ p ∈ ps, p.1 ∈ xs ∧ p.2 ∈ xs ∧ p.1 ≠ p.2) {a b : Str} (p : Path ps a b) : xs.idxOf a < xs.idxOf b := by
  have st : ∀ p ∈ ps, xs.idxOf p.1 < xs.idxOf p.2 := fun p hp => by
    obtain ⟨m1, m2, ne⟩ := hz p hp
    refine Nat.lt_of_le_of_ne (h p hp) fun e => ne ?_
    have e1 := (ix_first m1).1
    have e2 := (ix_first m2).1
    rw [e, e2] at e1
    exact (Option.some.inj e1).symm
  induction p with
  | one m => exact st _ m
  | more _ m ih => exact Nat.lt_trans ih (st _ m)
/-- closed: each begins where the one ahead ends, the first where the last does -/
def Clo (wp : List (Str × Str)) : Prop := ∀ (i : Nat) (x y : Str × Str), wp[i]? = some x → wp[if i = 0 then wp.length - 1 else i - 1]? = some y → x.1 = y.2
theorem ring_clo {ps wp : List (Str × Str)} : IsRing ps wp ↔ wp ≠ [] ∧ (∀ x ∈ wp, x ∈ ps) ∧ Clo wp ∧ (wp.map (·.1)).Nodup := by
  unfold IsRing Clo
  constructor
  · rintro ⟨a, b, c, d⟩
    exact ⟨a, b, fun i x y hx hy => c i x y hx (by rw [at_prev wp (List.getElem?_eq_some_iff.mp hx).1]; exact hy), d⟩
  · rintro ⟨a, b, c, d⟩
    exact ⟨a, b, fun i x y hx hy => c i x y hx (by rw [at_prev wp (List.getElem?_eq_some_iff.mp hx).1] at hy; exact hy), d⟩
theorem ring_path {ps wp : List (Str × Str)} (h : IsRing ps wp) : ∃ x, Path ps x x := by
  obtain ⟨ne, sub, clo, _⟩ := ring_clo.mp h
  cases wp with
  | nil => exact absurd rfl ne
  | cons p0 l =>
    have go : ∀ (i : Nat) (x : Str × Str), (p0 :: l)[i]? = some x → Path ps p0.1 x.2 := fun i => by
      induction i with
      | zero => exact fun x hx => by cases hx; exact .one (sub _ (.head _))
      | succ i ih =>
        intro x hx
        have lt := (List.getElem?_eq_some_iff.mp hx).1
        obtain ⟨y, hy⟩ : ∃ y, (p0 :: l)[i]? = some y := ⟨_, List.getElem?_eq_getElem (by omega)⟩
        have e : x.1 = y.2 := clo (i + 1) x y hx (by rw [if_neg (by omega)]; exact hy)
        refine .more (ih y hy) ?_
        rw [← e]
        exact sub x (List.mem_of_getElem? hx)
    obtain ⟨y, hy⟩ : ∃ y, (p0 :: l)[(p0 :: l).length - 1]? = some y := ⟨_, List.getElem?_eq_getElem (by simp)⟩
    have e : p0.1 = y.2 := clo 0 p0 y rfl hy
    have := go _ y hy
    rw [← e] at this
    exact ⟨_, this⟩
theorem clo_turn {x : Str × Str} {l : List (Str × Str)} (h : Clo (x :: l)) : Clo (l ++ [x]) := by
  intro i a b ha hb
  have lt := (List.getElem?_eq_some_iff.mp ha).1
  rw [List.length_append, List.length_singleton] at lt
  rw [List.length_append, List.length_singleton] at hb
  by_cases e : i < l.length
  · rw [List.getElem?_append_left e] at ha
    have ha : (x :: l)[i + 1]? = some a := ha
    by_cases z : i = 0
    · subst z
      rw [if_pos rfl, Nat.add_sub_cancel, List.getElem?_append_right (Nat.le_refl _), Nat.sub_self] at hb
      exact h 1 a b ha hb
    · rw [if_neg z, List.getElem?_append_left (by omega)] at hb
      refine h (i + 1) a b ha ?_
      rw [if_neg (by omega)]
      show (x :: l)[i]? = _
      obtain ⟨j, rfl⟩ : ∃ j, i = j + 1 := ⟨i - 1, by omega⟩
      exact hb
  · have ei : i = l.length := by omega
    subst ei
    rw [List.getElem?_append_right (Nat.le_refl _), Nat.sub_self] at ha
    refine h 0 a b ha ?_
    rw [if_pos rfl]
    show (x :: l)[l.length]? = _
    by_cases z : l.length = 0
    · rw [if_pos z, Nat.add_sub_cancel, List.getElem?_append_right (Nat.le_refl _), Nat.sub_self] at hb
      rw [z]
      exact hb
    · rw [if_neg z, List.getElem?_append_left (by omega)] at hb
      obtain ⟨j, ej⟩ : ∃ j, l.length = j + 1 := ⟨l.length - 1, by omega⟩
      rw [ej] at hb ⊢
      exact hb
theorem ring_turn {ps : List (Str × Str)} {x : Str × Str} {l : List (Str × Str)} (h : IsRing ps (x :: l)) : IsRing ps (l ++ [x]) := by
  obtain ⟨_, b, c, d⟩ := ring_clo.mp h
  refine ring_clo.mpr ⟨by simp, fun y hy => b y ?_, clo_turn c, ?_⟩
  · rcases List.mem_append.mp hy with h | h
    · exact .tail _ h
    · rw [List.mem_singleton.mp h]; exact .head _
  · refine (List.Perm.nodup_iff (List.Perm.map _ ?_)).mp d
    exact (List.perm_append_comm (l₁ := [x]) (l₂ := l))
theorem ring_turned {ps wp : List (Str × Str)} (h : IsRing ps wp) : ∀ {k : Nat}, k ≤ wp.length → IsRing ps (wp.drop k ++ wp.take k)
  | 0, _ => by rw [List.take_zero, List.append_nil]; exact h
  | k + 1, hk => by
    have ih := ring_turned h (k := k) (by omega)
    rw [List.drop_eq_getElem_cons (show k < wp.length by omega)] at ih
    have := ring_turn (l := wp.drop (k + 1) ++ wp.take k) ih
    rw [List.append_assoc, show wp.take k ++ [wp[k]] = wp.take (k + 1) by rw [List.take_add_one, List.getElem?_eq_getElem]; rfl] at this
    exact this
theorem wy_at {ps : List (Str × Str)} {a b : Str} {wp : List (Str × Str)} (h : Wy ps a b wp) : ∀ (i : Nat) (x : Str × Str), wp[i]? = some x → (i = 0 → x.1 = a) ∧ (i + 1 = wp.length → x.2 = b) ∧ ∀ y, 0 < i → wp[i - 1]? = some y → x.1 = y.2 := by
  induction h with
  | nil => exact fun i x hx => by cases hx
  | @snoc b c wp h m ih =>
    intro i x hx
    have lt := (List.getElem?_eq_some_iff.mp hx).1
    rw [List.length_append, List.length_singleton] at lt ⊢
    by_cases e : i < wp.length
    · rw [List.getElem?_append_left e] at hx
      obtain ⟨i1, i2, i3⟩ := ih i x hx
      refine ⟨i1, fun z => by omega, fun y h0 hy => i3 y h0 ?_⟩
      rw [List.getElem?_append_left (by omega)] at hy
      exact hy
    · have ei : i = wp.length := by omega
      subst ei
      rw [List.getElem?_append_right (Nat.le_refl _), Nat.sub_self] at hx
      have hx : (b, c) = x := Option.some.inj hx
      subst hx
      refine ⟨fun z => h.stay (List.length_eq_zero_iff.mp z), fun _ => rfl, fun y h0 hy => ?_⟩
      rw [List.getElem?_append_left (by omega)] at hy
      exact ((ih (wp.length - 1) y hy).2.1 (by omega)).symm
theorem wy_ring {ps : List (Str × Str)} {x : Str} {wp : List (Str × Str)} (h : Wy ps x x wp) (nd : (wp.map (·.1)).Nodup) (ne : wp ≠ []) : IsRing ps wp := by
  refine ring_clo.mpr ⟨ne, h.sub, fun i a b ha hb => ?_, nd⟩
  have lt := (List.getElem?_eq_some_iff.mp ha).1
  by_cases z : i = 0
  · subst z
    rw [if_pos rfl] at hb
    rw [(wy_at h 0 a ha).1 rfl, (wy_at h _ b hb).2.1 (by omega)]
  · rw [if_neg z] at hb
    exact (wy_at h i a ha).2.2 b (by omega) hb
def spOF (T : Tx K mg w) : Sp := fun vs H Q _ => ∃ (n s th : Addr) (ys : List V) (ps : List (Str × Str)) (zs xs : List Str) (ot : Obj), vs = [.ref n, .ref s, .ref th] ∧ Rd H n (.tup (zs.map V.str)) ∧ H s = some (.tup ys) ∧ NkAll H ys (ps.map sayK) ∧ H th = some (.frz ot (.tup (xs.map V.str))) ∧ TD ot ∧ xs.Perm zs ∧ zs.Nodup ∧ zs.length ≤ 9 ∧ ps.length ≤ 80 ∧ (∀ p ∈ ps, p.1 ∈ zs ∧ p.2 ∈ zs) ∧ Tbs (tbs T) H ∧ (∀ H', Gk (tbs T) H H' → IsOrder ps xs → Q .non H') ∧
  ∀ r pth wd us H', Gk (tbs T) H H' → ¬ IsOrder ps xs → H' r = some (.tup [.str wd, .ref pth]) → H' pth = some (.tup us) → Q (.ref r) H'
theorem ok_of (T : Tx K mg w) (B : Tb T base) : FnOk P w K mg base CX0 3 T.f_order_fault T.d_order_fault ["names", "some", "thing"] (spOF T) := by
  refine T.F_order_fault.ok S_order_fault (fun vs H Q E h => ?_) (fun A outer s0 H vs Q E hr h => ?_)
  · obtain ⟨n, s, th, ys, ps, zs, xs, ot, rfl, _⟩ := h
    rfl
  · obtain ⟨n, s, th, ys, ps, zs, xs, ot, rfl, hn, hs, nk, hth, tdt, pm, ndz, l9, l40, hz, hB, q0, q1⟩ := h
    have G_first_place := fun (q : Str) (cdv : Value) => first_gives (X := (cxOf CX0 P w K mg base N_order_fault "order_fault" (defScope s_order_fault) T.f_order_fault (Value.ref T.k_order_fault) A outer s0 H E).nox) T q cdv
    refine ⟨_, (pss_cons (ps_if (PW.pt (pw_or (pt_not (pt_val (pe_callB call_isi (by rfl) T.m_isinstance (by decide +kernel) (pa_cons (pv 2) (pa_cons (pe_bltn (v := .ty "tuple") (by rfl) T.m_tuple (by decide +kernel) rfl) pa_nil))))) (pw_or1 (pt_cmpR op_ne (pe_callB call_len_seq (by rfl) T.m_len PySem.boot_len (pa_cons (pv 2) pa_nil)) (pe_callB call_len_seq (by rfl) T.m_len PySem.boot_len (pa_cons (pv 0) pa_nil)) (nomark _))))) (pss_one (ps_ret (pe_tup (pa_cons pe_str (pa_cons (pe_tup pa_nil) pa_nil))))) pss_nil)
      (pss_cons (ps_set (i := 3) S_order_fault.nd rfl (.inl rfl) (LM.lamcall1 (n := 0) (k := "k") (c := T.k_order_fault) (P := T.P_order_fault) (by rfl) T.g_first_place T.F_first_place T.b_first_place S_first_place rfl (by first | exact .inl rfl | exact .inr (.inl rfl)) (G_first_place _) (lamTab B.b_order_fault) rfl (hr.mono (by decide)) (show LM.Scp (defScope s_order_fault) _ "k" from LM.scp_by (by decide +kernel)) (show ("k" : Str) ∉ N_order_fault by decide +kernel) rfl (fun _ _ _ _ _ _ => rfl) (pv 2) rfl (fun A outer s H f c hr => (pe_or (pe_cmpR (r := rIn K true) op_notIn_seq (pe_ix (r := rIxT K) ix_tup (pv 2) (pv 4) (fun _ _ => rfl)) (pv 0) (by rfl)) (pe_one (pe_cmpR (r := rIn K false) op_in_seq (pe_ix (r := rIxT K) ix_tup (pv 2) (pv 4) (fun _ _ => rfl)) (pe_slice (r := rSlA K) sl_tupA (pv 2) po_none (po_some (pv 4))) (by rfl)))))))
      (pss_cons (ps_if (pt_cmpR op_notN (pv 3) pe_non (nomark _)) (pss_one (ps_ret (pe_tup (pa_cons pe_str (pa_cons (pv 3) pa_nil))))) pss_nil)
      (pss_cons (ps_set (i := 3) S_order_fault.nd rfl (.inl rfl) (LM.lamcall1 (n := 0) (k := "k") (c := T.k_order_fault) (P := T.P_order_fault) (by rfl) T.g_first_place T.F_first_place T.b_first_place S_first_place rfl (by first | exact .inl rfl | exact .inr (.inl rfl)) (G_first_place _) (lamTab B.b_order_fault) rfl (hr.mono (by decide)) (show LM.Scp (defScope s_order_fault) _ "k" from LM.scp_by (by decide +kernel)) (show ("k" : Str) ∉ N_order_fault by decide +kernel) rfl (fun _ _ _ _ _ _ => rfl) (pv 1) rfl (fun A outer s H f c hr => (pe_cmpR op_lt (pe_bmD PySem.F.plainAttrs_tuple PySem.F.slot_tuple_index PySem.F.type_tuple_index (mt_tup_indexK (K1 := K) rfl) (pv 2) (pa_cons (pe_ix (r := rIxT K) ix_tup (pe_ix (r := rIxT K) ix_tup (pv 1) (pv 4) (fun _ _ => rfl)) pe_int (fun _ _ => rfl)) pa_nil)) (pe_bmD PySem.F.plainAttrs_tuple PySem.F.slot_tuple_index PySem.F.type_tuple_index (mt_tup_indexK (K1 := K) rfl) (pv 2) (pa_cons (pe_ix (r := rIxT K) ix_tup (pe_ix (r := rIxT K) ix_tup (pv 1) (pv 4) (fun _ _ => rfl)) pe_int (fun _ _ => rfl)) pa_nil)) (nomark _)))))
      (pss_cons (ps_if (pt_cmpR op_notN (pv 3) pe_non (nomark _)) (pss_one (ps_ret (pe_tup (pa_cons pe_str (pa_cons (pv 3) pa_nil))))) pss_nil)
      (pss_one (ps_ret pe_non))))))), ?_⟩
    have lxz := pm.length_eq
    have lys : ys.length = ps.length := by have := nk.length; rw [List.length_map] at this; exact this
    refine ⟨_, rfl, _, _, .type "tuple", _, _, rfl, .ty _, .fTuple hth, kit_ty (r := true) (by decide +kernel), _, rfl, iteF ?_⟩
    refine ⟨_, rfl, th, _, rfl, .inr (.inl (.inr ⟨_, hth⟩)), ?_⟩
    refine ⟨_, rfl, n, _, rfl, .inr (.inl hn), rfl, _, rfl, ite2 (fun e => ?_) (fun _ => ?_)⟩
    · rw [List.length_map, List.length_map, lxz] at e
      simp at e
    have mT : (T.P_order_fault, ("order_fault" : Str) ++ (".<locals>." : Str) ++ ("<lambda>" : Str)) ∈ (tbs T).l := by simp [tbs]
    refine ⟨_, rfl, hB.lam _ mT, fun H1 md => ?_⟩
    have g1 := Gk.made hB mT md
    have hn1 := rd_g hn g1
    have hth1 := g1.1 _ _ hth (fun ps z => by cases z)
    have hs1 := g1.tup hs
    have nk1 := nk.at g1.tups
    refine ⟨th, xs.map V.str, fun i H' => Same H1 H' ∧ Gk (tbs T) H H', rfl, .inr (.inl (.inr ⟨_, hth1⟩)), by rw [List.length_map]; omega, ⟨fun _ _ e => e, g1⟩, ?_, ?_⟩
    · rintro i H' hi ⟨sy, gy⟩
      rw [List.length_map] at hi
      obtain ⟨x, hx⟩ : ∃ p, xs[i]? = some p := ⟨xs[i], List.getElem?_eq_getElem hi⟩
      have hx2 : (xs.map V.str)[i]? = some (.str x) := by rw [List.getElem?_map, hx]; rfl
      have mx := pm.mem_iff.mp (List.mem_of_getElem? hx)
      have nn : (!inV (.str x) (zs.map V.str)) = false := by rw [inV_strs, decide_eq_true mx]; rfl
      have hth2 := sy _ _ hth1
      refine ⟨sy, fun R hR => ?_⟩
      refine ⟨_, rfl, _, rfl, th, _, _, .str x, rfl, rfl, .inl (.inr ⟨_, hth2⟩), at_of (j := i) (by omega) hx2, _, rfl, n, _, rfl, .inr (.inl (rd_s hn1 sy)), rfl, flat_strs _, ?_⟩
      refine ⟨_, rfl, ?_⟩
      show if (!inV (V.str x) (zs.map V.str)) = true then _ else _
      rw [if_neg (by rw [nn]; decide)]
      refine ⟨_, rfl, _, rfl, th, _, _, .str x, rfl, rfl, .inl (.inr ⟨_, hth2⟩), at_of (j := i) (by omega) hx2, _, rfl, _, rfl, 0 + (i : Int), rfl, th, _, rfl, .inl (.inr ⟨_, hth2⟩), fun wh => ?_, fun _ S nS => ?_⟩
      · have := wh.2
        rw [show (0 + (i : Int)) = (i : Int) by omega, HT.sIx_nat, List.length_map] at this
        omega
      have ecut : cutV (xs.map V.str) none (some (0 + (i : Int))) = ((xs.take i).map V.str) := by
        rw [List.map_take]
        exact cut_nat (by omega) (by rw [List.length_map]; omega)
      rw [ecut]
      have sS := same_upd (o := .tup ((xs.take i).map V.str)) nS
      refine ⟨S, _, rfl, .inr (.inl (.inl upd_same)), rfl, flat_strs _, ?_⟩
      have nt : inV (.str x) ((xs.take i).map V.str) = false := by
        rw [inV_strs]
        refine decide_eq_false fun mz => ?_
        obtain ⟨j, hj⟩ := List.mem_iff_getElem?.mp mz
        have lj := (List.getElem?_eq_some_iff.mp hj).1
        rw [List.length_take] at lj
        rw [List.getElem?_take, if_pos (by omega)] at hj
        have := nd_ix (pm.nodup_iff.mpr ndz) hj hx
        omega
      refine hR _ _ (fun e => ?_) (fun e => ⟨sy.trans sS, gy.trans (.of_same sS gy.2)⟩)
      have e : inV (.str x) ((xs.take i).map V.str) = true := e
      rw [nt] at e
      cases e
    · rintro Hx ⟨sx, gx⟩
      refine ⟨_, rfl, rfl, false, rfl, iteF ?_⟩
      refine ⟨_, rfl, gx.2.lam _ mT, fun H2 md2 => ?_⟩
      have g2 := gx.trans (Gk.made gx.2 mT md2)
      have hth2 := g2.1 _ _ hth (fun ps z => by cases z)
      have hs2 := g2.tup hs
      have nk2 := nk.at g2.tups
      refine ⟨s, ys, fun i H' => H' = H2 ∧ ∀ p ∈ ps.take i, xs.idxOf p.1 ≤ xs.idxOf p.2, rfl, .inr (.inl (.inl hs2)), by omega, ⟨rfl, fun p hp => by rw [List.take_zero] at hp; cases hp⟩, ?_, ?_⟩
      · rintro i H' hi ⟨rfl, al⟩
        obtain ⟨p, hp⟩ : ∃ p, ps[i]? = some p := ⟨ps[i]'(by omega), List.getElem?_eq_getElem _⟩
        obtain ⟨y, hy, hyy⟩ := say_at nk2 hp
        have mp := List.mem_of_getElem? hp
        obtain ⟨a1, a2⟩ := ix_first (pm.mem_iff.mpr (hz p mp).1)
        obtain ⟨b1, b2⟩ := ix_first (pm.mem_iff.mpr (hz p mp).2)
        refine ⟨fun _ _ e => e, fun R hR => ?_⟩
        refine ⟨_, rfl, ⟨th, ot, _, rfl, hth2, tdt⟩, _, rfl, _, rfl, s, _, _, .ref y, rfl, rfl, .inl (.inl hs2), at_of (j := i) (by omega) hy, y, _, 1, .str p.2, rfl, rfl, .inl (.inl hyy), rfl, th, xs, p.2, xs.idxOf p.2, rfl, rfl, .inl (.inr ⟨_, hth2⟩), b1, b2, ?_⟩
        refine ⟨_, rfl, ⟨th, ot, _, rfl, hth2, tdt⟩, _, rfl, _, rfl, s, _, _, .ref y, rfl, rfl, .inl (.inl hs2), at_of (j := i) (by omega) hy, y, _, 0, .str p.1, rfl, rfl, .inl (.inl hyy), rfl, th, xs, p.1, xs.idxOf p.1, rfl, rfl, .inl (.inr ⟨_, hth2⟩), a1, a2, ?_⟩
        refine ⟨_, _, rfl, rfl, ?_⟩
        refine hR _ _ (fun e q nq => ?_) (fun e => ⟨rfl, fun p2 hp2 => ?_⟩)
        · have e : ((xs.idxOf p.2 : Nat) : Int) < ((xs.idxOf p.1 : Nat) : Int) := of_decide_eq_true e
          refine ⟨_, rfl, rfl, true, rfl, iteT ?_⟩
          refine ⟨_, rfl, sz (by show 2 ≤ 1000; decide), fun r nr => ?_⟩
          have s1 := same_upd (o := .tup [.int (0 + (i : Int))]) nq
          have s2 := same_upd (o := .tup [.str "saying", .ref q]) nr
          exact q1 r q _ _ _ (g2.trans (.of_same (s1.trans s2) g2.2)) (fun z => by have := z p mp; omega) upd_same (s2 _ _ upd_same)
        · have e : ¬ ((xs.idxOf p.2 : Nat) : Int) < ((xs.idxOf p.1 : Nat) : Int) := of_decide_eq_false e
          rw [List.take_add_one, hp] at hp2
          rcases List.mem_append.mp hp2 with h | h
          · exact al p2 h
          · rw [show p2 = p by simpa using h]
            omega
      · rintro H' ⟨rfl, al⟩
        rw [lys, List.take_of_length_le (Nat.le_refl _)] at al
        refine ⟨_, rfl, rfl, false, rfl, iteF ?_⟩
        exact q0 _ g2 al
end
end L52

set_option Elab.async false
set_option linter.all false
set_option maxRecDepth 100000
set_option maxHeartbeats 2000000
namespace L52
open PySem PySem.Spec PyProof.Rows L2 LT
open My hiding Tbs Gk Tk
section
variable {P : Program} {w : World} {K : PySem.W.Frag} {mg : Str → Option Value} {base : Heap}
/-- the error's own __init__ -/
def spInit (C : Addr) : Sp := fun vs H Q _ => ∃ (a : Addr) (v u : V), vs = [.ref a, v, u] ∧ H a = some (exo a C none) ∧ ∀ dx, H dx = none → dx ≠ a → Q .non (upd (upd (upd H dx (exd dx [(("word" : Str), v)])) a (exo a C (some dx))) dx (exd dx [(("path" : Str), u), (("word" : Str), v)]))
theorem ok_init (T : Tx K mg w) : FnOk P w K mg base CX0 1 T.f_NoPaper T.d_NoPaper ["self", "word", "path"] (spInit T.C_NoPaper) := by
  refine T.F_NoPaper.ok S_NoPaper (fun vs H Q E h => ?_) (fun cdv A outer s H vs Q E hr h => ?_)
  · obtain ⟨a, v, u, rfl, _⟩ := h
    rfl
  · obtain ⟨a, v, u, rfl, ha, q⟩ := h
    refine ⟨_, pss_cons (ps_ost (pv 0) (pv 1)) (pss_one (ps_ost (pv 0) (pv 2))), _, rfl, _, rfl, a, T.C_NoPaper, rfl, T.oex_NoPaper, T.no_NoPaper_word, .inl ⟨ha, fun dx n ne => ?_⟩⟩
    refine ⟨_, rfl, _, rfl, a, T.C_NoPaper, rfl, T.oex_NoPaper, T.no_NoPaper_path, .inr ⟨dx, [(("word" : Str), v)], upd_same, ?_, by show 1 ≤ 900; decide, ?_⟩⟩
    · rw [upd_ne ne]; exact upd_same
    · exact q dx n ne
theorem exc_same {H : Hp} {a d : Addr} {x y y2 z o : HO} (ha : H a = none) (hd : upd H a x d = none) (ne : d ≠ a) : Same H (upd (del (upd (upd (upd (upd H a x) d y) a z) d y2) a) d o) := fun b u e => by
  have h1 : b ≠ a := ne_of_none e ha
  have h2 : b ≠ d := fun w => by rw [← w, upd_ne h1, e] at hd; cases hd
  rw [upd_ne h2, del_ne h1, upd_ne h2, upd_ne h1, upd_ne h2, upd_ne h1]
  exact e
def spLR (T : Tx K mg w) : Sp := fun vs H Q E => ∃ (n : V) (s th : Addr) (ys : List V) (ps wp : List (Str × Str)), vs = [n, .ref s, .ref th] ∧ H s = some (.tup ys) ∧ NkAll H ys (ps.map sayK) ∧ WT H th wp ∧ wp.length ≤ 50 ∧ Tbs (tbs T) H ∧ (∀ H', Gk (tbs T) H H' → IsRing ps wp → Q (.bl true) H') ∧
  ∀ d pth wd us H', Gk (tbs T) H H' → ¬ IsRing ps wp → H' d = some (.xd [(("path" : Str), .ref pth), (("word" : Str), .str wd)]) → H' pth = some (.tup us) → E (.ref T.C_NoPaper) (some d) H'
theorem ok_lr (T : Tx K mg w) (B : Tb T base) : FnOk P w K mg base (L2.CX P w) 4 T.f_lets_ring T.d_lets_ring ["names", "some", "thing"] (spLR T) := by
  have G_ring_fault : FnOk P w K mg base CX0 3 T.f_ring_fault T.d_ring_fault ["some", "thing"] (spRF T) := ok_rf T B
  have G_NoPaper : FnOk P w K mg base CX0 1 T.f_NoPaper T.d_NoPaper ["self", "word", "path"] (spInit T.C_NoPaper) := ok_init T
  refine T.F_lets_ring.okX S_lets_ring (fun vs H Q E h => ?_) (fun cdv A outer s H vs Q E hr h => ?_)
  · obtain ⟨n, s, th, ys, ps, wp, rfl, _⟩ := h
    rfl
  · obtain ⟨n, s, th, ys, ps, wp, rfl, hs, nk, hw, l50, hB, q0, q1⟩ := h
    refine ⟨_, (pss_cons (ps_set (i := 3) S_lets_ring.nd rfl (.inl rfl) (pe_call G_ring_fault hr (by rfl) T.g_ring_fault T.F_ring_fault.kp T.b_ring_fault .nil pass0 (pa_cons (pv 1) (pa_cons (pv 2) pa_nil))))
      (pss_cons (ps_if (pt_cmpR op_notN (pv 3) pe_non (nomark _)) (pss_one (ps_raise rfl (takes_of rfl rfl rfl rfl) (pmk_oex T.oex_NoPaper T.ic_NoPaper T.ti_NoPaper G_NoPaper (hr.mono (by decide)) T.bi_NoPaper .nil pass0 (by rfl) T.gC_NoPaper (pa_cons (pe_ix ix_tup (pv 3) pe_int (fun _ _ => rfl)) (pa_cons (pe_ix ix_tup (pv 3) pe_int (fun _ _ => rfl)) pa_nil))))) pss_nil)
      (pss_one (ps_ret pe_bl)))), ?_⟩
    refine ⟨_, rfl, _, rfl, s, th, ys, ps, wp, rfl, hs, nk, hw, l50, hB, fun H1 g1 ir => ?_, fun r pth wd us H1 g1 ir hr1 hp1 => ?_⟩
    · refine ⟨_, rfl, rfl, false, rfl, iteF ?_⟩
      exact q0 _ g1 ir
    · refine ⟨_, rfl, rfl, true, rfl, iteT ?_⟩
      refine ⟨_, rfl, r, _, 0, .str wd, rfl, rfl, .inl (.inl hr1), rfl, _, rfl, r, _, 1, .ref pth, rfl, rfl, .inl (.inl hr1), rfl, ?_⟩
      refine ⟨by show 2 ≤ 1000; decide, fun c nc => ⟨c, _, _, rfl, upd_same, fun dx nd ne => ⟨rfl, dx, [(("path" : Str), .ref pth), (("word" : Str), .str wd)], ?_, upd_same, ?_, ?_⟩⟩⟩
      · rw [upd_ne ne.symm]; exact upd_same
      · rw [upd_ne ne] at nd; exact nd
      · have sm := exc_same (y := exd dx [(("word" : Str), .str wd)]) (y2 := exd dx [(("path" : Str), .ref pth), (("word" : Str), .str wd)]) (z := exo c T.C_NoPaper (some dx)) (o := .xd [(("path" : Str), .ref pth), (("word" : Str), .str wd)]) nc nd ne
        exact q1 dx pth wd us _ (g1.trans (.of_same sm g1.2)) ir upd_same (sm _ _ hp1)
def spLO (T : Tx K mg w) : Sp := fun vs H Q E => ∃ (n s th : Addr) (ys : List V) (ps : List (Str × Str)) (zs xs : List Str) (ot : Obj), vs = [.ref n, .ref s, .ref th] ∧ Rd H n (.tup (zs.map V.str)) ∧ H s = some (.tup ys) ∧ NkAll H ys (ps.map sayK) ∧ H th = some (.frz ot (.tup (xs.map V.str))) ∧ TD ot ∧ xs.Perm zs ∧ zs.Nodup ∧ zs.length ≤ 9 ∧ ps.length ≤ 80 ∧ (∀ p ∈ ps, p.1 ∈ zs ∧ p.2 ∈ zs) ∧ Tbs (tbs T) H ∧ (∀ H', Gk (tbs T) H H' → IsOrder ps xs → Q (.bl true) H') ∧
  ∀ d pth wd us H', Gk (tbs T) H H' → ¬ IsOrder ps xs → H' d = some (.xd [(("path" : Str), .ref pth), (("word" : Str), .str wd)]) → H' pth = some (.tup us) → E (.ref T.C_NoPaper) (some d) H'
theorem ok_lo (T : Tx K mg w) (B : Tb T base) : FnOk P w K mg base (L2.CX P w) 4 T.f_lets_order T.d_lets_order ["names", "some", "thing"] (spLO T) := by
  have G_order_fault : FnOk P w K mg base CX0 3 T.f_order_fault T.d_order_fault ["names", "some", "thing"] (spOF T) := ok_of T B
  have G_NoPaper : FnOk P w K mg base CX0 1 T.f_NoPaper T.d_NoPaper ["self", "word", "path"] (spInit T.C_NoPaper) := ok_init T
  refine T.F_lets_order.okX S_lets_order (fun vs H Q E h => ?_) (fun cdv A outer s H vs Q E hr h => ?_)
  · obtain ⟨n, s, th, ys, ps, zs, xs, ot, rfl, _⟩ := h
    rfl
  · obtain ⟨n, s, th, ys, ps, zs, xs, ot, rfl, hn, hs, nk, hth, tdt, pm, ndz, l9, l40, hz, hB, q0, q1⟩ := h
    refine ⟨_, (pss_cons (ps_set (i := 3) S_lets_order.nd rfl (.inl rfl) (pe_call G_order_fault hr (by rfl) T.g_order_fault T.F_order_fault.kp T.b_order_fault .nil pass0 (pa_cons (pv 0) (pa_cons (pv 1) (pa_cons (pv 2) pa_nil)))))
      (pss_cons (ps_if (pt_cmpR op_notN (pv 3) pe_non (nomark _)) (pss_one (ps_raise rfl (takes_of rfl rfl rfl rfl) (pmk_oex T.oex_NoPaper T.ic_NoPaper T.ti_NoPaper G_NoPaper (hr.mono (by decide)) T.bi_NoPaper .nil pass0 (by rfl) T.gC_NoPaper (pa_cons (pe_ix ix_tup (pv 3) pe_int (fun _ _ => rfl)) (pa_cons (pe_ix ix_tup (pv 3) pe_int (fun _ _ => rfl)) pa_nil))))) pss_nil)
      (pss_one (ps_ret pe_bl)))), ?_⟩
    refine ⟨_, rfl, _, rfl, _, rfl, n, s, th, ys, ps, zs, xs, ot, rfl, hn, hs, nk, hth, tdt, pm, ndz, l9, l40, hz, hB, fun H1 g1 ir => ?_, fun r pth wd us H1 g1 ir hr1 hp1 => ?_⟩
    · refine ⟨_, rfl, rfl, false, rfl, iteF ?_⟩
      exact q0 _ g1 ir
    · refine ⟨_, rfl, rfl, true, rfl, iteT ?_⟩
      refine ⟨_, rfl, r, _, 0, .str wd, rfl, rfl, .inl (.inl hr1), rfl, _, rfl, r, _, 1, .ref pth, rfl, rfl, .inl (.inl hr1), rfl, ?_⟩
      refine ⟨by show 2 ≤ 1000; decide, fun c nc => ⟨c, _, _, rfl, upd_same, fun dx nd ne => ⟨rfl, dx, [(("path" : Str), .ref pth), (("word" : Str), .str wd)], ?_, upd_same, ?_, ?_⟩⟩⟩
      · rw [upd_ne ne.symm]; exact upd_same
      · rw [upd_ne ne] at nd; exact nd
      · have sm := exc_same (y := exd dx [(("word" : Str), .str wd)]) (y2 := exd dx [(("path" : Str), .ref pth), (("word" : Str), .str wd)]) (z := exo c T.C_NoPaper (some dx)) (o := .xd [(("path" : Str), .ref pth), (("word" : Str), .str wd)]) nc nd ne
        exact q1 dx pth wd us _ (g1.trans (.of_same sm g1.2)) ir upd_same (sm _ _ hp1)
end
end L52

set_option Elab.async false
set_option linter.all false
set_option maxRecDepth 100000
set_option maxHeartbeats 4000000
/-! isinstance of a caught error of the program's own, with fields or without, against one class or a tuple of classes, whatever the answer. -/
namespace My
open PySem PySem.Spec PyProof.Rows L2
section
open PySem.W PySem.Calls
variable {prog : Program} {w : World} {A : Around} {E : Value → Shared → Prop} {s : Shared} {K : PySem.W.Frag} {x D : Addr} {ox : Obj} {od : Option Obj}
/-- __class__ of an error: its class's own word comes ahead of whatever its dict holds -/
theorem cls_bind (C : ExcC K D) : findObj K D od "__class__" = some (.bind (.builtin "getset_descriptor.__get__") (.builtin "object.__class__")) := by
  have c0 : (clsIn K D).isSome = true := by
    obtain ⟨cd, hc, _⟩ := any_some C.hd
    rw [hc]
    rfl
  cases od with
  | none => exact findObj_dataN c0 C.ha C.hn C.ht
  | some o => exact findObj_data c0 C.ha C.hn C.ht
theorem err_class (C : ExcC K D) {R : Option Value → Shared → Prop} (kin : K.In s.heap) (at_ : InstAt s.heap x ox D od) (q : R (some (.ref D)) { s with toks := s.toks + 1 }) : wpAny (model prog w) A (getAttr? (.ref x) "__class__") R E s := by
  obtain ⟨h0, g0, d0, t0, o0⟩ := s
  have own := at_.type (M := model prog w)
  have hook := looks_findIn (M := model prog w) kin C.hg
  have rest := looks_findIn (M := model prog w) kin C.hk
  have word := looks_find (M := model prog w) kin at_ (cls_bind (od := od) C)
  have below : Looks (model prog w) h0 (isInstance (.ref x) (.type "BaseException")) true := own.andThen (looks_subIn kin C.hs)
  have other : (Value.builtin "BaseException.__getattribute__" == Value.builtin "object.__getattribute__") = false := by decide +kernel
  unfold getAttr? getAttrBy? getAttrBy
  refine wpAny_bind (wpAny_mkText (wpAny_bind (wpAny_attempt (wpAny_holding (wpAny_bind (own.at (wpAny_bind (hook.at ?_))))))))
  show wpAny _ _ (ite ((onTheHeap (Value.ref D) && Value.builtin "BaseException.__getattribute__" == Value.builtin "object.__getattribute__") = true) _ _) _ _ _
  rw [if_neg (by rw [other, Bool.and_false]; exact Bool.noConfusion)]
  unfold getAttrByItsOwn hookBefore
  refine wpAny_bind ?_
  rw [if_pos (by rfl : onTheHeap (Value.ref D) = true)]
  refine rest.at (wpAny_bind (wpAny_attempt (wpAny_holding ?_)))
  unfold callGetattribute
  rw [if_neg (show ¬ (false && onTheHeap (Value.builtin "BaseException.__getattribute__")) = true from Bool.noConfusion)]
  unfold boundAndCalled
  rw [F.excAttr_ValueError.ga.bind (.ref x)]
  refine wpAny_bind (wpAny_pure (show wpAny _ _ (call (.builtin "BaseException.__getattribute__") [.ref x, .str "__class__" t0]) _ _ _ from wpAny_call (codeAny_call_builtin F.excAttr_ValueError.ga.plain F.entry_bexc_ga ?_)))
  refine @check_slot (model prog w) _ _ ⟨h0, g0, d0, t0 + 1, o0⟩ "BaseException.__getattribute__" "BaseException" "__getattribute__" (.ref x) [.str "__class__" t0] [] _ (by decide +kernel) (by decide +kernel) below (F.args_bexc_ga (.ref x) (.str "__class__" t0)) ?_
  unfold Builtin.«object.__getattribute__»
  refine wpAny_bind (wpAny_of_eq (a := ((Value.ref x : Value), [Value.str "__class__" t0])) (by first | rfl | (simp only [slotArgs]; rfl)) (wpAny_bind (wpAny_pure (wpAny_bind (own.at (wpAny_bind (word.at ?_)))))))
  show wpAny _ _ (holding [Value.builtin "object.__class__"] (call (.builtin "getset_descriptor.__get__") [.builtin "object.__class__", .ref x, .ref D]) >>= ret) _ _ _
  refine wpAny_bind (wpAny_holding (wpAny_call (class_get (s := ⟨h0, g0, d0, t0 + 1, o0⟩) (ox := ox) (od := od) kin at_ C.hm (wpAny_pure ?_))))
  show wpAny _ _ (handedOut (.ref D)) _ _ _
  rw [handedOut_of (v := .ref D) rfl]
  first
    | exact wpAny_pure (wpAny_pure q)
    | exact wpAny_pure q
    | exact wpAny_pure (wpAny_bind (wpAny_pure (wpAny_pure q)))
theorem err_kit (C : ExcC K D) : KitX K (.ref x) (.ref D) fun h => InstAt h x ox D od := by
  obtain ⟨cd, hc, _⟩ := any_some C.hd
  have at_ : ∃ (c : Value) (d : Option Addr) (cdt : ClassData) (sl : Array (Option Value)), K.lookup D = some ⟨c, d, .cls cdt, sl⟩ := by
    unfold clsIn at hc
    split at hc
    · rename_i c' d' cd' sl' ho
      exact ⟨c', d', cd', sl', ho⟩
    · cases hc
  obtain ⟨c, d, cdt, sl, ho⟩ := at_
  refine ⟨fun _ _ _ I => I.type, fun _ _ X _ A' Q' E' s' k q => ?_, fun h tp dd its n sl' X htp => Bool.eq_false_iff.mpr fun q => ?_, fun X I k => err_class C X I k⟩
  · unfold isType loadHead
    exact wpAny_bind (wpAny_loadPart (k _ _ (X _ _ ho)) (wpAny_pure q))
  · obtain rfl : D = tp := Value.ref.inj (beq_iff_eq.mp q)
    have z := (X _ _ ho).symm.trans htp
    cases z
end
/-- the error that the suite holds: its class, its fields -/
def ErrX (K : PySem.W.Frag) (H : Hp) (D : Addr) (cls : Value) (d : Option Addr) : Prop := cls = .ref D ∧ ExcC K D ∧ ∀ dd, d = some dd → ∃ fs, H dd = some (.xd fs)
/-- isinstance(e, c) -/
def rIsX (K : PySem.W.Frag) (a : Addr) (cls : Value) (d : Option Addr) : List V → Hp → VK → Prop := fun xs H Q => ∃ (D : Addr) (c : V) (u : Value) (b : Bool), xs = [.ref a, c] ∧ ClsV c u ∧ PySem.W.kitOne K (.ref D) u = some b ∧ ErrX K H D cls d ∧ Q (.bl b) H
/-- isinstance(e, (c1, c2, ..)) -/
def rIsXT (K : PySem.W.Frag) (a : Addr) (cls : Value) (d : Option Addr) : List V → Hp → VK → Prop := fun xs H Q => ∃ (D tp : Addr) (cs : List V) (us : List Value) (b : Bool), xs = [.ref a, .ref tp] ∧ H tp = some (.tup cs) ∧ Paired ClsV cs us ∧ PySem.W.kitAny K (.ref D) us = some b ∧ ErrX K H D cls d ∧ Q (.bl b) H
section
variable {X : Cx} {a : Addr} {oe : Obj} {d : Option Addr} {cls : Value} {pn : List (Addr × Obj)}
theorem err_inst {pins : List (Addr × Obj)} {σ : L2.St} {H : Hp} {s : Shared} {D : Addr} (I : Inv (X.suite a ((a, oe) :: pn)) pins σ H s) (hz : Zc cls d oe) (hf : ∃ vs, oe.data = .fields vs) (h : ErrX X.K H D cls d) : ∃ od, PySem.W.InstAt s.heap a oe D od := by
  obtain ⟨here, _⟩ := I.pin (a, oe) (List.mem_append_left _ List.mem_cons_self)
  obtain ⟨vs, hv⟩ := hf
  obtain ⟨hc, _, hd⟩ := h
  have nc : PySem.W.notCls oe := by unfold PySem.W.notCls; rw [hv] <;> rfl
  cases d with
  | none => exact ⟨none, here, hz.1.trans hc, nc, by rw [hz.2]; trivial⟩
  | some dd =>
    obtain ⟨fs, hdd⟩ := hd dd rfl
    have hx : ObjOk X.prog X.w H s.heap dd (.xd fs) := I.hok dd _ hdd
    obtain ⟨mA, hns, _⟩ := hx
    obtain ⟨od, ho, _⟩ := lookIn_ns hns
    exact ⟨some od, here, hz.1.trans hc, nc, by rw [hz.2]; exact ho⟩
theorem call_isX (hz : Zc cls d oe) (hf : ∃ vs, oe.data = .fields vs) : CallR (X.suite a ((a, oe) :: pn)) (.builtin "isinstance") (rIsX X.K a cls d) := by
  intro pins s σ H xs us Q I r h
  obtain ⟨D, c, u, b, rfl, k, e, hx, q⟩ := h
  obtain ⟨u1, u2, rfl, r1, r2⟩ := vals2 r
  obtain rfl : u1 = Value.ref a := r1
  obtain rfl := k.eq r2
  obtain ⟨od, inst⟩ := err_inst I hz hf hx
  exact PySem.W.kia_one (err_kit (od := od) hx.2.1) I.kIn inst e (fun z => nomatch z) fun tk => ⟨.bl b, H, I.kept (t' := tk) fun _ _ z => z, rfl, q⟩
theorem call_isXT (hz : Zc cls d oe) (hf : ∃ vs, oe.data = .fields vs) : CallR (X.suite a ((a, oe) :: pn)) (.builtin "isinstance") (rIsXT X.K a cls d) := by
  intro pins s σ H xs us Q I r h
  obtain ⟨D, tp, cs, ws, b, rfl, hT, k, e, hx, q⟩ := h
  obtain ⟨u1, u2, rfl, r1, r2⟩ := vals2 r
  obtain rfl : u1 = Value.ref a := r1
  obtain rfl : u2 = Value.ref tp := r2
  obtain ⟨od, inst⟩ := err_inst I hz hf hx
  obtain ⟨_, its, rv, o, h1, h2, n, h3⟩ := (show ObjOk X.prog X.w H s.heap tp (.tup cs) from I.hok tp _ hT)
  obtain rfl := ClsV.all k rv
  obtain ⟨oc, odd, dt, sl⟩ := o
  dsimp only at h2 h3
  subst h2 h3
  exact PySem.W.kia_tup (err_kit (od := od) hx.2.1) I.kIn inst h1 e (fun z => nomatch z) fun tk => ⟨.bl b, H, I.kept (t' := tk) fun _ _ z => z, rfl, q⟩
end
end My

set_option Elab.async false
set_option linter.all false
set_option maxRecDepth 100000
set_option maxHeartbeats 2000000
namespace L52
open PySem PySem.Spec PyProof.Rows L2 LT
open My hiding Tbs Gk Tk
section
variable {P : Program} {w : World} {K : PySem.W.Frag} {mg : Str → Option Value} {base : Heap}
theorem pw_sorted : ∀ {l : List Str}, l.Pairwise (fun a b => a.cps.toList ≤ b.cps.toList) → sortedS l = true
  | [], _ => rfl
  | [x], _ => rfl
  | x :: y :: r, h => by
    obtain ⟨h1, h2⟩ := List.pairwise_cons.mp h
    have ih : risingS y r = true := pw_sorted h2
    show (!ltCps y.cps.toList x.cps.toList && risingS y r) = true
    rw [ih, ltCps_eq, decide_eq_false (List.not_lt.mpr (h1 y (.head _)))]
    rfl
theorem path_of_not_free {ps : List (Str × Str)} : ∀ {n : Nat} {lf : List Str}, lf.length = n → lf.Nodup → ¬ AllFree ps n lf → ∃ x ∈ lf, Path ps x x
  | 0, lf, l, _, h => absurd (List.length_eq_zero_iff.mp l) h
  | n + 1, lf, l, nd, h => by
    cases ef : lf.filter (freeB ps lf) with
    | nil =>
      refine ring_ex (fun z => by rw [z] at l; cases l) nd fun x hx => ?_
      have fx : ¬ freeB ps lf x = true := fun z => by
        have : x ∈ lf.filter (freeB ps lf) := List.mem_filter.mpr ⟨hx, z⟩
        rw [ef] at this
        cases this
      unfold freeB at fx
      have fx : (ps.any fun p => decide (p.1 ∈ lf) && decide (p.2 = x)) = true := by simpa using fx
      obtain ⟨p, hp, e⟩ := List.any_eq_true.mp fx
      rw [Bool.and_eq_true, decide_eq_true_eq, decide_eq_true_eq] at e
      exact ⟨p.1, e.1, by rw [← e.2]; exact hp⟩
    | cons x r =>
      have mx : x ∈ lf := (List.mem_filter.mp (by rw [ef]; exact .head _ : x ∈ lf.filter (freeB ps lf))).1
      obtain ⟨y, hy, p⟩ := path_of_not_free (ps := ps) (n := n) (lf := lf.erase x) (by rw [List.length_erase_of_mem mx]; omega) (nd.erase x) fun q => h ⟨x, r, ef, q⟩
      exact ⟨y, List.mem_of_mem_erase hy, p⟩
theorem two_texts {a b : Str} (pa : Plain a) (pb : Plain b) : GU.Sh (.tuple [.str a, .str b]) ∧ (PyData.tuple [.str a, .str b]).depth ≤ 50 ∧ GU.cost (.tuple [.str a, .str b]) ≤ sizeLine := by
  have f := FineAll.cons (fine_text pa) (FineAll.cons (fine_text pb) .nil)
  refine ⟨f.sh, ?_, ?_⟩
  · rw [PyData.depth]; have := f.deep; omega
  · rw [GU.cost]
    have := f.cost
    exact Nat.le_trans (show _ ≤ 4000403 by omega) (by decide)
theorem says_has {ws : List Vw} {p : Str × Str} (h : p ∈ saysOf ws) : has (runW ws).hs p.1 = true ∧ has (runW ws).hs p.2 = true := by
  unfold saysOf at h
  have := (List.mem_filter.mp h).2
  rw [Bool.and_eq_true] at this
  exact this
theorem says_of {gp : List (Str × Str)} : ∀ {ls : List NestedKey}, (∀ k ∈ ls, ∃ q ∈ gp, k = sayK q) → ∃ ps : List (Str × Str), ls = ps.map sayK ∧ ∀ x ∈ ps, x ∈ gp
  | [], _ => ⟨[], rfl, fun x hx => by cases hx⟩
  | k :: ls, h => by
    obtain ⟨q, hq, rfl⟩ := h k (.head _)
    obtain ⟨ps, e, hp⟩ := says_of fun k hk => h k (.tail _ hk)
    exact ⟨q :: ps, by rw [List.map_cons, e], fun x hx => (List.mem_cons.mp hx).elim (fun e => by rw [e]; exact hq) (hp x)⟩
theorem rs_nodup {l : List NestedKey} (h : Rs l) : l.Nodup := List.Pairwise.imp (fun {a b} q e => by
  have i : befK a a = false := lex_irrefl _
  rw [← e, i] at q
  cases q) h
theorem rank_mem {ps : List (Str × Str)} : ∀ {n : Nat} {lf : List Str}, AllFree ps n lf → ∀ x ∈ lf, x ∈ rankF ps n lf
  | 0, lf, h, x, hx => by
    have h : lf = [] := h
    rw [h] at hx
    cases hx
  | n + 1, lf, ⟨y, r, ef, h⟩, x, hx => by
    unfold rankF
    rw [ef]
    by_cases e : x = y
    · rw [e]; exact .head _
    · exact .tail _ (rank_mem h x ((List.mem_erase_of_ne e).mpr hx))
theorem rank_len {ps : List (Str × Str)} : ∀ (n : Nat) (lf : List Str), (rankF ps n lf).length ≤ n
  | 0, _ => Nat.le_refl _
  | n + 1, lf => by
    unfold rankF
    split
    · exact Nat.zero_le _
    · rw [List.length_cons]; have := rank_len (ps := ps) n (lf.erase ‹_›); omega
/-- what is asked of a book and a day -/
structure Bd (T : Tx K mg w) (H : Hp) (a : Addr) (d : Int) (xs : List V) (ks : List NestedKey) (ws : List Vw) (zs : List Str) : Prop where
  ha : H a = some (.tup xs)
  pg : PgsAt H xs ks
  lx : xs.length ≤ 76
  tb : Tbs (tbs T) H
  vw : Views H (fltD d xs ks) ws
  vn : ∀ v ∈ ws, VwN zs v
  vs : ∀ v ∈ ws, VS zs v
  lz : zs.length ≤ 9
theorem Bd.gk {T : Tx K mg w} {H H' : Hp} {a : Addr} {d : Int} {xs : List V} {ks : List NestedKey} {ws : List Vw} {zs : List Str} (h : Bd T H a d xs ks ws zs) (g : Gk (tbs T) H H') : Bd T H' a d xs ks ws zs :=
  ⟨g.tup h.ha, ⟨h.pg.1.at (LT.Gk.tups g), h.pg.2⟩, h.lx, g.2, h.vw.at (LT.Gk.tups g), h.vn, h.vs, h.lz⟩
/-- who stands, and the sayings -/
structure Rk (ws : List Vw) (ys : List Str) (ps : List (Str × Str)) : Prop where
  pm : (ys.map Sum.inr).Perm (keysOf (runW ws).hs)
  so : sortedS ys = true
  rs : Rs (ps.map sayK)
  mp : ∀ p, p ∈ ps ↔ p ∈ saysOf ws
theorem Rk.uniq {ws : List Vw} {ys ys' : List Str} {ps ps' : List (Str × Str)} (h : Rk ws ys ps) (g : Rk ws ys' ps') : ys = ys' ∧ ps = ps' := by
  refine ⟨sorted_unique (perm_texts h.pm g.pm) h.so g.so, ?_⟩
  have e := rs_unique h.rs g.rs fun k => by
    constructor
    · intro hk
      obtain ⟨p, hp, rfl⟩ := List.mem_map.mp hk
      exact List.mem_map_of_mem ((g.mp p).mpr ((h.mp p).mp hp))
    · intro hk
      obtain ⟨p, hp, rfl⟩ := List.mem_map.mp hk
      exact List.mem_map_of_mem ((h.mp p).mpr ((g.mp p).mp hp))
  have inj : ∀ {l m : List (Str × Str)}, l.map sayK = m.map sayK → l = m := by
    intro l
    induction l with
    | nil => intro m h; cases m with | nil => rfl | cons => cases h
    | cons a l ih =>
      intro m h
      cases m with
      | nil => cases h
      | cons b m =>
        rw [List.map_cons, List.map_cons] at h
        injection h with h1 h2
        rw [sayK_inj h1, ih h2]
  exact inj e
structure RkF (zs ys : List Str) (ps : List (Str × Str)) : Prop where
  nd : ys.Nodup
  sub : ∀ y ∈ ys, y ∈ zs
  l9 : ys.length ≤ 9
  hz : ∀ p ∈ ps, p.1 ∈ ys ∧ p.2 ∈ ys ∧ p.1 ≠ p.2
  l75 : ps.length ≤ 76
theorem Rk.facts {ws : List Vw} {ys zs : List Str} {ps : List (Str × Str)} (h : Rk ws ys ps) (vn : ∀ v ∈ ws, VwN zs v) (vs : ∀ v ∈ ws, VS zs v) (lz : zs.length ≤ 9) (lw : ws.length ≤ 76) : RkF zs ys ps := by
  have okk := run_okAll vn
  have nd : ys.Nodup := (List.pairwise_map.mp (h.pm.nodup_iff.mpr okk.nd)).imp fun q e => q (by rw [e])
  have sub : ∀ y ∈ ys, y ∈ zs := fun y hy => by
    obtain ⟨a, ha, e⟩ := okk.sub _ (h.pm.mem_iff.mp (List.mem_map_of_mem (f := Sum.inr) hy))
    cases e
    exact ha
  have mem : ∀ x, has (runW ws).hs x = true → x ∈ ys := fun x hx => by
    obtain ⟨y, hy, e⟩ := List.mem_map.mp (h.pm.mem_iff.mpr (key_has.mpr hx))
    cases e
    exact hy
  refine ⟨nd, sub, Nat.le_trans (nodup_len nd sub) lz, fun p hp => ?_, ?_⟩
  · have hp := (h.mp p).mp hp
    obtain ⟨a, b⟩ := says_has hp
    exact ⟨mem _ a, mem _ b, (says_in vs hp).2.2⟩
  · have h1 := nodup_len (l := ps.map sayK) (m := (saysOf ws).map sayK) (rs_nodup h.rs) fun k hk => by
      obtain ⟨p, hp, rfl⟩ := List.mem_map.mp hk
      exact List.mem_map_of_mem ((h.mp p).mp hp)
    rw [List.length_map, List.length_map] at h1
    have h2 : (saysOf ws).length ≤ ws.length := Nat.le_trans (List.length_filter_le _ _) (done_len ws ws.length)
    omega
def RankTo (H : Hp) (ps : List (Str × Str)) (ys : List Str) (r : Addr) : Prop :=
  (AllFree ps ys.length ys ∧ ∃ o, H r = some (.tup [.str "order", .ref o]) ∧ (∃ ob, H o = some (.frz ob (.tup ((rankF ps ys.length ys).map V.str))) ∧ TD ob)) ∨ (¬ AllFree ps ys.length ys ∧ ∃ o, H r = some (.tup [.str "ring", .ref o]) ∧ RingAt H ps o)
def spRanks (T : Tx K mg w) : Sp := fun vs H Q _ => ∃ (a : Addr) (d : Int) (xs : List V) (ks : List NestedKey) (ws : List Vw) (zs : List Str), vs = [.ref a, .int d] ∧ Bd T H a d xs ks ws zs ∧
  ∀ r ys ps H', Gk (tbs T) H H' → Rk ws ys ps → RankTo H' ps ys r → Q (.ref r) H'
theorem ok_ranks (T : Tx K mg w) (B : Tb T base) : FnOk P w K mg base CX0 10 T.f_ranks T.d_ranks ["book", "day"] (spRanks T) := by
  have G_standing_names : FnOk P w K mg base CX0 9 T.f_standing_names T.d_standing_names ["book", "day"] (spStNm T) := ok_stnm T B
  have G_sayings : FnOk P w K mg base CX0 7 T.f_sayings T.d_sayings ["book", "day"] (spSay T) := ok_say T B
  have G_ranked : FnOk P w K mg base CX0 4 T.f_ranked T.d_ranked ["names", "some"] (spRank T) := ok_rank T B
  refine T.F_ranks.ok S_ranks (fun vs H Q E h => ?_) (fun cdv A outer s H vs Q E hr h => ?_)
  · obtain ⟨a, d, xs, ks, ws, zs, rfl, _⟩ := h
    rfl
  · obtain ⟨a, d, xs, ks, ws, zs, rfl, bd, q⟩ := h
    refine ⟨_, (pss_one (ps_ret (pe_call G_ranked (hr.mono (by decide)) (by rfl) T.g_ranked T.F_ranked.kp T.b_ranked .nil pass0 (pa_cons (pe_call G_standing_names hr (by rfl) T.g_standing_names T.F_standing_names.kp T.b_standing_names .nil pass0 (pa_cons (pv 0) (pa_cons (pv 1) pa_nil))) (pa_cons (pe_call G_sayings (hr.mono (by decide)) (by rfl) T.g_sayings T.F_sayings.kp T.b_sayings .nil pass0 (pa_cons (pv 0) (pa_cons (pv 1) pa_nil))) pa_nil))))), ?_⟩
    refine ⟨_, rfl, _, rfl, a, d, xs, ks, ws, zs, rfl, bd.ha, bd.pg, by have := bd.lx; omega, bd.tb, bd.vw, bd.vn, by have := bd.lz; omega, fun n ys H1 g1 hn pm so => ?_⟩
    have b1 := bd.gk g1
    refine ⟨_, rfl, _, rfl, a, d, xs, ks, ws, rfl, b1.ha, b1.pg, b1.lx, b1.tb, b1.vw, fun s us ls H2 g2 hs nk rs ms l75 => ?_⟩
    obtain ⟨ps, rfl, mps⟩ := says_of (gp := saysOf ws) fun k hk => by obtain ⟨p, hp, e⟩ := (ms k).mp hk; exact ⟨p, hp, e⟩
    have rk : Rk ws ys ps := ⟨pm, so, rs, fun p => ⟨mps p, fun hp => by
      have := (ms (sayK p)).mpr ⟨p, hp, rfl⟩
      obtain ⟨x, hx, e⟩ := List.mem_map.mp this
      rw [← sayK_inj e]; exact hx⟩⟩
    have lw : ws.length ≤ 76 := by rw [← bd.vw.length]; exact Nat.le_trans (fltD_len _ _ _) bd.lx
    have F := rk.facts bd.vn bd.vs bd.lz lw
    have gg := g1.trans g2
    refine ⟨n, s, us, ps, ys, rfl, .inl (g2.tup hn), hs, nk, F.l9, F.nd, by have := F.l75; omega, fun p hp => (F.hz p hp).2.2, g2.2, fun r o ob H3 g3 af h1 h2 td => ?_, fun r o H3 g3 af h1 h2 => ?_⟩
    · exact q r ys ps H3 (gg.trans g3) rk (.inl ⟨af, o, h1, ob, h2, td⟩)
    · exact q r ys ps H3 (gg.trans g3) rk (.inr ⟨af, o, h1, h2⟩)
/-- an own error's __init__ of one field -/
def spInit1 (C : Addr) (f : Str) : Sp := fun vs H Q _ => ∃ (a : Addr) (v : V), vs = [.ref a, v] ∧ H a = some (exo a C none) ∧ ∀ dx, H dx = none → dx ≠ a → Q .non (upd (upd H dx (exd dx [(f, v)])) a (exo a C (some dx)))
theorem ok_initH (T : Tx K mg w) : FnOk P w K mg base CX0 1 T.f_NoHouse T.d_NoHouse ["self", "name"] (spInit1 T.C_NoHouse "name") := by
  refine T.F_NoHouse.ok S_NoHouse (fun vs H Q E h => ?_) (fun cdv A outer s H vs Q E hr h => ?_)
  · obtain ⟨a, v, rfl, _⟩ := h
    rfl
  · obtain ⟨a, v, rfl, ha, q⟩ := h
    exact ⟨_, pss_one (ps_ost (pv 0) (pv 1)), _, rfl, _, rfl, a, T.C_NoHouse, rfl, T.oex_NoHouse, T.no_NoHouse_name, .inl ⟨ha, fun dx n ne => q dx n ne⟩⟩
theorem ok_initO (T : Tx K mg w) : FnOk P w K mg base CX0 1 T.f_NoOrder T.d_NoOrder ["self", "ring"] (spInit1 T.C_NoOrder "ring") := by
  refine T.F_NoOrder.ok S_NoOrder (fun vs H Q E h => ?_) (fun cdv A outer s H vs Q E hr h => ?_)
  · obtain ⟨a, v, rfl, _⟩ := h
    rfl
  · obtain ⟨a, v, rfl, ha, q⟩ := h
    exact ⟨_, pss_one (ps_ost (pv 0) (pv 1)), _, rfl, _, rfl, a, T.C_NoOrder, rfl, T.oex_NoOrder, T.no_NoOrder_ring, .inl ⟨ha, fun dx n ne => q dx n ne⟩⟩
theorem exc_same1 {H : Hp} {a d : Addr} {x y z o : HO} (ha : H a = none) (hd : upd H a x d = none) (ne : d ≠ a) : Same H (upd (del (upd (upd (upd H a x) d y) a z) a) d o) := fun b u e => by
  have h1 : b ≠ a := ne_of_none e ha
  have h2 : b ≠ d := fun w => by rw [← w, upd_ne h1, e] at hd; cases hd
  rw [upd_ne h2, del_ne h1, upd_ne h1, upd_ne h2, upd_ne h1]
  exact e
def goneF (ys row : List Str) : Option Str := row.find? fun x => !decide (x ∈ ys)
def spFirst (T : Tx K mg w) : Sp := fun vs H Q E => ∃ (a n : Addr) (d : Int) (xs : List V) (ks : List NestedKey) (ws : List Vw) (zs row ys : List Str) (ps : List (Str × Str)), vs = [.ref a, .int d, .ref n] ∧ Bd T H a d xs ks ws zs ∧ Rk ws ys ps ∧ H n = some (.tup (row.map V.str)) ∧ row ≠ [] ∧
  (∀ x dd H', Gk (tbs T) H H' → goneF ys row = some x → H' dd = some (.xd [(("name" : Str), .str x)]) → E (.ref T.C_NoHouse) (some dd) H') ∧
  (∀ o dd H', Gk (tbs T) H H' → goneF ys row = none → ¬ AllFree ps ys.length ys → RingAt H' ps o → H' dd = some (.xd [(("ring" : Str), .ref o)]) → E (.ref T.C_NoOrder) (some dd) H') ∧
  (∀ x r H', Gk (tbs T) H H' → goneF ys row = none → AllFree ps ys.length ys → (rankF ps ys.length ys).filter (fun y => decide (y ∈ row)) = x :: r → Q (.str x) H')
theorem ok_first (T : Tx K mg w) (B : Tb T base) : FnOk P w K mg base (L2.CX P w) 11 T.f_first_of T.d_first_of ["book", "day", "names"] (spFirst T) := by
  have G_standing_names : FnOk P w K mg base CX0 9 T.f_standing_names T.d_standing_names ["book", "day"] (spStNm T) := ok_stnm T B
  have G_ranks : FnOk P w K mg base CX0 10 T.f_ranks T.d_ranks ["book", "day"] (spRanks T) := ok_ranks T B
  have G_NoHouse : FnOk P w K mg base CX0 1 T.f_NoHouse T.d_NoHouse ["self", "name"] (spInit1 T.C_NoHouse "name") := ok_initH T
  have G_NoOrder : FnOk P w K mg base CX0 1 T.f_NoOrder T.d_NoOrder ["self", "ring"] (spInit1 T.C_NoOrder "ring") := ok_initO T
  refine T.F_first_of.okX S_first_of (fun vs H Q E h => ?_) (fun cdv A outer s0 H vs Q E hr h => ?_)
  · obtain ⟨a, n, d, xs, ks, ws, zs, row, ys, ps, rfl, _⟩ := h
    rfl
  · obtain ⟨a, n, d, xs, ks, ws, zs, row, ys, ps, rfl, bd, rk, hn, rne, q1, q2, q3⟩ := h
    refine ⟨_, (pss_cons (ps_set (i := 3) S_first_of.nd rfl (.inl rfl) (pe_call G_standing_names (hr.mono (by decide)) (by rfl) T.g_standing_names T.F_standing_names.kp T.b_standing_names .nil pass0 (pa_cons (pv 0) (pa_cons (pv 1) pa_nil))))
      (pss_cons (ps_for (passes_of rfl) rfl (pi_tup (pv 2)) (pg_name (i := 4) S_first_of.nd rfl (.inl rfl))
      (pss_one (ps_if (pt_cmpR op_notIn_seq (pv 4) (pv 3) (by rfl)) (pss_one (ps_raise rfl (takes_of rfl rfl rfl rfl) (pmk_oex T.oex_NoHouse T.ic_NoHouse T.ti_NoHouse G_NoHouse (hr.mono (by decide)) T.bi_NoHouse .nil pass0 (by rfl) T.gC_NoHouse (pa_cons (pv 4) pa_nil)))) pss_nil)))
      (pss_cons (ps_asg (pe_call G_ranks hr (by rfl) T.g_ranks T.F_ranks.kp T.b_ranks .nil pass0 (pa_cons (pv 0) (pa_cons (pv 1) pa_nil))) (pg_tup rfl (pgs_cons (pg_name (i := 5) S_first_of.nd rfl (.inl rfl)) (pgs_cons (pg_name (i := 6) S_first_of.nd rfl (.inl rfl)) pgs_nil))))
      (pss_cons (ps_if (pt_cmpR op_eq (pv 5) pe_str (nomark _)) (pss_one (ps_raise rfl (takes_of rfl rfl rfl rfl) (pmk_oex T.oex_NoOrder T.ic_NoOrder T.ti_NoOrder G_NoOrder (hr.mono (by decide)) T.bi_NoOrder .nil pass0 (by rfl) T.gC_NoOrder (pa_cons (pv 6) pa_nil)))) pss_nil)
      (pss_one (ps_ret (pe_ix ix_list (pe_lc (own := [("name", 4)]) (g := gName 4) (by rfl) S_first_of.nd (pi_tup (pv 6)) (blkOk_by (own := [("name", 4)]) (N := N_first_of) (sc := defScope s_first_of) (by decide +kernel)) (fun _ _ _ _ _ => (pg_name (i := 4) S_first_of.nd rfl (.inl rfl))) (fun _ _ _ _ _ => (pts_one (pt_cmpR (r := rIn K false) op_in_seq (pv 4) (pv 2) (by rfl)))) (fun _ _ _ _ _ => (pv 4))) pe_int (fun _ _ => rfl)))))))), ?_⟩
    refine ⟨_, rfl, _, rfl, a, d, xs, ks, ws, zs, rfl, bd.ha, bd.pg, by have := bd.lx; omega, bd.tb, bd.vw, bd.vn, by have := bd.lz; omega, fun th ys' H1 g1 hth pm so => ?_⟩
    obtain rfl : ys' = ys := sorted_unique (perm_texts pm rk.pm) so rk.so
    have hn1 := g1.tup hn
    have b1 := bd.gk g1
    refine ⟨_, rfl, n, rfl, ⟨_, .inl (.inl hn1)⟩, ?_⟩
    refine for_tup (xs := row.map V.str) (fun i σ Hx => (∃ y4 y5 y6, σ = [some (.ref a), some (.int d), some (.ref n), some (.ref th), y4, y5, y6]) ∧ Hx = H1 ∧ ∀ j x, j < i → row[j]? = some x → x ∈ ys') ⟨⟨_, _, _, rfl⟩, rfl, fun j x hj => by omega⟩ (fun i σ Hx _ h => by rw [h.2.1]; exact .inl (.inl hn1)) ?_ ?_
    · rintro i v σ Hx hv ⟨⟨y4, y5, y6, rfl⟩, rfl, al⟩
      obtain ⟨x, hx, rfl⟩ : ∃ x, row[i]? = some x ∧ v = V.str x := by
        rw [List.getElem?_map] at hv
        cases e : row[i]? with
        | none => rw [e] at hv; cases hv
        | some y => rw [e] at hv; exact ⟨y, rfl, (Option.some.inj hv).symm⟩
      refine ⟨_, rfl, _, rfl, th, _, rfl, .inr (.inl (.inl hth)), rfl, flat_strs ys', _, rfl, ite2 (fun e => ?_) (fun e => ?_)⟩
      · have e : (!inV (.str x) (ys'.map V.str)) = true := e
        rw [inV_strs] at e
        have gf : goneF ys' row = some x := by
          unfold goneF
          have lt := (List.getElem?_eq_some_iff.mp hx).1
          rw [List.find?_eq_some_iff_getElem]
          refine ⟨e, i, lt, (List.getElem?_eq_some_iff.mp hx).2, fun j hj => ?_⟩
          have := al j (row[j]'(by omega)) hj (List.getElem?_eq_getElem (by omega))
          rw [decide_eq_true this]
          rfl
        refine ⟨_, rfl, by show 1 ≤ 1000; decide, fun c nc => ⟨c, _, rfl, upd_same, fun dx nd ne => ⟨rfl, dx, [(("name" : Str), .str x)], upd_same, ?_, ?_, ?_⟩⟩⟩
        · rw [upd_ne ne]; exact upd_same
        · rw [upd_ne ne] at nd; exact nd
        · exact q1 x dx _ (g1.trans (.of_same (exc_same1 nc nd ne) g1.2)) gf upd_same
      · have e : ¬ (!inV (.str x) (ys'.map V.str)) = true := e
        rw [inV_strs] at e
        have e : x ∈ ys' := by simpa using e
        refine ⟨⟨_, _, _, rfl⟩, rfl, fun j x' hj hx' => ?_⟩
        rcases Nat.lt_succ_iff_lt_or_eq.mp hj with h | rfl
        · exact al j x' h hx'
        · rw [hx] at hx'; cases hx'; exact e
    · rintro σ Hx ⟨⟨y4, y5, y6, rfl⟩, rfl, al⟩
      have gn : goneF ys' row = none := by
        unfold goneF
        rw [List.find?_eq_none]
        intro x hx z
        obtain ⟨j, hj⟩ := List.mem_iff_getElem?.mp hx
        have lt := (List.getElem?_eq_some_iff.mp hj).1
        have := al j x (by rw [List.length_map]; exact lt) hj
        rw [decide_eq_true this] at z
        cases z
      refine ⟨_, rfl, _, rfl, a, d, xs, ks, ws, zs, rfl, b1, fun r ys2 ps2 H2 g2 rk2 rt => ?_⟩
      obtain ⟨rfl, rfl⟩ := rk2.uniq rk
      have gg := g1.trans g2
      rcases rt with ⟨af, o, hr2, ob, ho, tdo⟩ | ⟨naf, o, hr2, ro⟩
      · refine ⟨r, _, rfl, .inl (.inl hr2), rfl, _, _, rfl, _, _, rfl, rfl, ?_⟩
        refine ⟨_, rfl, rfl, _, rfl, ite2 (fun e => absurd e (by decide +kernel)) (fun _ => ?_)⟩
        refine ⟨_, rfl, o, rfl, ⟨_, .inl (.inr ⟨_, ho⟩)⟩, fun D nD => ?_⟩
        have sD := fun u => same_upd (o := u) nD
        have hn2 := gg.tup hn
        have lF : (rankF ps2 ys2.length ys2).length ≤ 900 := Nat.le_trans (rank_len _ _) (by have := (rk.facts bd.vn bd.vs bd.lz (by rw [← bd.vw.length]; exact Nat.le_trans (fltD_len _ _ _) bd.lx)).l9; omega)
        refine lc_tup (xs := (rankF ps2 ys2.length ys2).map V.str) (fun j H' => H' = upd H2 D (.lst ((((rankF ps2 ys2.length ys2).take j).filter fun y => decide (y ∈ row)).map V.str))) rfl (fun j H' hj e => by rw [e]; exact .inl (.inr ⟨_, sD _ _ _ ho⟩)) ?_ ?_
        · rintro j v H' hv rfl
          obtain ⟨y, hy, rfl⟩ : ∃ y, (rankF ps2 ys2.length ys2)[j]? = some y ∧ v = V.str y := by
            rw [List.getElem?_map] at hv
            cases e : (rankF ps2 ys2.length ys2)[j]? with
            | none => rw [e] at hv; cases hv
            | some y => rw [e] at hv; exact ⟨y, rfl, (Option.some.inj hv).symm⟩
          have lj := (List.getElem?_eq_some_iff.mp hy).1
          have tk : (rankF ps2 ys2.length ys2).take (j + 1) = (rankF ps2 ys2.length ys2).take j ++ [y] := by rw [List.take_add_one, hy]; rfl
          have lfl : (((rankF ps2 ys2.length ys2).take j).filter (fun y => decide (y ∈ row))).length ≤ j := Nat.le_trans (List.length_filter_le _ _) (by rw [List.length_take]; omega)
          refine ⟨rfl, _, rfl, _, rfl, n, _, rfl, .inr (.inl (.inl (sD _ _ _ hn2))), rfl, flat_strs row, _, rfl, ite2 (fun e => ?_) (fun e => ?_)⟩
          · have e : inV (.str y) (row.map V.str) = true := e
            rw [inV_strs] at e
            refine ⟨_, rfl, _, upd_same, small1000 (by rw [List.length_map]; omega), ?_⟩
            rw [upd_upd', tk, List.filter_append, List.filter_cons, if_pos e, List.map_append]
            rfl
          · have e : ¬ inV (.str y) (row.map V.str) = true := e
            rw [inV_strs] at e
            show upd H2 D _ = upd H2 D _
            rw [tk, List.filter_append, List.filter_cons, if_neg e]
            show upd H2 D _ = upd H2 D (.lst ((_ ++ []).map V.str))
            rw [List.append_nil]
        · rintro H' rfl
          rw [List.length_map, List.take_of_length_le (Nat.le_refl _)]
          cases ef : (rankF ps2 ys2.length ys2).filter (fun y => decide (y ∈ row)) with
          | nil =>
            exfalso
            obtain ⟨x, hx⟩ := List.exists_mem_of_ne_nil row rne
            obtain ⟨j, hj⟩ := List.mem_iff_getElem?.mp hx
            have lt := (List.getElem?_eq_some_iff.mp hj).1
            have m1 := rank_mem af x (al j x (by rw [List.length_map]; exact lt) hj)
            have m2 : x ∈ (rankF ps2 ys2.length ys2).filter (fun y => decide (y ∈ row)) := List.mem_filter.mpr ⟨m1, decide_eq_true hx⟩
            rw [ef] at m2
            cases m2
          | cons x rr => exact ⟨D, _, 0, .str x, rfl, rfl, .inl (.inl upd_same), at_of (j := 0) rfl rfl, q3 x rr _ (gg.trans (.new gg.2 nD)) gn af ef⟩
      · refine ⟨r, _, rfl, .inl (.inl hr2), rfl, _, _, rfl, _, _, rfl, rfl, ?_⟩
        refine ⟨_, rfl, rfl, _, rfl, ite2 (fun _ => ?_) (fun e => absurd rfl e)⟩
        obtain ⟨x0, wp, wt, w2⟩ := ro
        refine ⟨_, rfl, by show 1 ≤ 1000; decide, fun c nc => ⟨c, _, rfl, upd_same, fun dx nd ne => ⟨rfl, dx, [(("ring" : Str), .ref o)], upd_same, ?_, ?_, ?_⟩⟩⟩
        · rw [upd_ne ne]; exact upd_same
        · rw [upd_ne ne] at nd; exact nd
        · have sm := exc_same1 (y := exd dx [(("ring" : Str), .ref o)]) (z := exo c T.C_NoOrder (some dx)) (o := .xd [(("ring" : Str), .ref o)]) nc nd ne
          exact q2 o dx _ (gg.trans (.of_same sm gg.2)) gn naf ⟨x0, wp, wt.at (.same sm), w2⟩ upd_same
end
end L52

set_option Elab.async false
set_option linter.all false
set_option maxRecDepth 100000
set_option maxHeartbeats 2000000
namespace L52
open PySem PySem.Spec PyProof.Rows L2 LT
open My hiding Tbs Gk Tk
section
variable {P : Program} {w : World} {K : PySem.W.Frag} {mg : Str → Option Value} {base : Heap}
/-- what of a view its page's key tells -/
def Vw.k (v : Vw) : Str × Str × Option Str × Int := (v.z, v.a, v.b, v.d)
def kvr : List NestedKey → Str × Option Str
  | [.text a, .text b] => (a, some b)
  | [.text a, .text b, _] => (a, some b)
  | .text a :: _ => (a, none)
  | _ => ("", none)
def kvK : NestedKey → Str × Str × Option Str × Int
  | .tup (.text z :: .num d :: r) => (z, (kvr r).1, (kvr r).2, d)
  | _ => ("", "", none, 0)
theorem pv_kvr {H : Hp} {z a : Str} {b : Option Str} {lv : V} {r : List V} {rest : List NestedKey} (re : Rest z rest) (pv : PV z a b lv r) (nk : NkAll H r rest) : kvr rest = (a, b) := by
  cases re <;> cases pv <;> (cases nk with | cons n1 h => cases n1; first | rfl | (cases h with | cons n2 h => cases n2; rfl))
theorem vk_at {H : Hp} {x : V} {v : Vw} {k : NestedKey} (n : Nk H x k) (p : PgK k) (h : VwAt H x v) : v.k = kvK k := by
  obtain ⟨z, d, rest, rfl, re, _⟩ := p
  obtain ⟨pa, r, rfl, hp, pv⟩ := h
  cases n with
  | @tup _ xs _ ha hk =>
    rw [hp] at ha
    cases ha
    cases hk with
    | cons n1 hk =>
      cases hk with
      | cons n2 hk =>
        obtain ⟨vz, va, vb, vlv, vd⟩ := v
        have n1 : Nk H (.str vz) (.text z) := n1
        have n2 : Nk H (.int vd) (.num d) := n2
        have pv : PV vz va vb vlv r := pv
        cases n1
        cases n2
        have e := pv_kvr re pv hk
        show (_, va, vb, _) = (_, (kvr rest).1, (kvr rest).2, _)
        rw [e]
theorem views_k {H : Hp} : ∀ {xs : List V} {ks : List NestedKey} {ws : List Vw}, NkAll H xs ks → (∀ k ∈ ks, PgK k) → Views H xs ws → ws.map Vw.k = ks.map kvK
  | _, _, _, .nil, _, .nil => rfl
  | _, _, _, .cons n h, p, .cons v t => by
    rw [List.map_cons, List.map_cons, vk_at n (p _ (.head _)) v, views_k h (fun k hk => p k (.tail _ hk)) t]
/-- who is known, who stands, what is done -/
def EqW (u w : Wk) : Prop := keysOf u.hs = keysOf w.hs ∧ u.kn = w.kn ∧ u.ok = w.ok
theorem has_eq {hs hs' : List (Key × V)} (e : keysOf hs = keysOf hs') (a : Str) : has hs a = has hs' a := by
  rw [Bool.eq_iff_iff, ← key_has, ← key_has, e]
theorem put_eq {hs hs' : List (Key × V)} (e : keysOf hs = keysOf hs') (k : Key) (v v' : V) : keysOf (putK hs k v) = keysOf (putK hs' k v') := by
  rcases keys_put hs k v with ⟨a1, b1⟩ | ⟨a1, b1⟩ <;> rcases keys_put hs' k v' with ⟨a2, b2⟩ | ⟨a2, b2⟩
  · rw [b1, b2, e]
  · exact absurd (e ▸ a1) a2
  · exact absurd (e ▸ a2) a1
  · rw [b1, b2, e]
theorem drop_eq {hs hs' : List (Key × V)} (e : keysOf hs = keysOf hs') (k : Key) : keysOf (dropK hs k) = keysOf (dropK hs' k) := by
  rw [keys_drop, keys_drop, e]
theorem good_eq {hs hs' : List (Key × V)} (e : keysOf hs = keysOf hs') (kn : List Str) (z a : Str) (b : Option Str) : good hs kn z a b = good hs' kn z a b := by
  unfold good
  cases b <;> simp only [has_eq e]
theorem next_eq {hs hs' : List (Key × V)} (e : keysOf hs = keysOf hs') (z a : Str) (b : Option Str) (v v' : V) : keysOf (nextH hs z a b v) = keysOf (nextH hs' z a b v') := by
  unfold nextH
  by_cases h1 : z = "house"
  · rw [if_pos h1, if_pos h1]; exact put_eq e _ _ _
  rw [if_neg h1, if_neg h1]
  by_cases h2 : z = "part"
  · rw [if_pos h2, if_pos h2]; exact put_eq e _ _ _
  rw [if_neg h2, if_neg h2]
  by_cases h3 : z = "join"
  · rw [if_pos h3, if_pos h3]; exact drop_eq e _
  rw [if_neg h3, if_neg h3]
  by_cases h4 : z = "home"
  · rw [if_pos h4, if_pos h4]; exact put_eq e _ _ _
  rw [if_neg h4, if_neg h4]
  exact e
theorem step_eq {u w : Wk} {v v' : Vw} (h : EqW u w) (e : v.k = v'.k) : EqW (stepW u v) (stepW w v') := by
  obtain ⟨e1, e2, e3⟩ := h
  obtain ⟨z, a, b, lv, d⟩ := v
  obtain ⟨z', a', b', lv', d'⟩ := v'
  have e : (z, a, b, d) = (z', a', b', d') := e
  cases e
  have g := good_eq e1 w.kn z a b
  unfold stepW
  show EqW (if good u.hs u.kn z a b = true then _ else _) (if good w.hs w.kn z a b = true then _ else _)
  rw [e2, g]
  by_cases c : good w.hs w.kn z a b = true
  · rw [if_pos c, if_pos c]
    exact ⟨next_eq e1 z a b _ _, rfl, by rw [e3]⟩
  · rw [if_neg c, if_neg c]
    exact ⟨e1, rfl, by rw [e3]⟩
theorem fold_eq : ∀ {ws ws' : List Vw} {u w : Wk}, ws.map Vw.k = ws'.map Vw.k → EqW u w → EqW (ws.foldl stepW u) (ws'.foldl stepW w)
  | [], [], _, _, _, h => h
  | [], _ :: _, _, _, e, _ => by cases e
  | _ :: _, [], _, _, e, _ => by cases e
  | v :: ws, v' :: ws', u, w, e, h => by
    rw [List.map_cons, List.map_cons] at e
    injection e with e1 e2
    show EqW (ws.foldl stepW (stepW u v)) (ws'.foldl stepW (stepW w v'))
    exact fold_eq e2 (step_eq h e1)
theorem run_eq {ws ws' : List Vw} (e : ws.map Vw.k = ws'.map Vw.k) : EqW (runW ws) (runW ws') := fold_eq e ⟨rfl, rfl, rfl⟩
theorem zip_done : ∀ {ws ws' : List Vw} {ok : List Bool}, ws.map Vw.k = ws'.map Vw.k → (ws.zip ok).filterMap doneF = (ws'.zip ok).filterMap doneF
  | [], [], _, _ => rfl
  | [], _ :: _, _, e => by cases e
  | _ :: _, [], _, e => by cases e
  | _ :: _, _ :: _, [], _ => rfl
  | v :: ws, v' :: ws', o :: ok, e => by
    rw [List.map_cons, List.map_cons] at e
    injection e with e1 e2
    rw [List.zip_cons_cons, List.zip_cons_cons, List.filterMap_cons, List.filterMap_cons, zip_done e2]
    obtain ⟨z, a, b, lv, d⟩ := v
    obtain ⟨z', a', b', lv', d'⟩ := v'
    have e : (z, a, b, d) = (z', a', b', d') := e1
    cases e
    rfl
theorem doneL_zip (ws : List Vw) : doneL ws = (ws.zip (runW ws).ok).filterMap doneF := by
  unfold doneL doneP
  rw [List.take_of_length_le (by rw [List.length_zip]; exact Nat.min_le_left _ _)]
theorem doneL_eq {ws ws' : List Vw} (e : ws.map Vw.k = ws'.map Vw.k) : doneL ws = doneL ws' := by
  rw [doneL_zip, doneL_zip, (run_eq e).2.2]
  exact zip_done e
theorem says_eq {ws ws' : List Vw} (e : ws.map Vw.k = ws'.map Vw.k) : saysOf ws = saysOf ws' := by
  have d : doneP ws ws.length = doneP ws' ws'.length := doneL_eq e
  unfold saysOf
  rw [d]
  refine List.filter_congr fun p _ => ?_
  rw [has_eq (run_eq e).1, has_eq (run_eq e).1]
theorem Rk.congr {ws ws' : List Vw} {ys : List Str} {ps : List (Str × Str)} (h : Rk ws ys ps) (e : ws.map Vw.k = ws'.map Vw.k) : Rk ws' ys ps :=
  ⟨by rw [← (run_eq e).1]; exact h.pm, h.so, h.rs, fun p => by rw [← says_eq e]; exact h.mp p⟩
/-- one house goes up in another one -/
theorem Rk.join {ws : List Vw} {ys : List Str} {ps : List (Str × Str)} {a b : Str} {lv : V} {d : Int} (h : Rk ws ys ps) (ha : a ∈ ys) (hb : b ∈ ys) : Rk (ws ++ [⟨"join", a, some b, lv, d⟩]) (ys.filter fun y => !decide (y = b)) (ps.filter fun p => !decide (p.1 = b) && !decide (p.2 = b)) := by
  have mem : ∀ x, has (runW ws).hs x = true ↔ x ∈ ys := fun x => by
    rw [← key_has, ← h.pm.mem_iff]
    exact ⟨fun m => by obtain ⟨y, hy, e⟩ := List.mem_map.mp m; cases e; exact hy, fun m => List.mem_map_of_mem m⟩
  have g : goodV ws ⟨"join", a, some b, lv, d⟩ = true := by
    unfold goodV good
    show (has (runW ws).hs a && has (runW ws).hs b) = true
    rw [(mem a).mpr ha, (mem b).mpr hb]
    rfl
  have hh : (runW (ws ++ [⟨"join", a, some b, lv, d⟩])).hs = dropK (runW ws).hs (.inr b) := by
    rw [run_snoc, step_yes g]
    rfl
  have dn : doneL (ws ++ [⟨"join", a, some b, lv, d⟩]) = doneL ws := by
    rw [done_snoc, done_other (by decide +kernel)]
    exact List.append_nil _
  refine ⟨?_, pw_sorted (((sorted_pw ys h.so).filter _).imp fun q => List.not_lt.mp q), ?_, fun p => ?_⟩
  · rw [hh, keys_drop]
    have e : (ys.filter fun y => !decide (y = b)).map (Sum.inr (α := Int)) = (ys.map Sum.inr).filter (fun x => decide (x ≠ Sum.inr b)) := by
      rw [List.filter_map]
      congr 1
      refine List.filter_congr fun y _ => ?_
      show (!decide (y = b)) = decide ((Sum.inr y : Int ⊕ Str) ≠ Sum.inr b)
      by_cases c : y = b
      · rw [c]; simp
      · simp [c]
    exact e ▸ h.pm.filter _
  · have r : List.Pairwise (fun a b => befK a b = true) (ps.map sayK) := h.rs
    rw [List.pairwise_map] at r
    exact List.pairwise_map.mpr (r.filter _)
  · have ed : doneP (ws ++ [⟨"join", a, some b, lv, d⟩]) (ws ++ [(⟨"join", a, some b, lv, d⟩ : Vw)]).length = doneP ws ws.length := dn
    rw [List.mem_filter, h.mp]
    unfold saysOf
    rw [ed, List.mem_filter, List.mem_filter, hh, has_drop, has_drop]
    simp only [Bool.and_eq_true]
    constructor
    · rintro ⟨⟨m, c1, c2⟩, d1, d2⟩
      exact ⟨m, ⟨d1, c1⟩, d2, c2⟩
    · rintro ⟨m, ⟨d1, c1⟩, d2, c2⟩
      exact ⟨⟨m, c1, c2⟩, d1, d2⟩
theorem free_filter {ps qs : List (Str × Str)} {ys zs : List Str} (hz : ∀ p ∈ ps, p.1 ∈ ys ∧ p.2 ∈ ys) (nd : zs.Nodup) (sub : ∀ p ∈ qs, p ∈ ps) (af : AllFree ps ys.length ys) : AllFree qs zs.length zs := by
  refine Classical.byContradiction fun n => ?_
  obtain ⟨x, _, p⟩ := path_of_not_free rfl nd n
  have ps' : ∀ {x y : Str}, Path qs x y → Path ps x y := fun p => by
    induction p with
    | one m => exact .one (sub _ m)
    | more _ m ih => exact .more ih (sub _ m)
  exact ring_no hz (ps' p) af
end
end L52

set_option Elab.async false
set_option linter.all false
set_option maxRecDepth 100000
set_option maxHeartbeats 2000000
namespace L52
open PySem PySem.Spec PyProof.Rows L2 LT
open My hiding Tbs Gk Tk
section
variable {P : Program} {w : World} {K : PySem.W.Frag} {mg : Str → Option Value} {base : Heap}
theorem views_vn {H : Hp} {zs : List Str} : ∀ {xs : List V} {ks : List NestedKey} {vf : List Vw}, NkAll H xs ks → (∀ k ∈ ks, PgK k) → (∀ k ∈ ks, Sy zs k) → Views H xs vf → ∀ v ∈ vf, VwN zs v
  | _, _, _, .nil, _, _, .nil, v, hv => by cases hv
  | _, _, _, .cons n h, p, s, .cons a r, v, hv => by
    rcases List.mem_cons.mp hv with e | hv
    · rw [e]
      exact view_ok n (p _ (.head _)) (s _ (.head _)).2 a
    · exact views_vn h (fun k hk => p k (.tail _ hk)) (fun k hk => s k (.tail _ hk)) r v hv
theorem RankTo.gk {Ts : TL} {H H' : Hp} {ps : List (Str × Str)} {ys : List Str} {r : Addr} (h : RankTo H ps ys r) (g : Gk Ts H H') : RankTo H' ps ys r := by
  rcases h with ⟨af, o, h1, ob, h2, td⟩ | ⟨naf, o, h1, x, wp, wt, w2⟩
  · exact .inl ⟨af, o, g.tup h1, ob, g.1 _ _ h2 (fun ps z => by cases z), td⟩
  · exact .inr ⟨naf, o, g.tup h1, x, wp, wt.at g.tups, w2⟩
def spLt (T : Tx K mg w) : Sp := fun vs H Q _ => ∃ (n s r : Addr) (us : List V) (ps : List (Str × Str)) (zs : List Str), vs = [.ref n, .ref s, .ref r] ∧ Rd H n (.tup (zs.map V.str)) ∧ H s = some (.tup us) ∧ NkAll H us (ps.map sayK) ∧ RankTo H ps zs r ∧ zs.Nodup ∧ zs.length ≤ 9 ∧ ps.length ≤ 80 ∧ (∀ p ∈ ps, p.1 ∈ zs ∧ p.2 ∈ zs) ∧ Tbs (tbs T) H ∧
  ∀ H', Gk (tbs T) H H' → Q (.bl true) H'
theorem ok_lt (T : Tx K mg w) (B : Tb T base) : FnOk P w K mg base CX0 5 T.f_w_let T.d_w_let ["_law_names_here", "_law_some", "_law_told"] (spLt T) := by
  have G_lets_order : FnOk P w K mg base (L2.CX P w) 4 T.f_lets_order T.d_lets_order ["names", "some", "thing"] (spLO T) := ok_lo T B
  have G_lets_ring : FnOk P w K mg base (L2.CX P w) 4 T.f_lets_ring T.d_lets_ring ["names", "some", "thing"] (spLR T) := ok_lr T B
  refine T.F_w_let.ok S_w_let (fun vs H Q E h => ?_) (fun cdv A outer s0 H vs Q E hr h => ?_)
  · obtain ⟨n, s, r, us, ps, zs, rfl, _⟩ := h
    rfl
  · obtain ⟨n, s, r, us, ps, zs, rfl, hn, hs, nk, rt, nd, l9, l80, hz, hB, q⟩ := h
    refine ⟨_, (pss_cons (ps_set (i := 3) S_w_let.nd rfl (.inl rfl) pe_bl)
      (pss_cons (ps_try_only (Wout := fun _ _ _ _ => False) rfl rfl ⟨rfl, by decide, Or.inl T.gC_NoPaper⟩ takes0
      (fun W pn xe tk _ => (pss_one (ps_set (i := 3) S_w_let.nd rfl (.inl rfl) (pe_ifExp (pt_cmpR op_eq (pe_ix (r := rIxT K) ix_tup (pv 2) pe_int (fun _ _ => rfl)) pe_str (nomark _)) (pe_callS G_lets_order hr (by rfl) T.g_lets_order T.F_lets_order.kp T.b_lets_order (fun σ => passAt tk σ) (pa_cons (pv 0) (pa_cons (pv 1) (pa_cons (pe_ix (r := rIxT K) ix_tup (pv 2) pe_int (fun _ _ => rfl)) pa_nil)))) (pe_callS G_lets_ring hr (by rfl) T.g_lets_ring T.F_lets_ring.kp T.b_lets_ring (fun σ => passAt tk σ) (pa_cons (pv 0) (pa_cons (pv 1) (pa_cons (pe_ix (r := rIxT K) ix_tup (pv 2) pe_int (fun _ _ => rfl)) pa_nil))))))))
      (fun a oe cls d pn hz hf => (pss_one (ps_set (i := 3) S_w_let.nd rfl (.inl rfl) pe_bl))))
      (pss_one (ps_ret (pe_cmpR op_is_bl (pv 3) pe_bl (nomark _)))))), ?_⟩
    rcases rt with ⟨af, o, h1, ob, h2, td⟩ | ⟨naf, o, h1, x, wp, wt, wy, wnd, wne⟩
    · obtain ⟨o1, o2⟩ := rank_order af nd
      refine ⟨_, rfl, r, _, 0, .str "order", rfl, rfl, .inl (.inl h1), rfl, rfl, _, rfl, iteT ?_⟩
      refine ⟨_, rfl, _, rfl, _, rfl, r, _, 1, .ref o, rfl, rfl, .inl (.inl h1), rfl, n, s, o, us, ps, zs, _, ob, rfl, hn, hs, nk, h2, td, o1, nd, l9, l80, hz, hB, fun H1 g1 _ => ?_, fun dx pth wd us' H1 g1 no hd hp => absurd (fun p hp => o2 p hp (hz p hp).1 (hz p hp).2) no⟩
      exact ⟨_, rfl, _, _, rfl, rfl, q _ g1⟩
    · have ir := wy_ring wy wnd wne
      have lw : wp.length ≤ 50 := by
        have := nodup_len (m := zs) wnd fun y hy => by
          obtain ⟨p, hp, rfl⟩ := List.mem_map.mp hy
          exact (hz p (wy.sub p hp)).1
        rw [List.length_map] at this
        omega
      refine ⟨_, rfl, r, _, 0, .str "ring", rfl, rfl, .inl (.inl h1), rfl, rfl, _, rfl, iteF ?_⟩
      refine ⟨_, rfl, _, rfl, _, rfl, r, _, 1, .ref o, rfl, rfl, .inl (.inl h1), rfl, .ref n, s, o, us, ps, wp, rfl, hs, nk, wt, lw, hB, fun H1 g1 _ => ?_, fun dx pth wd us' H1 g1 no hd hp => absurd ir no⟩
      exact ⟨_, rfl, _, _, rfl, rfl, q _ g1⟩
end
end L52

set_option Elab.async false
set_option linter.all false
set_option maxRecDepth 100000
set_option maxHeartbeats 2000000
namespace L52
open PySem PySem.Spec PyProof.Rows L2 LT
open My hiding Tbs Gk Tk
section
variable {P : Program} {w : World} {K : PySem.W.Frag} {mg : Str → Option Value} {base : Heap}
theorem fine_texts : ∀ {L : List Str}, (∀ z ∈ L, Plain z) → FineAll (L.map PyData.str) (1006 * L.length) ∧ PyData.depthAll (L.map PyData.str) = 0
  | [], _ => ⟨.nil, by rw [List.map_nil, PyData.depthAll]⟩
  | z :: L, h => by
    obtain ⟨c, d⟩ := fine_texts fun y hy => h y (.tail _ hy)
    have t := FineAll.cons (fine_text (h z (.head _))) c
    rw [List.map_cons]
    exact ⟨⟨t.sh, by have := t.cost; rw [List.length_cons]; omega, t.lay, t.deep⟩, by rw [PyData.depthAll, d, PyData.depth]; rfl⟩
theorem fine_tup {ds : List PyData} {c e : Nat} (f : FineAll ds c) (d : PyData.depthAll ds ≤ e) (e2 : e ≤ 2) : Fine (.tuple ds) (c + 10) ∧ (PyData.tuple ds).depth ≤ e + 1 := by
  have dp : (PyData.tuple ds).depth ≤ e + 1 := by rw [PyData.depth]; omega
  exact ⟨⟨f.sh, by rw [GU.cost]; have := f.cost; omega, by rw [PyData.canLay0]; exact f.lay, by omega⟩, dp⟩
theorem fine_pairs : ∀ {ps : List (Str × Str)}, (∀ p ∈ ps, Plain p.1 ∧ Plain p.2) → FineAll (NestedKey.datas (ps.map sayK)) (2030 * ps.length) ∧ PyData.depthAll (NestedKey.datas (ps.map sayK)) ≤ 1
  | [], _ => ⟨by rw [List.map_nil, NestedKey.datas]; exact .nil, by rw [List.map_nil, NestedKey.datas, PyData.depthAll]; omega⟩
  | p :: ps, h => by
    obtain ⟨c, d⟩ := fine_pairs fun y hy => h y (.tail _ hy)
    obtain ⟨p1, p2⟩ := h p (.head _)
    obtain ⟨t1, t2⟩ := fine_texts (L := [p.1, p.2]) fun z hz => by
      rcases List.mem_cons.mp hz with rfl | hz
      · exact p1
      · rw [List.mem_singleton.mp hz]; exact p2
    obtain ⟨f, fd⟩ := fine_tup (e := 0) t1 (by rw [t2]; exact Nat.le_refl _) (by decide)
    have e : (sayK p).data = .tuple [.str p.1, .str p.2] := by unfold sayK; simp [NestedKey.data, NestedKey.datas]
    have f : Fine (.tuple [.str p.1, .str p.2]) (1006 * 2 + 10) := f
    have t := FineAll.cons f c
    rw [List.map_cons, NestedKey.datas, e]
    refine ⟨⟨t.sh, by have := t.cost; rw [List.length_cons]; omega, t.lay, t.deep⟩, ?_⟩
    rw [PyData.depthAll]
    have fd : (PyData.tuple [.str p.1, .str p.2]).depth ≤ 1 := fd
    omega
theorem two_shown {a b : PyData} {c d : Nat} (fa : Fine a c) (fb : Fine b d) (h : c + d ≤ 4000000) : GU.Sh (.tuple [a, b]) ∧ (PyData.tuple [a, b]).depth ≤ 50 ∧ GU.cost (.tuple [a, b]) ≤ sizeLine := by
  have t := FineAll.cons fa (FineAll.cons fb .nil)
  refine ⟨t.sh, by rw [PyData.depth]; have := t.deep; omega, ?_⟩
  rw [GU.cost]
  have := t.cost
  exact Nat.le_trans (show _ ≤ 4000403 by omega) (by decide)
theorem dp_texts {H : Hp} : ∀ (L : List Str), DpAll K H (L.map V.str) (L.map PyData.str)
  | [] => .nil
  | _ :: L => .cons (.str _) (dp_texts L)
/-- what follows is shown once, for all ways that lead there -/
theorem mrg1 {α : Type} {K C : α → Prop} {G : Prop} (main : (∀ a, C a → K a) → G) (tail : ∀ a, C a → K a) : G := main tail
theorem mrg2 {α β : Type} {K C : α → β → Prop} {G : Prop} (main : (∀ a b, C a b → K a b) → G) (tail : ∀ a b, C a b → K a b) : G := main tail
theorem emp_pos {α : Type} : ∀ {ys : List α}, (!ys.isEmpty) = true → 0 < ys.length
  | [], e => by cases e
  | _ :: _, _ => Nat.succ_pos _
theorem emp_nil {α : Type} : ∀ {ys : List α}, ¬ (!ys.isEmpty) = true → ys = []
  | [], _ => rfl
  | _ :: _, e => absurd rfl e
theorem mrg11 {α β : Type} {K1 C1 : α → Prop} {K2 C2 : β → Prop} {G : Prop} (main : (∀ a, C1 a → K1 a) → (∀ b, C2 b → K2 b) → G) (one : ∀ a, C1 a → K1 a) (two : ∀ b, C2 b → K2 b) : G := main one two
/-- a new address's heap by a name of its own -/
@[elab_as_elim] theorem fresh_fin {G : Hp → Prop} {H : Hp} {p : Addr} (o : HO) (n : H p = none) (k : ∀ H', Same H H' → H' p = some o → G H') : G (upd H p o) := k _ (same_upd n) upd_same
theorem mrg0 {C K G : Prop} (main : (C → K) → G) (tail : C → K) : G := main tail
def spWith : Sp := fun vs H Q _ => ∃ (a b : Addr) (xs : List V) (ks : List NestedKey) (k : NestedKey), vs = [.ref a, .ref b] ∧ H a = some (.tup xs) ∧ PgsAt H xs ks ∧ Nk H (.ref b) k ∧ PgK k ∧ xs.length ≤ 500 ∧
  ∀ r ys ls H', Same H H' → H' r = some (.tup ys) → NkAll H' ys ls → Ord ls → (∀ x, x ∈ ls ↔ x ∈ ks ∨ x = k) → Q (.ref r) H'
theorem ok_with (T : Tx K mg w) : FnOk P w K mg base CX0 5 T.f_with_page T.d_with_page ["book", "page"] (spWith) := by
  have G_in_order : FnOk P w K mg base CX0 4 T.f_in_order T.d_in_order ["some"] (spOrd) := ok_order T
  refine T.F_with_page.ok S_with_page (fun vs H Q E h => ?_) (fun cdv A outer s0 H vs Q E hr h => ?_)
  · obtain ⟨a, b, xs, ks, k, rfl, _⟩ := h
    rfl
  · obtain ⟨a, b, xs, ks, k, rfl, ha, ⟨nk, pk⟩, nb, pb, lx, q⟩ := h
    refine ⟨_, (pss_one (ps_ret (pe_call G_in_order hr (by rfl) T.g_in_order T.F_in_order.kp T.b_in_order .nil pass0 (pa_cons (pe_op op_catA (pv 0) (pe_tup (pa_cons (pv 1) pa_nil))) pa_nil)))), ?_⟩
    refine ⟨_, rfl, _, rfl, sz (by show 1 ≤ 1000; decide), fun c nc => ?_⟩
    refine fresh_fin (.tup [V.ref b]) nc fun H1 s1 h1 => ?_
    have lk := nk.length
    have nk1 := nk.at (.same s1)
    have nb1 := nb.at (.same s1)
    have go : ∀ (r : Addr) (H2 : Hp), Same H1 H2 → H2 r = some (.tup (xs ++ [V.ref b])) → spOrd [.ref r] H2 (fun v H' => Q v H') E0 := fun r H2 s2 h2 => by
      refine ⟨r, _, ks ++ [k], rfl, .inr h2, ⟨(nk1.at (.same s2)).app (.cons (nb1.at (.same s2)) .nil), fun x hx => (List.mem_append.mp hx).elim (pk x) fun h => by rw [List.mem_singleton.mp h]; exact pb⟩, by rw [List.length_append]; show xs.length + 1 ≤ 1000; omega, fun r' ys ls H3 s3 h3 n3 o3 m3 l3 => ?_⟩
      exact q r' ys ls H3 (s1.trans (s2.trans s3)) h3 n3 o3 fun x => by rw [m3, List.mem_append, List.mem_singleton]
    refine ⟨a, c, xs, _, rfl, rfl, .inl (.inl (s1 _ _ ha)), .inl (.inl h1), Nat.le_trans (show xs.length + 1 ≤ 1000 by omega) (by decide), fun e => ?_, (fun _ e => by cases e), fun _ _ r nr => ?_⟩
    · have := go c H1 (fun _ _ e => e) (by rw [e]; exact h1)
      exact this
    · exact go r _ (same_upd nr) upd_same

/-- a book of names of the list -/
structure Bok (T : Tx K mg w) (H : Hp) (a : Addr) (xs : List V) (ks : List NestedKey) (zs : List Str) : Prop where
  ha : H a = some (.tup xs)
  pg : PgsAt H xs ks
  sy : ∀ k ∈ ks, Sy zs k
  ord : Ord ks
  lx : xs.length ≤ 76
  tb : Tbs (tbs T) H
  lz : zs.length ≤ 9
theorem Bok.gk {T : Tx K mg w} {H H' : Hp} {a : Addr} {xs : List V} {ks : List NestedKey} {zs : List Str} (h : Bok T H a xs ks zs) (g : Gk (tbs T) H H') : Bok T H' a xs ks zs :=
  ⟨g.tup h.ha, ⟨h.pg.1.at g.tups, h.pg.2⟩, h.sy, h.ord, h.lx, g.2, h.lz⟩
def dayF (d : Int) (ks : List NestedKey) : List NestedKey := ks.filter fun k => decide (dayK k ≤ d)
theorem Bok.bd {T : Tx K mg w} {H : Hp} {a : Addr} {xs : List V} {ks : List NestedKey} {zs : List Str} (h : Bok T H a xs ks zs) (d : Int) : ∃ ws, Bd T H a d xs ks ws zs ∧ ws.map Vw.k = (dayF d ks).map kvK := by
  obtain ⟨vf, v1, v2, v3⟩ := views_full h.pg.1 h.pg.2 h.sy
  have vn := views_vn h.pg.1 h.pg.2 h.sy v1
  refine ⟨_, ⟨h.ha, h.pg, h.lx, h.tb, v2 d, fun v hv => vn v (List.mem_filter.mp hv).1, fun v hv => v3 v (List.mem_filter.mp hv).1, h.lz⟩, ?_⟩
  exact views_k (flt_nk d h.pg.1).1 (fun k hk => h.pg.2 k (List.mem_filter.mp hk).1) (v2 d)
theorem day_ahead {k k' : NestedKey} (h : PgK k) (h' : PgK k') (l : dayK k < dayK k') : ahead k k' = true := by
  have e := ahead_lt h h'
  obtain ⟨z, d, r, rfl, _⟩ := h
  obtain ⟨z', d', r', rfl, _⟩ := h'
  have l : d < d' := l
  rw [place_eq, place_eq, ltK, ltAll, if_neg (fun q => by injection q with q; omega)] at e
  rw [ltK] at e
  have := Option.some.inj e
  rw [← this]
  exact decide_eq_true l
theorem dayF_ord {ks : List NestedKey} (d : Int) (h : Ord ks) : Ord (dayF d ks) := List.Pairwise.filter _ h
theorem ord_snoc {ks : List NestedKey} {k : NestedKey} (h : Ord ks) (pk : ∀ x ∈ ks, PgK x) (p : PgK k) (l : ∀ x ∈ ks, dayK x < dayK k) : Ord (ks ++ [k]) := List.pairwise_append.mpr ⟨h, List.pairwise_singleton _ _, fun a ha b hb => by rw [List.mem_singleton.mp hb]; exact day_ahead (pk a ha) p (l a ha)⟩

theorem eqv_key (k : NestedKey) : PyData.eqv k.data k.data = true := by
  have := eqv_keys [k] [k]
  rw [NestedKey.beqAll_self, NestedKey.datas, NestedKey.datas, PyData.eqvAll, Bool.and_eq_true] at this
  exact this.1
theorem datas_texts : ∀ L : List Str, NestedKey.datas (L.map NestedKey.text) = L.map PyData.str
  | [] => by rw [List.map_nil, NestedKey.datas]; rfl
  | z :: L => by rw [List.map_cons, NestedKey.datas, datas_texts L, NestedKey.data, List.map_cons]
theorem nk_texts {H : Hp} : ∀ L : List Str, NkAll H (L.map V.str) (L.map NestedKey.text)
  | [] => .nil
  | z :: L => .cons (.str z) (nk_texts L)
theorem tup_data (ks : List NestedKey) : (NestedKey.tup ks).data = .tuple (NestedKey.datas ks) := by rw [NestedKey.data]
theorem shaped_T {d : PyData} {ds : List PyData} {c : Nat} (f : FineAll ds c) (e : d = .tuple ds ∨ d = .list ds) : SeqAt.shaped d = true := by
  have dp := f.deep
  rcases e with rfl | rfl
  all_goals
    unfold SeqAt.shaped
    rw [Bool.and_eq_true, PyData.canLay0, PyData.depth]
    exact ⟨f.lay, decide_eq_true (by omega)⟩
theorem shaped_saysT {ps : List (Str × Str)} (h : ∀ p ∈ ps, Plain p.1 ∧ Plain p.2) : SeqAt.shaped (NestedKey.tup (ps.map sayK)).data = true := by
  obtain ⟨f, fd⟩ := fine_pairs h
  exact shaped_T f (.inl (tup_data _))
theorem shaped_textsT {L : List Str} (h : ∀ z ∈ L, Plain z) : SeqAt.shaped (NestedKey.tup (L.map NestedKey.text)).data = true := by
  obtain ⟨f, fd⟩ := fine_texts h
  exact shaped_T f (.inl (by rw [tup_data, datas_texts]))
/-- two tuples of the same keys are equal -/
theorem ne_keys {H : Hp} {a b : Addr} {xs ys : List V} {ks : List NestedKey} {Q : VK} (ha : H a = some (.tup xs)) (hb : H b = some (.tup ys)) (na : NkAll H xs ks) (nb : NkAll H ys ks) (sh : SeqAt.shaped (NestedKey.tup ks).data = true) (q : Q (.bl false) H) : rNeD K (.ref a) (.ref b) H Q := by
  refine ⟨(NestedKey.tup ks).data, (NestedKey.tup ks).data, ?_, ?_, sh, sh, ?_⟩
  · rw [tup_data]; exact .tup (.inl (.inl ha)) na.dp
  · rw [tup_data]; exact .tup (.inl (.inl hb)) nb.dp
  · rw [eqv_key]; exact q

theorem RankTo.word {H : Hp} {ps : List (Str × Str)} {ys : List Str} {r : Addr} (h : RankTo H ps ys r) : ∃ wd o, H r = some (.tup [.str wd, .ref o]) ∧ (AllFree ps ys.length ys ∧ wd = "order" ∨ ¬ AllFree ps ys.length ys ∧ wd = "ring") := by
  rcases h with ⟨af, o, h1, _⟩ | ⟨naf, o, h1, _⟩
  · exact ⟨_, o, h1, .inl ⟨af, rfl⟩⟩
  · exact ⟨_, o, h1, .inr ⟨naf, rfl⟩⟩
end
end L52

set_option Elab.async false
set_option linter.all false
set_option maxRecDepth 100000
set_option maxHeartbeats 2000000
namespace L52
open PySem PySem.Spec PyProof.Rows L2 LT
open My hiding Tbs Gk Tk
section
variable {P : Program} {w : World} {K : PySem.W.Frag} {mg : Str → Option Value} {base : Heap}
def spGup (T : Tx K mg w) : Sp := fun vs H Q _ => ∃ (a n s : Addr) (d at_ : Int) (xs us : List V) (ks : List NestedKey) (zs ys : List Str) (ps : List (Str × Str)) (ws : List Vw), vs = [.ref a, .int d, .ref n, .ref s, .int at_] ∧ Bok T H a xs ks zs ∧ xs.length ≤ 75 ∧ 0 ≤ d ∧ d < 15000 ∧ (∀ z ∈ zs, Nm z) ∧ Bd T H a d xs ks ws zs ∧ ws.map Vw.k = (dayF d ks).map kvK ∧ Rk ws ys ps ∧ H n = some (.tup (ys.map V.str)) ∧ H s = some (.tup us) ∧ NkAll H us (ps.map sayK) ∧ 2 ≤ ys.length ∧ -1 ≤ at_ ∧ at_ < ys.length ∧
  ∀ H', Gk (tbs T) H H' → Q (.bl true) H'
theorem ok_gup (T : Tx K mg w) (B : Tb T base) : FnOk P w K mg base CX0 11 T.f_w_gone_up_right T.d_w_gone_up_right ["_law_book_here", "_law_day", "_law_houses", "_law_some", "_law_at"] (spGup T) := by
  have G_up_to : FnOk P w K mg base CX0 3 T.f_up_to T.d_up_to ["book", "day"] (spUp T) := ok_up T B
  have G_with_page : FnOk P w K mg base CX0 5 T.f_with_page T.d_with_page ["book", "page"] (spWith) := ok_with T
  have G_sayings : FnOk P w K mg base CX0 7 T.f_sayings T.d_sayings ["book", "day"] (spSay T) := ok_say T B
  have G_standing : FnOk P w K mg base CX0 7 T.f_standing T.d_standing ["book", "day"] (spStnd T) := ok_stnd T B
  have G_ranks : FnOk P w K mg base CX0 10 T.f_ranks T.d_ranks ["book", "day"] (spRanks T) := ok_ranks T B
  have G_w_let : FnOk P w K mg base CX0 5 T.f_w_let T.d_w_let ["_law_names_here", "_law_some", "_law_told"] (spLt T) := ok_lt T B
  refine T.F_w_gone_up_right.ok S_w_gone_up_right (fun vs H Q E h => ?_) (fun cdv A outer s0 H vs Q E hr h => ?_)
  · obtain ⟨a, n, s, d, at_, xs, us, ks, zs, ys, ps, ws, rfl, _⟩ := h
    rfl
  · obtain ⟨a, n, s, d, at_, xs, us, ks, zs, ys, ps, ws, rfl, bk, x75, d0, d1, nm, bd, ewk, rk, hn, hs, nk, l2, at0, at1, q⟩ := h
    refine ⟨_, (pss_cons (ps_asg (pe_tup (pa_cons (pe_ix ix_tup (pv 2) (pe_op op_sub (pv 4) pe_int) (fun _ _ => rfl)) (pa_cons (pe_ix ix_tup (pv 2) (pv 4) (fun _ _ => rfl)) pa_nil))) (pg_tup rfl (pgs_cons (pg_name (i := 5) S_w_gone_up_right.nd rfl (.inl rfl)) (pgs_cons (pg_name (i := 6) S_w_gone_up_right.nd rfl (.inr rfl)) pgs_nil))))
      (pss_cons (ps_set (i := 7) S_w_gone_up_right.nd rfl (.inl rfl) (pe_call G_up_to (hr.mono (by decide)) (by rfl) T.g_up_to T.F_up_to.kp T.b_up_to .nil pass0 (pa_cons (pv 0) (pa_cons (pv 1) pa_nil))))
      (pss_cons (ps_set (i := 8) S_w_gone_up_right.nd rfl (.inl rfl) (pe_call G_with_page (hr.mono (by decide)) (by rfl) T.g_with_page T.F_with_page.kp T.b_with_page .nil pass0 (pa_cons (pv 7) (pa_cons (pe_tup (pa_cons pe_str (pa_cons (pe_op op_add (pv 1) pe_int) (pa_cons (pv 5) (pa_cons (pv 6) pa_nil))))) pa_nil))))
      (pss_cons (ps_set (i := 9) S_w_gone_up_right.nd rfl (.inl rfl) (pe_callTy call_tuple_of (by rfl) T.m_tuple (by decide +kernel) (pa_cons (pe_lc (own := [("_law_name", 12)]) (g := gName 12) (by rfl) S_w_gone_up_right.nd (pi_tup (pv 2)) (blkOk_by (own := [("_law_name", 12)]) (N := N_w_gone_up_right) (sc := defScope s_w_gone_up_right) (by decide +kernel)) (fun _ _ _ _ _ => (pg_name (i := 12) S_w_gone_up_right.nd rfl (.inl rfl))) (fun _ _ _ _ _ => (pts_one (pt_cmpR op_ne (pv 12) (pv 6) (nomark _)))) (fun _ _ _ _ _ => (pv 12))) pa_nil)))
      (pss_cons (ps_set (i := 10) S_w_gone_up_right.nd rfl (.inl rfl) (pe_callTy call_tuple_of (by rfl) T.m_tuple (by decide +kernel) (pa_cons (pe_lc (own := [("_law_pair", 13)]) (g := gName 13) (by rfl) S_w_gone_up_right.nd (pi_tup (pv 3)) (blkOk_by (own := [("_law_pair", 13)]) (N := N_w_gone_up_right) (sc := defScope s_w_gone_up_right) (by decide +kernel)) (fun _ _ _ _ _ => (pg_name (i := 13) S_w_gone_up_right.nd rfl (.inl rfl))) (fun _ _ _ _ _ => (pts_one (pt_cmpR (r := rIn K true) op_notIn_seq (pv 6) (pv 13) (by rfl)))) (fun _ _ _ _ _ => (pv 13))) pa_nil)))
      (pss_cons (ps_if (pt_cmpR (op_neD hr.units) (pe_call G_sayings (hr.mono (by decide)) (by rfl) T.g_sayings T.F_sayings.kp T.b_sayings .nil pass0 (pa_cons (pv 8) (pa_cons (pe_op op_add (pv 1) pe_int) pa_nil))) (pv 10) (nomark _)) (pss_one (ps_ret pe_bl)) pss_nil)
      (pss_cons (ps_if (pt_cmpR (op_neD hr.units) (pe_callTy call_tuple_of (by rfl) T.m_tuple (by decide +kernel) (pa_cons (pe_lc (own := [("_law_name", 12), ("_law_home", 14)]) (g := gTup K 2 (gCons (gName 12) (gCons (gName 14) gNil))) (tt := tYes) (by rfl) S_w_gone_up_right.nd (pi_list (pe_call G_standing (hr.mono (by decide)) (by rfl) T.g_standing T.F_standing.kp T.b_standing .nil pass0 (pa_cons (pv 8) (pa_cons (pe_op op_add (pv 1) pe_int) pa_nil)))) (blkOk_by (own := [("_law_name", 12), ("_law_home", 14)]) (N := N_w_gone_up_right) (sc := defScope s_w_gone_up_right) (by decide +kernel)) (fun _ _ _ _ _ => (pg_tup rfl (pgs_cons (pg_name (i := 12) S_w_gone_up_right.nd rfl (.inl rfl)) (pgs_cons (pg_name (i := 14) S_w_gone_up_right.nd rfl (.inl rfl)) pgs_nil)))) (fun _ _ _ _ _ => pts_nil) (fun _ _ _ _ _ => (pv 12))) pa_nil)) (pv 9) (nomark _)) (pss_one (ps_ret pe_bl)) pss_nil)
      (pss_cons (ps_set (i := 11) S_w_gone_up_right.nd rfl (.inl rfl) (pe_call G_ranks hr (by rfl) T.g_ranks T.F_ranks.kp T.b_ranks .nil pass0 (pa_cons (pv 8) (pa_cons (pe_op op_add (pv 1) pe_int) pa_nil))))
      (pss_cons (ps_if (PW.pt (pw_or (pt_not (pt_val (pe_call G_w_let (hr.mono (by decide)) (by rfl) T.g_w_let T.F_w_let.kp T.b_w_let .nil pass0 (pa_cons (pv 9) (pa_cons (pv 10) (pa_cons (pv 11) pa_nil)))))) (pw_or1 (PW.pt (pw_and (pt_cmpR op_eq (pe_ix ix_tup (pe_call G_ranks hr (by rfl) T.g_ranks T.F_ranks.kp T.b_ranks .nil pass0 (pa_cons (pv 0) (pa_cons (pv 1) pa_nil))) pe_int (fun _ _ => rfl)) pe_str (nomark _)) (pw_and1 (pt_cmpR op_ne (pe_ix ix_tup (pv 11) pe_int (fun _ _ => rfl)) pe_str (nomark _)))))))) (pss_one (ps_ret pe_bl)) pss_nil)
      (pss_one (ps_ret (pe_cmpR op_eq (pe_ix ix_tup (pe_call G_ranks hr (by rfl) T.g_ranks T.F_ranks.kp T.b_ranks .nil pass0 (pa_cons (pv 8) (pa_cons (pv 1) pa_nil))) pe_int (fun _ _ => rfl)) (pe_ix ix_tup (pe_call G_ranks hr (by rfl) T.g_ranks T.F_ranks.kp T.b_ranks .nil pass0 (pa_cons (pv 0) (pa_cons (pv 1) pa_nil))) pe_int (fun _ _ => rfl)) (nomark _))))))))))))), ?_⟩
    have lw : ws.length ≤ 76 := by rw [← bd.vw.length]; exact Nat.le_trans (fltD_len _ _ _) bd.lx
    have F := rk.facts bd.vn bd.vs bd.lz lw
    have mz : ∀ y ∈ ys, Plain y := fun y hy => (nm y (F.sub y hy)).plain
    obtain ⟨ib, hib, eb, v0, v1⟩ : ∃ j : Nat, j < ys.length ∧ atI (ys.map V.str) at_ = (ys.map V.str)[j]? ∧ (0 ≤ at_ → (j : Int) = at_) ∧ (at_ < 0 → j = ys.length - 1) := by
      by_cases c : 0 ≤ at_
      · refine ⟨at_.toNat, by omega, ?_, by omega, by omega⟩
        unfold atI ixN
        rw [if_pos c, if_pos (by rw [List.length_map]; omega)]
        rfl
      · refine ⟨ys.length - 1, by omega, ?_, by omega, fun _ => rfl⟩
        have e1 : at_ = -1 := by omega
        subst e1
        unfold atI ixN
        rw [if_neg c, if_pos (by rw [List.length_map]; omega)]
        show (ys.map V.str)[_]? = _
        congr 1
        rw [List.length_map]
        omega
    obtain ⟨ia, hia, ea, iab⟩ : ∃ j : Nat, j < ys.length ∧ atI (ys.map V.str) (at_ - 1) = (ys.map V.str)[j]? ∧ j ≠ ib := by
      by_cases c : 0 ≤ at_ - 1
      · refine ⟨(at_ - 1).toNat, by omega, ?_, by omega⟩
        unfold atI ixN
        rw [if_pos c, if_pos (by rw [List.length_map]; omega)]
        rfl
      · refine ⟨((ys.length : Int) + (at_ - 1)).toNat, by omega, ?_, by omega⟩
        unfold atI ixN
        rw [if_neg c, if_pos (by rw [List.length_map]; omega)]
        show (ys.map V.str)[_]? = _
        congr 1
        rw [List.length_map]
        omega
    obtain ⟨b, hb⟩ : ∃ b, ys[ib]? = some b := ⟨_, List.getElem?_eq_getElem hib⟩
    obtain ⟨a1, ha1⟩ : ∃ b, ys[ia]? = some b := ⟨_, List.getElem?_eq_getElem hia⟩
    rw [List.getElem?_map, hb] at eb
    rw [List.getElem?_map, ha1] at ea
    have ma := List.mem_of_getElem? ha1
    have mb := List.mem_of_getElem? hb
    have ab : a1 ≠ b := fun z => by
      rw [z] at ha1
      have h1 := List.getElem?_eq_some_iff.mp ha1
      have h2 := List.getElem?_eq_some_iff.mp hb
      have := List.pairwise_iff_getElem.mp F.nd
      rcases Nat.lt_trichotomy ia ib with l | l | l
      · exact this ia ib hia hib l (h1.2.trans h2.2.symm)
      · exact iab l
      · exact this ib ia hib hia l (h2.2.trans h1.2.symm)
    refine ⟨_, rfl, _, rfl, _, _, rfl, rfl, n, _, _, _, rfl, rfl, .inl (.inl hn), ea, _, rfl, _, rfl, n, _, _, _, rfl, rfl, .inl (.inl hn), eb, sz (by show 2 ≤ 1000; decide), fun c nc => ?_⟩
    refine fresh_fin (.tup [V.str a1, V.str b]) nc fun H1 s1 h1 => ?_
    have g1 : Gk (tbs T) H H1 := .of_same s1 bk.tb
    refine ⟨c, _, rfl, .inl (.inl h1), rfl, _, _, rfl, _, _, rfl, rfl, ?_⟩
    have bk1 := bk.gk g1
    refine ⟨_, rfl, _, rfl, a, d, xs, ks, rfl, bk1.ha, bk1.pg, by have := bk.lx; omega, g1.2, fun pr pzs H2 g2 hpr nkp lpz epz => ?_⟩
    have g12 := g1.trans g2
    refine ⟨_, rfl, _, rfl, _, _, rfl, rfl, _, rfl, _, rfl, sz (by show 4 ≤ 1000; decide), fun jp njp => ?_⟩
    refine fresh_fin (.tup [V.str "join", V.int (d + 1), V.str a1, V.str b]) njp fun H3 s3 h3 => ?_
    have g3 := g12.trans (.of_same s3 g12.2)
    have pj : PgK (.tup [.text "join", .num (d + 1), .text a1, .text b]) := ⟨_, _, _, rfl, .join (mz a1 ma) (mz b mb), by omega, by omega⟩
    have nj : Nk H3 (.ref jp) (.tup [.text "join", .num (d + 1), .text a1, .text b]) := .tup h3 (.cons (.str _) (.cons (.int _) (.cons (.str _) (.cons (.str _) .nil))))
    have ppg : ∀ k ∈ dayF d ks, PgK k := fun k hk => bk.pg.2 k (List.mem_filter.mp hk).1
    have pdy : ∀ k ∈ dayF d ks, dayK k ≤ d := fun k hk => of_decide_eq_true (List.mem_filter.mp hk).2
    refine ⟨pr, jp, pzs, dayF d ks, _, rfl, s3 _ _ hpr, ⟨nkp.at (.same s3), ppg⟩, nj, pj, by have := bk.lx; omega, fun wr wys wls H4 s4 hwr nkw ow mw => ?_⟩
    have el : wls = dayF d ks ++ [.tup [.text "join", .num (d + 1), .text a1, .text b]] := by
      refine ord_unique ow (ord_snoc (dayF_ord d bk.ord) ppg pj fun x hx => ?_) fun k => by rw [mw, List.mem_append, List.mem_singleton]
      have := pdy x hx
      show dayK x < d + 1
      omega
    subst el
    have g4 := g3.trans (.of_same s4 g3.2)
    have bk4 : Bok T H4 wr wys _ zs := ⟨hwr, ⟨nkw, fun k hk => (List.mem_append.mp hk).elim (ppg k) fun h => by rw [List.mem_singleton.mp h]; exact pj⟩, fun k hk => (List.mem_append.mp hk).elim (fun h => bk.sy k (List.mem_filter.mp h).1) fun h => by
      rw [List.mem_singleton.mp h]
      exact ⟨fun d' a' b' e => by
        injection e with e
        injection e with e _
        injection e with e
        exact absurd e (by decide +kernel), fun nm' hn' => by
        simp [restK] at hn'
        rcases hn' with rfl | rfl
        · exact F.sub _ ma
        · exact F.sub _ mb⟩, ow, by
        have e1 := nkw.length
        rw [List.length_append] at e1
        have e2 := bk.pg.1.length
        have e3 : (dayF d ks).length ≤ ks.length := List.length_filter_le _ _
        have e1 : wys.length = (dayF d ks).length + 1 := e1
        omega, g4.2, bk.lz⟩
    have hn4 := g4.tup hn
    have hs4 := g4.tup hs
    have nk4 := nk.at g4.tups
    refine ⟨_, rfl, n, rfl, ⟨_, .inl (.inl hn4)⟩, fun D nD => ?_⟩
    refine lc_tup (xs := ys.map V.str) (fun j Hz => ∃ L : List Str, L = (ys.take j).filter (fun y => !decide (y = b)) ∧ Hz = upd H4 D (.lst (L.map V.str))) ⟨[], rfl, rfl⟩ (fun j Hz hj ⟨L, _, e⟩ => by rw [e]; exact .inl (.inl (same_upd nD _ _ hn4))) ?_ ?_
    · rintro j v Hz hv ⟨L, eL, rfl⟩
      obtain ⟨y, hy, rfl⟩ : ∃ y, ys[j]? = some y ∧ v = V.str y := by
        rw [List.getElem?_map] at hv
        cases e : ys[j]? with
        | none => rw [e] at hv; cases hv
        | some y => rw [e] at hv; exact ⟨y, rfl, (Option.some.inj hv).symm⟩
      have tk : ys.take (j + 1) = ys.take j ++ [y] := by rw [List.take_add_one, hy]; rfl
      have lL : L.length ≤ 9 := by rw [eL]; exact Nat.le_trans (List.length_filter_le _ _) (by rw [List.length_take]; have := F.l9; omega)
      refine ⟨rfl, _, rfl, _, rfl, rfl, _, rfl, ite2 (fun e => ?_) (fun e => ?_)⟩
      · have e : (!decide (V.str y = V.str b)) = true := e
        have yb : y ≠ b := fun z => by rw [z] at e; simp at e
        refine ⟨_, rfl, _, upd_same, small1000 (by rw [List.length_map]; omega), L ++ [y], ?_, by rw [upd_upd', List.map_append]; rfl⟩
        rw [tk, List.filter_append, ← eL, List.filter_cons, if_pos (by simp [yb])]
        rfl
      · have e : ¬ (!decide (V.str y = V.str b)) = true := e
        have yb : y = b := Classical.byContradiction fun z => e (by rw [decide_eq_false (fun q => z (V.str.inj q))]; rfl)
        refine ⟨L, ?_, rfl⟩
        rw [tk, List.filter_append, ← eL, List.filter_cons, if_neg (by simp [yb])]
        exact (List.append_nil L).symm
    rintro Hz ⟨L, eL, rfl⟩
    rw [List.length_map, List.take_of_length_le (Nat.le_refl _)] at eL
    have sD := same_upd (o := .lst (L.map V.str)) nD
    have hD := upd_same (H := H4) (a := D) (o := .lst (L.map V.str))
    generalize upd H4 D (.lst (L.map V.str)) = H5 at sD hD ⊢
    refine ⟨D, _, rfl, .inl ⟨.inl (.inl hD), fun rs_ nrs => ?_⟩⟩
    refine fresh_fin (.tup (L.map V.str)) nrs fun H6 s6 h6 => ?_
    have s46 := sD.trans s6
    have hs6 := s46 _ _ hs4
    have nk6 := nk4.at (.same s46)
    have lus : us.length = ps.length := by have := nk.length; rw [List.length_map] at this; exact this
    refine ⟨_, rfl, s, rfl, ⟨_, .inl (.inl hs6)⟩, fun D2 nD2 => ?_⟩
    refine lc_tup (xs := us) (fun j Hz => ∃ (M : List (Str × Str)) (acc : List V), M = (ps.take j).filter (fun p => !decide (p.1 = b) && !decide (p.2 = b)) ∧ Same H6 Hz ∧ Hz D2 = some (.lst acc) ∧ NkAll Hz acc (M.map sayK)) ⟨[], [], rfl, same_upd nD2, upd_same, .nil⟩ (fun j Hz hj ⟨M, acc, _, sz', _⟩ => .inl (.inl (sz' _ _ hs6))) ?_ ?_
    · rintro j v Hz hv ⟨M, acc, eM, sz', hD2, nkM⟩
      have hj := (List.getElem?_eq_some_iff.mp hv).1
      obtain ⟨p, hp⟩ : ∃ p, ps[j]? = some p := ⟨_, List.getElem?_eq_getElem (by omega)⟩
      obtain ⟨kx, hkx, nx⟩ := (nk6.at (.same sz')).get hv
      have ekx : kx = sayK p := by
        rw [List.getElem?_map, hp] at hkx
        exact (Option.some.inj hkx).symm
      subst ekx
      obtain ⟨y, rfl, hy⟩ := say_nk nx
      have tk : ps.take (j + 1) = ps.take j ++ [p] := by rw [List.take_add_one, hp]; rfl
      have lacc : acc.length ≤ 80 := by
        have := nkM.length
        rw [List.length_map, eM] at this
        have h2 := List.length_filter_le (fun p : Str × Str => !decide (p.1 = b) && !decide (p.2 = b)) (ps.take j)
        rw [List.length_take] at h2
        have := F.l75
        omega
      have ei : inV (.str b) ([p.1, p.2].map V.str) = decide (b ∈ [p.1, p.2]) := inV_strs _ _
      refine ⟨rfl, _, rfl, _, rfl, y, _, rfl, .inr (.inl (.inl hy)), rfl, flat_strs [p.1, p.2], _, rfl, ite2 (fun e => ?_) (fun e => ?_)⟩
      · have e : (!inV (.str b) ([p.1, p.2].map V.str)) = true := e
        rw [ei] at e
        have yb : ¬ (p.1 = b) ∧ ¬ (p.2 = b) := by
          have : ¬ b ∈ [p.1, p.2] := by simpa using e
          simp only [List.mem_cons, List.not_mem_nil, or_false, not_or] at this
          exact ⟨fun z => this.1 z.symm, fun z => this.2 z.symm⟩
        have tL := tups_lst (o := .lst (acc ++ [.ref y])) hD2
        refine ⟨_, rfl, acc, hD2, small1000 (by omega), M ++ [p], acc ++ [.ref y], ?_, same_fresh nD2 sz', upd_same, ?_⟩
        · rw [tk, List.filter_append, ← eM, List.filter_cons, if_pos (by simp [yb])]
          rfl
        · rw [List.map_append]
          exact (nkM.at tL).app (.cons (nx.at tL) .nil)
      · have e : ¬ (!inV (.str b) ([p.1, p.2].map V.str)) = true := e
        rw [ei] at e
        have yb : p.1 = b ∨ p.2 = b := by
          have : b = p.1 ∨ b = p.2 := Classical.or_iff_not_imp_left.mpr (by simpa using e)
          exact this.imp Eq.symm Eq.symm
        refine ⟨M, acc, ?_, sz', hD2, nkM⟩
        rw [tk, List.filter_append, ← eM, List.filter_cons, if_neg (by rcases yb with h | h <;> simp [h])]
        exact (List.append_nil M).symm
    rintro Hz ⟨M, acc, eM, sz', hD2, nkM⟩
    rw [lus, List.take_of_length_le (Nat.le_refl _)] at eM
    refine ⟨D2, _, rfl, .inl ⟨.inl (.inl hD2), fun hl_ nhl => ?_⟩⟩
    refine fresh_fin (.tup acc) nhl fun H7 s7 h7 => ?_
    have s67 := sz'.trans s7
    have g7 := g4.trans (.of_same (s46.trans s67) g4.2)
    have bk7 := bk4.gk (.of_same (s46.trans s67) g4.2)
    have nkM7 := nkM.at (.same s7)
    have hL7 := s67 _ _ h6
    have er : Rk (ws ++ [⟨"join", a1, some b, .str b, d + 1⟩]) L M := by
      rw [eL, eM]
      exact rk.join ma mb
    obtain ⟨ws7, bd7, ek7⟩ := bk7.bd (d + 1)
    have eday : dayF (d + 1) (dayF d ks ++ [.tup [.text "join", .num (d + 1), .text a1, .text b]]) = dayF d ks ++ [.tup [.text "join", .num (d + 1), .text a1, .text b]] := by
      refine List.filter_eq_self.mpr fun k hk => decide_eq_true ?_
      rcases List.mem_append.mp hk with h | h
      · have := pdy k h; omega
      · rw [List.mem_singleton.mp h]; exact Int.le_refl _
    have ek : (ws ++ [(⟨"join", a1, some b, .str b, d + 1⟩ : Vw)]).map Vw.k = ws7.map Vw.k := by
      rw [ek7, eday, List.map_append, List.map_append, ewk]
      rfl
    have rk7 := er.congr ek
    have lw7 : ws7.length ≤ 76 := by rw [← bd7.vw.length]; exact Nat.le_trans (fltD_len _ _ _) bd7.lx
    have F7 := rk7.facts bd7.vn bd7.vs bd7.lz lw7
    have mL : ∀ y ∈ L, Plain y := fun y hy => (nm y (F7.sub y hy)).plain
    have mM : ∀ p ∈ M, Plain p.1 ∧ Plain p.2 := fun p hp => ⟨mL _ (F7.hz p hp).1, mL _ (F7.hz p hp).2.1⟩
    -- sayings
    refine ⟨_, rfl, _, rfl, _, _, rfl, rfl, wr, d + 1, wys, _, ws7, rfl, bd7.ha, bd7.pg, bd7.lx, bd7.tb, bd7.vw, fun sr sus sls H8 g8 hsr nks rss ms l8 => ?_⟩
    have els : sls = M.map sayK := rs_unique rss rk7.rs fun k => by
      rw [ms]
      exact ⟨fun ⟨p, hp, e⟩ => by rw [e]; exact List.mem_map_of_mem ((rk7.mp p).mpr hp), fun h => by obtain ⟨p, hp, e⟩ := List.mem_map.mp h; exact ⟨p, (rk7.mp p).mp hp, e.symm⟩⟩
    subst els
    have h78 := g8.tup h7
    have nkM8 := nkM7.at g8.tups
    refine ⟨_, rfl, ne_keys hsr h78 nks nkM8 (shaped_saysT mM) ⟨_, rfl, iteF ?_⟩⟩
    have bk8 := bk7.gk g8
    have bd8 := bd7.gk g8
    -- standing
    refine ⟨_, rfl, _, rfl, _, _, rfl, rfl, wr, d + 1, wys, _, ws7, zs, rfl, bd8.ha, bd8.pg, by have := bd8.lx; omega, bd8.tb, bd8.vw, bd8.vn, by have := bd8.lz; omega, fun p9 ms9 ys9 H9 g9 hp9 np9 pm9 so9 l9 => ?_⟩
    have ey9 : ys9 = L := sorted_unique (perm_texts pm9 rk7.pm) so9 rk7.so
    subst ey9
    refine ⟨p9, rfl, ⟨_, .inl (.inl hp9)⟩, fun D9 nD9 => ?_⟩
    refine lc_list (xs := ms9) (fun j Hz => Hz = upd H9 D9 (.lst ((ys9.take j).map V.str))) rfl (fun j Hz hj e => by rw [e]; exact .inl (.inl (same_upd nD9 _ _ hp9))) ?_ ?_
    · rintro j x Hz hx rfl
      obtain ⟨q9, y, v9, rfl, hy, hq9⟩ := np9.get hx
      have hj := (List.getElem?_eq_some_iff.mp hy).1
      refine ⟨q9, _, rfl, .inl (.inl (same_upd nD9 _ _ hq9)), rfl, _, _, rfl, _, _, rfl, rfl, rfl, tYesT ⟨_, rfl, _, upd_same, small1000 (by rw [List.length_map, List.length_take]; omega), ?_⟩⟩
      rw [upd_upd', List.take_add_one, hy, List.map_append]
      rfl
    rintro Hz rfl
    have lm9 : ms9.length = ys9.length := np9.length
    rw [lm9, List.take_of_length_le (Nat.le_refl _)]
    have sD9 := same_upd (o := .lst (ys9.map V.str)) nD9
    have hD9 := upd_same (H := H9) (a := D9) (o := .lst (ys9.map V.str))
    generalize upd H9 D9 (.lst (ys9.map V.str)) = H10 at sD9 hD9 ⊢
    refine ⟨D9, _, rfl, .inl ⟨.inl (.inl hD9), fun t9 nt9 => ?_⟩⟩
    refine fresh_fin (.tup (ys9.map V.str)) nt9 fun H11 s11 h11 => ?_
    have s911 := sD9.trans s11
    have g811 : Gk (tbs T) H8 H11 := g9.trans (.of_same s911 g9.2)
    have hL11 := g811.tup (g8.tup hL7)
    refine ⟨_, rfl, ne_keys h11 hL11 (nk_texts ys9) (nk_texts ys9) (shaped_textsT mL) ⟨_, rfl, iteF ?_⟩⟩
    have bd11 := bd8.gk g811
    have g11 := (g7.trans g8).trans g811
    refine ⟨_, rfl, _, rfl, _, _, rfl, rfl, wr, d + 1, wys, _, ws7, zs, rfl, bd11, fun r12 y12 p12 H12 g12' rk12 rt12 => ?_⟩
    obtain ⟨rfl, rfl⟩ := rk12.uniq rk7
    have g12 := g11.trans g12'
    have hh12 := g12'.tup (g811.tup h78)
    have hL12 := g12'.tup hL11
    have nk12 := (nkM8.at g811.tups).at g12'.tups
    have bd12 := bd.gk g12
    have bk12 := (bk8.gk g811).gk g12'
    clear bk8 bd8 bd11 bk7 bd7 nkM7 nkM8 h78 hL11 h11 hL7 nks hsr
    refine ⟨_, rfl, _, rfl, _, rfl, rs_, hl_, r12, _, _, _, rfl, .inl hL12, hh12, nk12, rt12, F7.nd, F7.l9, by have := F7.l75; omega, fun p hp => ⟨(F7.hz p hp).1, (F7.hz p hp).2.1⟩, g12'.2, fun H13 g13 => ?_⟩
    refine ⟨true, rfl, iteF ?_⟩
    have bd13 := bd12.gk g13
    have bk13 := bk12.gk g13
    have rt13 := rt12.gk g13
    refine ⟨_, rfl, _, rfl, a, d, xs, ks, ws, zs, rfl, bd13, fun r14 y14 p14 H14 g14 rk14 rt14 => ?_⟩
    obtain ⟨rfl, rfl⟩ := rk14.uniq rk
    obtain ⟨w14, o14, h14, e14⟩ := rt14.word
    obtain ⟨w13, o13, h13, e13⟩ := (rt13.gk g14).word
    have bk14 := bk13.gk g14
    have g1214 := (g12.trans g13).trans g14
    apply mrg1 (C := fun H15 : Hp => H15 = H14)
    · intro tail
      refine ⟨r14, _, 0, .str w14, rfl, rfl, .inl (.inl h14), rfl, rfl, _, rfl, ite2 (fun e => ?_) (fun _ => iteF (tail _ rfl))⟩
      have e : w14 = "order" := V.str.inj (of_decide_eq_true e)
      have ew : w13 = "order" := by
        rcases e14 with ⟨af, _⟩ | ⟨_, z⟩
        · rcases e13 with ⟨_, z⟩ | ⟨naf, _⟩
          · exact z
          · exact absurd (free_filter (fun p hp => ⟨(F.hz p hp).1, (F.hz p hp).2.1⟩) F7.nd (fun p hp => by rw [eM] at hp; exact (List.mem_filter.mp hp).1) af) naf
        · rw [e] at z; exact absurd z (by decide +kernel)
      refine ⟨_, rfl, r12, _, 0, .str w13, rfl, rfl, .inl (.inl h13), rfl, rfl, _, rfl, ite2 (fun e => ?_) (fun _ => tail _ rfl)⟩
      have e : (!decide (V.str w13 = V.str "order")) = true := e
      rw [ew] at e
      simp at e
    rintro H15 rfl
    obtain ⟨ws16, bd16, ek16⟩ := bk14.bd d
    have eday2 : dayF d (dayF d ks ++ [.tup [.text "join", .num (d + 1), .text a1, .text b]]) = dayF d ks := by
      unfold dayF
      rw [List.filter_append, List.filter_filter]
      simp only [Bool.and_self]
      rw [List.filter_cons, if_neg (fun z => by have z : decide (d + 1 ≤ d) = true := z; have := of_decide_eq_true z; omega), List.filter_nil, List.append_nil]
    rw [eday2, ← ewk] at ek16
    have rk16 := rk.congr ek16.symm
    refine ⟨_, rfl, _, rfl, wr, d, wys, _, ws16, zs, rfl, bd16, fun r17 y17 p17 H17 g17 rk17 rt17 => ?_⟩
    obtain ⟨rfl, rfl⟩ := rk17.uniq rk16
    obtain ⟨w17, o17, h17, e17⟩ := rt17.word
    refine ⟨r17, _, 0, .str w17, rfl, rfl, .inl (.inl h17), rfl, ?_⟩
    refine ⟨_, rfl, _, rfl, a, d, xs, ks, ws, zs, rfl, (bd13.gk g14).gk g17, fun r18 y18 p18 H18 g18 rk18 rt18 => ?_⟩
    obtain ⟨rfl, rfl⟩ := rk18.uniq (rk16.congr ek16)
    obtain ⟨w18, o18, h18, e18⟩ := rt18.word
    refine ⟨r18, _, 0, .str w18, rfl, rfl, .inl (.inl h18), rfl, rfl, ?_⟩
    have ew : w17 = w18 := by
      rcases e17 with ⟨af, z⟩ | ⟨naf, z⟩ <;> rcases e18 with ⟨af2, z2⟩ | ⟨naf2, z2⟩
      · rw [z, z2]
      · exact absurd af naf2
      · exact absurd af2 naf
      · rw [z, z2]
    rw [ew]
    show Q (.bl (decide (V.str w18 = V.str w18))) H18
    rw [decide_eq_true rfl]
    exact q _ ((g1214.trans g17).trans g18)
end
end L52

set_option Elab.async false
set_option linter.all false
set_option maxRecDepth 100000
set_option maxHeartbeats 2000000
namespace L52
open PySem PySem.Spec PyProof.Rows L2 LT
open My hiding Tbs Gk Tk
section
variable {P : Program} {w : World} {K : PySem.W.Frag} {mg : Str → Option Value} {base : Heap}
theorem feed_kp {Ts : TL} {H H' : Hp} {t c : Addr} {n : Nat} (h : Tbs Ts H) (f : FeedC H t c n) (k : Kp t H H') : Tbs Ts H' := by
  obtain ⟨ns, sp, re, ca, e1, _⟩ := f
  refine ⟨fun P hP => ?_, fun e he => ?_, h.ap, h.fn⟩
  · obtain ⟨ps, a, b⟩ := h.gen P hP
    exact ⟨ps, k _ _ (fun z => by rw [z, e1] at a; cases a) a, b⟩
  · obtain ⟨ps, a, b, d⟩ := h.lam e he
    refine ⟨ps, k _ _ (fun z => by rw [z, e1] at a; cases a) a, b, fun pos cv hc => ?_⟩
    obtain ⟨c0, x1, x2⟩ := d pos cv hc
    exact ⟨c0, x1, k _ _ (fun z => by rw [z, e1] at x2; unfold LamX.CodeO at x2; cases x2) x2⟩
/-- what is frozen stays -/
def Fz (H H' : Hp) : Prop := ∀ b o u, H b = some (.frz o u) → H' b = some (.frz o u)
theorem feed_gk {Ts : TL} {H H' : Hp} {t c : Addr} {n : Nat} (h : FeedC H t c n) (k : Gk Ts H H') : FeedC H' t c n := by
  obtain ⟨ns, sp, re, ca, h1, h2, h3⟩ := h
  exact ⟨ns, sp, re, ca, k.1 _ _ h1 (fun ps z => by cases z), k.1 _ _ h2 (fun ps z => by cases z), h3⟩
theorem fn_calm {CX : CXT} {k : Nat} {f : Addr} {fd : FuncData} {ps : List Str} {sp : Sp} (F : FnOk P w K mg base (L2.CX P w) k f fd ps sp) : FnOk P w K mg base CX0 k f fd ps (fun vs H Q _ => sp vs H Q fun _ _ _ => False) := by
  refine ⟨fun vs H Q E h => F.len vs H Q _ h, fun A outer s H args us vs Q E hr env bd rv h => codeAny_mono (F.run A outer s H args us vs Q _ hr env bd rv h) fun r s' z => ?_⟩
  cases r with
  | error e =>
    obtain ⟨_, _, _, _, _, _, _, _, _, _, _, _, z⟩ := (show L2.CX P w outer H s (fun _ _ _ => False) e s' from z)
    exact z.elim
  | ok fl =>
    cases fl with
    | ret u => exact z
    | next => exact z
    | brk => exact z
    | cont => exact z
/-- all but the feed is as it was, tables beside -/
def KT (t : Addr) (H H' : Hp) : Prop := ∀ b o, b ≠ t → H b = some o → (∀ ps, o ≠ .tbl ps) → H' b = some o
theorem KT.trans {t : Addr} {H H1 H2 : Hp} (a : KT t H H1) (b : KT t H1 H2) : KT t H H2 := fun x o n e q => b x o n (a x o n e q) q
theorem KT.gk {Ts : TL} {t : Addr} {H H' : Hp} (g : Gk Ts H H') : KT t H H' := fun b o _ e n => g.1 b o e n
theorem KT.kp {t : Addr} {H H' : Hp} (k : Kp t H H') : KT t H H' := fun b o n e _ => k b o n e
theorem KT.tups {t c : Addr} {n : Nat} {H H' : Hp} (k : KT t H H') (f : FeedC H t c n) : Tups H H' := fun b xs e => k b _ (fun z => by
  obtain ⟨ns, sp, re, ca, e1, _⟩ := f
  rw [z, e1] at e
  cases e) e (fun ps z => by cases z)
def spRankT (T : Tx K mg w) : Sp := fun vs H Q _ => ∃ (n a : Addr) (ys : List V) (ps : List (Str × Str)) (zs : List Str), vs = [.ref n, .ref a] ∧ Rd H n (.tup (zs.map V.str)) ∧ H a = some (.tup ys) ∧ NkAll H ys (ps.map sayK) ∧ zs.length ≤ 9 ∧ zs.Nodup ∧ ps.length ≤ 80 ∧ (∀ p ∈ ps, p.1 ≠ p.2) ∧ Tbs (tbs T) H ∧
  ∀ r H', Gk (tbs T) H H' → RankTo H' ps zs r → Q (.ref r) H'
theorem ok_rankT (T : Tx K mg w) (B : Tb T base) : FnOk P w K mg base CX0 4 T.f_ranked T.d_ranked ["names", "some"] (spRankT T) := (ok_rank T B).imp fun vs H Q E h => by
  obtain ⟨n, a, ys, ps, zs, rfl, hn, ha, nk, l9, nd, l80, un, hB, q⟩ := h
  exact ⟨n, a, ys, ps, zs, rfl, hn, ha, nk, l9, nd, l80, un, hB, fun r o ob H' g af h1 h2 td => q r H' g (.inl ⟨af, o, h1, ob, h2, td⟩), fun r o H' g naf h1 ro => q r H' g (.inr ⟨naf, o, h1, ro⟩)⟩
theorem ne_orders {H : Hp} {ps : List (Str × Str)} {ys : List Str} {a b : Addr} {Q : VK} (ra : RankTo H ps ys a) (rb : RankTo H ps ys b) (af : AllFree ps ys.length ys) (nd : ys.Nodup) (pl : ∀ y ∈ ys, Plain y) (q : Q (.bl false) H) : rNeD K (.ref a) (.ref b) H Q := by
  have dp : ∀ {r : Addr}, RankTo H ps ys r → Dp K H (.ref r) (NestedKey.tup [.text "order", .tup ((rankF ps ys.length ys).map .text)]).data := fun {r} h => by
    rcases h with ⟨_, o, h1, ob, h2, _⟩ | ⟨naf, _⟩
    · rw [tup_data, NestedKey.datas, NestedKey.datas, NestedKey.datas, tup_data, datas_texts, NestedKey.data]
      exact .tup (.inl (.inl h1)) (.cons (.str _) (.cons (.tup (.inl (.inr ⟨_, h2⟩)) (dp_texts _)) .nil))
    · exact absurd af naf
  have pm := (rank_order af nd).1
  have sh : SeqAt.shaped (NestedKey.tup [.text "order", .tup ((rankF ps ys.length ys).map .text)]).data = true := by
    obtain ⟨f, fd⟩ := fine_texts (L := rankF ps ys.length ys) fun z hz => pl z (pm.mem_iff.mp hz)
    obtain ⟨f2, _⟩ := fine_tup f (Nat.le_of_eq fd) (by decide)
    refine shaped_T (FineAll.cons (fine_text (z := "order") ⟨by decide, by decide⟩) (FineAll.cons f2 .nil)) (.inl ?_)
    rw [tup_data, NestedKey.datas, NestedKey.datas, NestedKey.datas, tup_data, datas_texts, NestedKey.data]
  exact ⟨_, _, dp ra, dp rb, sh, sh, by rw [eqv_key]; exact q⟩

theorem feed_not {H : Hp} {t c b : Addr} {n : Nat} {o : HO} (f : FeedC H t c n) (e : H b = some o) (no : ∀ xs, o ≠ .lst xs) : b ≠ t := fun z => by
  obtain ⟨ns, sp, re, ca, e1, _⟩ := f
  rw [z, e1] at e
  exact no _ (Option.some.inj e).symm
theorem RankTo.kt {H H' : Hp} {t c : Addr} {n : Nat} {ps : List (Str × Str)} {ys : List Str} {r : Addr} (h : RankTo H ps ys r) (k : KT t H H') (f : FeedC H t c n) : RankTo H' ps ys r := by
  have tt := k.tups f
  rcases h with ⟨af, o, h1, ob, h2, td⟩ | ⟨naf, o, h1, x, wp, wt, w2⟩
  · exact .inl ⟨af, o, tt _ _ h1, ob, k _ _ (feed_not f h2 fun _ z => by cases z) h2 (fun ps z => by cases z), td⟩
  · exact .inr ⟨naf, o, tt _ _ h1, x, wp, wt.at tt, w2⟩
theorem Bd.kt {T : Tx K mg w} {H H' : Hp} {t c a : Addr} {n : Nat} {d : Int} {xs : List V} {ks : List NestedKey} {ws : List Vw} {zs : List Str} (h : Bd T H a d xs ks ws zs) (k : KT t H H') (f : FeedC H t c n) (b : Tbs (tbs T) H') : Bd T H' a d xs ks ws zs :=
  ⟨k.tups f _ _ h.ha, ⟨h.pg.1.at (k.tups f), h.pg.2⟩, h.lx, b, h.vw.at (k.tups f), h.vn, h.vs, h.lz⟩
theorem Bok.kt {T : Tx K mg w} {H H' : Hp} {t c a : Addr} {n : Nat} {xs : List V} {ks : List NestedKey} {zs : List Str} (h : Bok T H a xs ks zs) (k : KT t H H') (f : FeedC H t c n) (b : Tbs (tbs T) H') : Bok T H' a xs ks zs :=
  ⟨k.tups f _ _ h.ha, ⟨h.pg.1.at (k.tups f), h.pg.2⟩, h.sy, h.ord, h.lx, b, h.lz⟩
def spDay (T : Tx K mg w) : Sp := fun vs H Q _ => ∃ (t c a lt : Addr) (d : Int) (n : Nat) (xs : List V) (ks : List NestedKey) (zs : List Str) (kl : NestedKey), vs = [.ref t, .ref a, .int d, .ref lt] ∧ FeedC H t c n ∧ n < 800000 ∧ Bok T H a xs ks zs ∧ xs.length ≤ 75 ∧ 0 ≤ d ∧ d < 15000 ∧ (∀ z ∈ zs, Nm z) ∧ Nk H (.ref lt) kl ∧ PgK kl ∧ d < dayK kl ∧ Sy zs kl ∧
  ∀ H', FeedC H' t c (n + 12) → KT t H H' → Tbs (tbs T) H' → Q (.bl true) H'
theorem ok_day (T : Tx K mg w) (B : Tb T base) : FnOk P w K mg base CX0 12 T.f_w_day_right T.d_w_day_right ["_law_feed_here", "_law_book_here", "_law_day", "_law_later"] (spDay T) := by
  have G_w_draw : FnOk P w K mg base CX0 1 T.f_w_draw T.d_w_draw ["_law_feed_here", "_law_many"] (spDraw) := ok_draw T
  have G_up_to : FnOk P w K mg base CX0 3 T.f_up_to T.d_up_to ["book", "day"] (spUp T) := ok_up T B
  have G_with_page : FnOk P w K mg base CX0 5 T.f_with_page T.d_with_page ["book", "page"] (spWith) := ok_with T
  have G_sayings : FnOk P w K mg base CX0 7 T.f_sayings T.d_sayings ["book", "day"] (spSay T) := ok_say T B
  have G_standing : FnOk P w K mg base CX0 7 T.f_standing T.d_standing ["book", "day"] (spStnd T) := ok_stnd T B
  have G_ranks : FnOk P w K mg base CX0 10 T.f_ranks T.d_ranks ["book", "day"] (spRanks T) := ok_ranks T B
  have G_ranked : FnOk P w K mg base CX0 4 T.f_ranked T.d_ranked ["names", "some"] (spRankT T) := ok_rankT T B
  have G_first_of : FnOk P w K mg base CX0 11 T.f_first_of T.d_first_of ["book", "day", "names"] (fun vs H Q _ => spFirst T vs H Q fun _ _ _ => False) := fn_calm (CX := L2.CX P w) (ok_first T B)
  have G_w_let : FnOk P w K mg base CX0 5 T.f_w_let T.d_w_let ["_law_names_here", "_law_some", "_law_told"] (spLt T) := ok_lt T B
  have G_w_gone_up_right : FnOk P w K mg base CX0 11 T.f_w_gone_up_right T.d_w_gone_up_right ["_law_book_here", "_law_day", "_law_houses", "_law_some", "_law_at"] (spGup T) := ok_gup T B
  refine T.F_w_day_right.ok S_w_day_right (fun vs H Q E h => ?_) (fun cdv A outer s0 H vs Q E hr h => ?_)
  · obtain ⟨t, c, a, lt, d, n, xs, ks, zs, kl, rfl, _⟩ := h
    rfl
  · obtain ⟨t, c, a, lt, d, n, xs, ks, zs, kl, rfl, hT, hn, bk, x75, d0, d1, nm, nl, pl, dl, syl, q⟩ := h
    refine ⟨_, (pss_cons (ps_par (i := 4) (j := 5) (by rfl) S_w_day_right.nd rfl rfl (by decide) rfl rfl (pa_cons (pe_callTy call_tuple_of (by rfl) T.m_tuple (by decide +kernel) (pa_cons (pe_lc (own := [("_law_name", 11), ("_law_home", 12)]) (g := gTup K 2 (gCons (gName 11) (gCons (gName 12) gNil))) (tt := tYes) (by rfl) S_w_day_right.nd (pi_list (pe_call G_standing (hr.mono (by decide)) (by rfl) T.g_standing T.F_standing.kp T.b_standing .nil pass0 (pa_cons (pv 1) (pa_cons (pv 2) pa_nil)))) (blkOk_by (own := [("_law_name", 11), ("_law_home", 12)]) (N := N_w_day_right) (sc := defScope s_w_day_right) (by decide +kernel)) (fun _ _ _ _ _ => (pg_tup rfl (pgs_cons (pg_name (i := 11) S_w_day_right.nd rfl (.inl rfl)) (pgs_cons (pg_name (i := 12) S_w_day_right.nd rfl (.inl rfl)) pgs_nil)))) (fun _ _ _ _ _ => pts_nil) (fun _ _ _ _ _ => (pv 11))) pa_nil)) (pa_cons (pe_call G_sayings (hr.mono (by decide)) (by rfl) T.g_sayings T.F_sayings.kp T.b_sayings .nil pass0 (pa_cons (pv 1) (pa_cons (pv 2) pa_nil))) pa_nil)) (by rfl))
      (pss_cons (ps_set (i := 6) S_w_day_right.nd rfl (.inl rfl) (pe_call G_ranks (hr.mono (by decide)) (by rfl) T.g_ranks T.F_ranks.kp T.b_ranks .nil pass0 (pa_cons (pv 1) (pa_cons (pv 2) pa_nil))))
      (pss_cons (ps_if (PW.pt (pw_or (pt_cmpR op_ne (pe_ix ix_tup (pv 6) pe_int (fun _ _ => rfl)) (pe_ix ix_tup (pe_call G_ranked (hr.mono (by decide)) (by rfl) T.g_ranked T.F_ranked.kp T.b_ranked .nil pass0 (pa_cons (pv 4) (pa_cons (pv 5) pa_nil))) pe_int (fun _ _ => rfl)) (nomark _)) (pw_or1 (pt_not (pt_val (pe_call G_w_let (hr.mono (by decide)) (by rfl) T.g_w_let T.F_w_let.kp T.b_w_let .nil pass0 (pa_cons (pv 4) (pa_cons (pv 5) (pa_cons (pv 6) pa_nil))))))))) (pss_one (ps_ret pe_bl)) pss_nil)
      (pss_cons (ps_for PassesOwn.never rfl (pi_tup (pe_tup (pa_cons (pe_call G_up_to (hr.mono (by decide)) (by rfl) T.g_up_to T.F_up_to.kp T.b_up_to .nil pass0 (pa_cons (pv 1) (pa_cons (pv 2) pa_nil))) (pa_cons (pe_call G_with_page (hr.mono (by decide)) (by rfl) T.g_with_page T.F_with_page.kp T.b_with_page .nil pass0 (pa_cons (pv 1) (pa_cons (pv 3) pa_nil))) pa_nil)))) (pg_name (i := 7) S_w_day_right.nd rfl (.inl rfl))
      (pss_cons (ps_if (PW.pt (pw_or (pt_cmpR op_ne (pe_ix ix_tup (pe_call G_ranks (hr.mono (by decide)) (by rfl) T.g_ranks T.F_ranks.kp T.b_ranks .nil pass0 (pa_cons (pv 7) (pa_cons (pv 2) pa_nil))) pe_int (fun _ _ => rfl)) (pe_ix ix_tup (pv 6) pe_int (fun _ _ => rfl)) (nomark _)) (pw_or1 (pt_cmpR (op_neD hr.units) (pe_call G_sayings (hr.mono (by decide)) (by rfl) T.g_sayings T.F_sayings.kp T.b_sayings .nil pass0 (pa_cons (pv 7) (pa_cons (pv 2) pa_nil))) (pv 5) (nomark _))))) (pss_one (ps_ret pe_bl)) pss_nil)
      (pss_one (ps_if (PW.pt (pw_and (pt_cmpR op_eq (pe_ix ix_tup (pv 6) pe_int (fun _ _ => rfl)) pe_str (nomark _)) (pw_and1 (pt_cmpR (op_neD hr.units) (pe_call G_ranks (hr.mono (by decide)) (by rfl) T.g_ranks T.F_ranks.kp T.b_ranks .nil pass0 (pa_cons (pv 7) (pa_cons (pv 2) pa_nil))) (pv 6) (nomark _))))) (pss_one (ps_ret pe_bl)) pss_nil))))
      (pss_cons (ps_if (PW.pt (pw_and (pt_cmpR op_eq (pe_ix ix_tup (pv 6) pe_int (fun _ _ => rfl)) pe_str (nomark _)) (pw_and1 (pt_cmpR (op_neTE (hu_of hr)) (pv 4) (pe_tup pa_nil) (nomark _))))) (pss_cons (ps_set (i := 8) S_w_day_right.nd rfl (.inr rfl) (pe_orT (pe_lc (own := [("_law_name", 11)]) (g := gName 11) (by rfl) S_w_day_right.nd (pi_tup (pv 4)) (blkOk_by (own := [("_law_name", 11)]) (N := N_w_day_right) (sc := defScope s_w_day_right) (by decide +kernel)) (fun _ _ _ _ _ => (pg_name (i := 11) S_w_day_right.nd rfl (.inl rfl))) (fun _ _ _ _ _ => (pts_one (pt_cmpR op_eq (pe_call G_w_draw (hr.mono (by decide)) (by rfl) T.g_w_draw T.F_w_draw.kp T.b_w_draw .nil pass0 (pa_cons (pv 0) (pa_cons pe_int pa_nil))) pe_int (nomark _)))) (fun _ _ _ _ _ => (pv 11))) (pe_one (pe_lst (pa_cons (pe_ix ix_tup (pv 4) (pe_un un_neg pe_int) (fun _ _ => rfl)) pa_nil)))))
      (pss_cons (ps_set (i := 9) S_w_day_right.nd rfl (.inl rfl) (pe_ix ix_list (pe_lc (own := [("_law_name", 11)]) (g := gName 11) (by rfl) S_w_day_right.nd (pi_tup (pe_ix ix_tup (pv 6) pe_int (fun _ _ => rfl))) (blkOk_by (own := [("_law_name", 11)]) (N := N_w_day_right) (sc := defScope s_w_day_right) (by decide +kernel)) (fun _ _ _ _ _ => (pg_name (i := 11) S_w_day_right.nd rfl (.inl rfl))) (fun _ _ _ _ _ => (pts_one (pt_cmpR (r := rIn K false) op_in_seq (pv 11) (pv 8) (by rfl)))) (fun _ _ _ _ _ => (pv 11))) pe_int (fun _ _ => rfl)))
      (pss_one (ps_if (PW.pt (pw_or (pt_cmpR (op_neD hr.units) (pv 6) (pe_call G_ranked (hr.mono (by decide)) (by rfl) T.g_ranked T.F_ranked.kp T.b_ranked .nil pass0 (pa_cons (pv 4) (pa_cons (pv 5) pa_nil))) (nomark _)) (pw_or1 (pt_cmpR op_ne (pe_call G_first_of hr (by rfl) T.g_first_of T.F_first_of.kp T.b_first_of .nil pass0 (pa_cons (pv 1) (pa_cons (pv 2) (pa_cons (pe_callTy call_tuple_of (by rfl) T.m_tuple (by decide +kernel) (pa_cons (pv 8) pa_nil)) pa_nil)))) (pv 9) (nomark _))))) (pss_one (ps_ret pe_bl)) pss_nil)))) pss_nil)
      (pss_cons (ps_set (i := 10) S_w_day_right.nd rfl (.inl rfl) (pe_op op_sub (pe_call G_w_draw (hr.mono (by decide)) (by rfl) T.g_w_draw T.F_w_draw.kp T.b_w_draw .nil pass0 (pa_cons (pv 0) (pa_cons (pe_op op_add (pe_callB call_len_seq (by rfl) T.m_len PySem.boot_len (pa_cons (pv 4) pa_nil)) pe_int) pa_nil))) pe_int))
      (pss_one (ps_ret (pe_or (pe_cmpR op_lt (pe_callB call_len_seq (by rfl) T.m_len PySem.boot_len (pa_cons (pv 4) pa_nil)) pe_int (nomark _)) (pe_one (pe_call G_w_gone_up_right hr (by rfl) T.g_w_gone_up_right T.F_w_gone_up_right.kp T.b_w_gone_up_right .nil pass0 (pa_cons (pv 1) (pa_cons (pv 2) (pa_cons (pv 4) (pa_cons (pv 5) (pa_cons (pv 10) pa_nil)))))))))))))))), ?_⟩
    obtain ⟨ws, bd, ewk⟩ := bk.bd d
    have lw : ws.length ≤ 76 := by rw [← bd.vw.length]; exact Nat.le_trans (fltD_len _ _ _) bd.lx
    refine ⟨_, rfl, _, rfl, a, d, xs, ks, ws, zs, rfl, bd.ha, bd.pg, by have := bd.lx; omega, bd.tb, bd.vw, bd.vn, by have := bd.lz; omega, fun p9 ms9 ys H9 g9 hp9 np9 pm9 so9 l9 => ?_⟩
    refine ⟨p9, rfl, ⟨_, .inl (.inl hp9)⟩, fun D9 nD9 => ?_⟩
    refine lc_list (xs := ms9) (fun j Hz => Hz = upd H9 D9 (.lst ((ys.take j).map V.str))) rfl (fun j Hz hj e => by rw [e]; exact .inl (.inl (same_upd nD9 _ _ hp9))) ?_ ?_
    · rintro j x Hz hx rfl
      obtain ⟨q9, y, v9, rfl, hy, hq9⟩ := np9.get hx
      have hj := (List.getElem?_eq_some_iff.mp hy).1
      refine ⟨q9, _, rfl, .inl (.inl (same_upd nD9 _ _ hq9)), rfl, _, _, rfl, _, _, rfl, rfl, rfl, tYesT ⟨_, rfl, _, upd_same, small1000 (by rw [List.length_map, List.length_take]; omega), ?_⟩⟩
      rw [upd_upd', List.take_add_one, hy, List.map_append]
      rfl
    rintro Hz rfl
    have lm9 : ms9.length = ys.length := np9.length
    rw [lm9, List.take_of_length_le (Nat.le_refl _)]
    have sD9 := same_upd (o := .lst (ys.map V.str)) nD9
    have hD9 := upd_same (H := H9) (a := D9) (o := .lst (ys.map V.str))
    generalize upd H9 D9 (.lst (ys.map V.str)) = H10 at sD9 hD9 ⊢
    refine ⟨D9, _, rfl, .inl ⟨.inl (.inl hD9), fun nA nt9 => ?_⟩⟩
    refine fresh_fin (.tup (ys.map V.str)) nt9 fun H11 s11 h11 => ?_
    have g11 : Gk (tbs T) H H11 := g9.trans (.of_same (sD9.trans s11) g9.2)
    have bd11 := bd.gk g11
    refine ⟨_, rfl, _, rfl, a, d, xs, ks, ws, rfl, bd11.ha, bd11.pg, bd11.lx, bd11.tb, bd11.vw, fun sr us sls H12 g12 hsr nks rss ms l8 => ?_⟩
    obtain ⟨ps, rfl, mps⟩ := says_of (gp := saysOf ws) fun k hk => by obtain ⟨p, hp, e⟩ := (ms k).mp hk; exact ⟨p, hp, e⟩
    have rk : Rk ws ys ps := ⟨pm9, so9, rss, fun p => ⟨mps p, fun hp => by
      have := (ms (sayK p)).mpr ⟨p, hp, rfl⟩
      obtain ⟨x, hx, e⟩ := List.mem_map.mp this
      rw [← sayK_inj e]; exact hx⟩⟩
    have F := rk.facts bd.vn bd.vs bd.lz lw
    have mz : ∀ y ∈ ys, Plain y := fun y hy => (nm y (F.sub y hy)).plain
    have mp : ∀ p ∈ ps, Plain p.1 ∧ Plain p.2 := fun p hp => ⟨mz _ (F.hz p hp).1, mz _ (F.hz p hp).2.1⟩
    have hz2 : ∀ p ∈ ps, p.1 ∈ ys ∧ p.2 ∈ ys := fun p hp => ⟨(F.hz p hp).1, (F.hz p hp).2.1⟩
    have l80 : ps.length ≤ 80 := by have := F.l75; omega
    have g13 : Gk (tbs T) H H12 := g11.trans g12
    have hN13 := g12.tup h11
    have hs13 := hsr
    have nk13 := nks
    clear h11 hsr nks
    refine ⟨_, _, rfl, ?_⟩
    refine ⟨_, rfl, _, rfl, a, d, xs, ks, ws, zs, rfl, bd.gk g13, fun tr y14 p14 H14 g14 rk14 rt14 => ?_⟩
    obtain ⟨rfl, rfl⟩ := rk14.uniq rk
    have g1 := g13.trans g14
    have hN14 := g14.tup hN13
    have hs14 := g14.tup hs13
    have nk14 := nk13.at g14.tups
    clear hN13 hs13 nk13
    obtain ⟨wd, od, h14, ewd⟩ := rt14.word
    have wo : ∀ {H' : Hp} {r : Addr} {wd' : Str} {o' : Addr}, H' r = some (.tup [.str wd', .ref o']) → (AllFree p14 y14.length y14 ∧ wd' = "order" ∨ ¬ AllFree p14 y14.length y14 ∧ wd' = "ring") → wd' = wd := fun {H' r wd' o'} _ e => by
      rcases e with ⟨af, z⟩ | ⟨naf, z⟩ <;> rcases ewd with ⟨af2, z2⟩ | ⟨naf2, z2⟩
      · rw [z, z2]
      · exact absurd af naf2
      · exact absurd af2 naf
      · rw [z, z2]
    have same : ∀ {wd' : Str}, wd' = wd → (!decide (V.str wd = V.str wd')) = true → False := fun {wd'} e z => by rw [e] at z; simp at z
    have same2 : ∀ {wd' : Str}, wd' = wd → (!decide (V.str wd' = V.str wd)) = true → False := fun {wd'} e z => by rw [e] at z; simp at z
    refine ⟨_, rfl, tr, _, 0, .str wd, rfl, rfl, .inl (.inl h14), rfl, ?_⟩
    refine ⟨_, rfl, _, rfl, nA, sr, us, p14, y14, rfl, .inl hN14, hs14, nk14, F.l9, F.nd, l80, fun p hp => (F.hz p hp).2.2, g1.2, fun r15 H15 g15 rt15 => ?_⟩
    obtain ⟨w15, o15, h15, e15⟩ := rt15.word
    refine ⟨r15, _, 0, .str w15, rfl, rfl, .inl (.inl h15), rfl, rfl, _, rfl, ite2 (fun z => (same (wo h15 e15) z).elim) (fun _ => ?_)⟩
    have g15' := g1.trans g15
    refine ⟨_, rfl, _, rfl, _, rfl, nA, sr, tr, us, p14, y14, rfl, .inl (g15.tup hN14), g15.tup hs14, nk14.at g15.tups, rt14.gk g15, F.nd, F.l9, l80, hz2, g15'.2, fun H16 g16 => ?_⟩
    refine ⟨true, rfl, iteF ?_⟩
    have g16' := g15'.trans g16
    have g1416 := g15.trans g16
    have hN16 := g1416.tup hN14
    have hs16 := g1416.tup hs14
    have nk16 := nk14.at g1416.tups
    have rt16 := rt14.gk g1416
    have h16 := g1416.tup h14
    clear hN14 hs14 nk14 rt14 h14 rt15 h15 e15
    have bk16 := bk.gk g16'
    have nl16 := nl.at g16'.tups
    refine ⟨_, rfl, _, rfl, a, d, xs, ks, rfl, bk16.ha, bk16.pg, by have := bk.lx; omega, g16'.2, fun u pzs H17 g17 hu nku lu eu => ?_⟩
    have bk17 := bk16.gk g17
    refine ⟨_, rfl, _, rfl, a, lt, xs, ks, kl, rfl, bk17.ha, bk17.pg, nl16.at g17.tups, pl, by have := bk.lx; omega, fun w2 wys wls H18 s18 hw nkw ow mw => ?_⟩
    refine ⟨sz (by show 2 ≤ 1000; decide), fun pt np => ?_⟩
    refine fresh_fin (.tup [V.ref u, V.ref w2]) np fun H19 s19 h19 => ?_
    have s1719 := s18.trans s19
    have g1619 : Gk (tbs T) H16 H19 := g17.trans (.of_same s1719 g17.2)
    have lks := bk.pg.1.length
    have others : ∀ x ∈ [V.ref u, V.ref w2], ∃ o xs' ks', x = .ref o ∧ Bok T H19 o xs' ks' zs ∧ dayF d ks' = dayF d ks := fun x hx => by
      simp only [List.mem_cons, List.not_mem_nil, or_false] at hx
      rcases hx with rfl | rfl
      · refine ⟨u, pzs, dayF d ks, rfl, ⟨s1719 _ _ hu, ⟨nku.at (.same s1719), fun k hk => bk.pg.2 k (List.mem_filter.mp hk).1⟩, fun k hk => bk.sy k (List.mem_filter.mp hk).1, dayF_ord d bk.ord, by omega, g1619.2, bk.lz⟩, ?_⟩
        unfold dayF
        rw [List.filter_filter]
        simp only [Bool.and_self]
      · have lw2 : wls.length ≤ ks.length + 1 := by
          have nd : wls.Nodup := ow.imp fun {a b} e z => by rw [z, ahead_self] at e; cases e
          have := nodup_len (m := kl :: ks) nd fun k hk => ((mw k).mp hk).elim (fun h => .tail _ h) fun h => by rw [h]; exact .head _
          exact this
        have lwy := nkw.length
        refine ⟨w2, wys, wls, rfl, ⟨s19 _ _ hw, ⟨nkw.at (.same s19), fun k hk => ((mw k).mp hk).elim (bk.pg.2 k) fun h => by rw [h]; exact pl⟩, fun k hk => ((mw k).mp hk).elim (bk.sy k) fun h => by rw [h]; exact syl, ow, by omega, g1619.2, bk.lz⟩, ?_⟩
        refine ord_unique (dayF_ord d ow) (dayF_ord d bk.ord) fun k => ?_
        unfold dayF
        rw [List.mem_filter, List.mem_filter, mw]
        constructor
        · rintro ⟨h | h, e⟩
          · exact ⟨h, e⟩
          · rw [h] at e
            have := of_decide_eq_true e
            omega
        · rintro ⟨h, e⟩
          exact ⟨.inl h, e⟩
    have g19 := g16'.trans g1619
    have hN19 := g1619.tup hN16
    have hs19 := g1619.tup hs16
    have nk19 := nk16.at g1619.tups
    have rt19 := rt16.gk g1619
    have h19t := g1619.tup h16
    clear hN16 hs16 nk16 rt16 h16 hu nku hw nkw mw ow
    refine ⟨pt, rfl, ⟨_, .inl (.inl h19)⟩, ?_⟩
    refine for_tup (xs := [V.ref u, V.ref w2]) (fun i σ Hx => (∃ y7 y8 y9 y10 y11 y12, σ = [some (.ref t), some (.ref a), some (.int d), some (.ref lt), some (.ref nA), some (.ref sr), some (.ref tr), y7, y8, y9, y10, y11, y12]) ∧ Gk (tbs T) H19 Hx) ⟨⟨_, _, _, _, _, _, rfl⟩, .refl g19.2⟩ (fun i σ Hx hi ⟨_, gx⟩ => .inl (.inl (gx.tup h19))) ?_ ?_
    · rintro i x σ Hx hx ⟨⟨y7, y8, y9, y10, y11, y12, rfl⟩, gx⟩
      obtain ⟨o, xs', ks', rfl, bo, eo⟩ := others x (List.mem_of_getElem? hx)
      have bo := bo.gk gx
      obtain ⟨wso, bdo, ewo⟩ := bo.bd d
      have rko : Rk wso y14 p14 := rk.congr (by rw [ewo, eo, ewk])
      refine ⟨_, rfl, _, rfl, o, d, xs', ks', wso, zs, rfl, bdo, fun r20 y20 p20 H20 g20 rk20 rt20 => ?_⟩
      obtain ⟨rfl, rfl⟩ := rk20.uniq rko
      obtain ⟨w20, o20, h20, e20⟩ := rt20.word
      have gx20 := gx.trans g20
      refine ⟨r20, _, 0, .str w20, rfl, rfl, .inl (.inl h20), rfl, _, rfl, tr, _, 0, .str wd, rfl, rfl, .inl (.inl (gx20.tup h19t)), rfl, rfl, _, rfl, ite2 (fun z => (same2 (wo h20 e20) z).elim) (fun _ => ?_)⟩
      have bdo2 := bdo.gk g20
      refine ⟨_, rfl, _, rfl, o, d, xs', ks', wso, rfl, bdo2.ha, bdo2.pg, bdo2.lx, bdo2.tb, bdo2.vw, fun s21 u21 ls21 H21 g21 hs21 nk21 rs21 ms21 l21 => ?_⟩
      have els : ls21 = p20.map sayK := rs_unique rs21 rko.rs fun k => by
        rw [ms21]
        exact ⟨fun ⟨p, hp, e⟩ => by rw [e]; exact List.mem_map_of_mem ((rko.mp p).mpr hp), fun h => by obtain ⟨p, hp, e⟩ := List.mem_map.mp h; exact ⟨p, (rko.mp p).mp hp, e.symm⟩⟩
      subst els
      have gx21 := gx20.trans g21
      refine ⟨_, rfl, ne_keys hs21 (gx21.tup hs19) nk21 (nk19.at gx21.tups) (shaped_saysT mp) ⟨_, rfl, iteF ?_⟩⟩
      apply mrg1 (C := fun H22 : Hp => Gk (tbs T) H19 H22)
      · intro tail
        refine ⟨_, rfl, tr, _, 0, .str wd, rfl, rfl, .inl (.inl (gx21.tup h19t)), rfl, rfl, _, rfl, ite2 (fun e => ?_) (fun _ => iteF (tail _ gx21))⟩
        have e : wd = "order" := V.str.inj (of_decide_eq_true e)
        have af : AllFree p20 y20.length y20 := by
          rcases ewd with ⟨af, _⟩ | ⟨_, z⟩
          · exact af
          · rw [e] at z; exact absurd z (by decide +kernel)
        refine ⟨_, rfl, _, rfl, o, d, xs', ks', wso, zs, rfl, bdo2.gk g21, fun r22 y22 p22 H22 g22 rk22 rt22 => ?_⟩
        obtain ⟨rfl, rfl⟩ := rk22.uniq rko
        have gx22 := gx21.trans g22
        exact ⟨_, rfl, ne_orders rt22 (rt19.gk gx22) af F.nd mz ⟨_, rfl, iteF (tail _ gx22)⟩⟩
      · intro H22 gx22
        exact ⟨⟨_, _, _, _, _, _, rfl⟩, gx22⟩
    · rintro σ Hx ⟨⟨y7, y8, y9, y10, y11, y12, rfl⟩, gx⟩
      have gA := g19.trans gx
      have hTx := feed_gk hT gA
      have hNx := gx.tup hN19
      have hsx := gx.tup hs19
      have nkx := nk19.at gx.tups
      have rtx := rt19.gk gx
      have hx6 := gx.tup h19t
      have bkx := bk.gk gA
      have bdx := bd.gk gA
      have hBx := gA.2
      have nt : ∀ {H' : Hp} {b : Addr} {us : List V} {m : Nat}, FeedC H' t c m → H' b = some (.tup us) → b ≠ t := fun {H' b us m} f e z => by
        obtain ⟨ns, sp, re, ca, e1, _⟩ := f
        rw [z, e1] at e; cases e
      clear others g19 hN19 hs19 nk19 rt19 h19t g1619 s1719 bk16 bk17 nl16
      apply mrg2 (C := fun (σ' : L2.St) (H' : Hp) => (∃ y7 y8 y9 y10 y11 y12, σ' = [some (.ref t), some (.ref a), some (.int d), some (.ref lt), some (.ref nA), some (.ref sr), some (.ref tr), y7, y8, y9, y10, y11, y12]) ∧ FeedC H' t c (n + 10) ∧ KT t Hx H' ∧ Tbs (tbs T) H')
      · intro tail
        refine ⟨_, rfl, tr, _, 0, .str wd, rfl, rfl, .inl (.inl hx6), rfl, rfl, _, rfl, ite2 (fun e => ?_) (fun _ => iteF (tail _ _ ⟨⟨_, _, _, _, _, _, rfl⟩, hTx.mono (by omega), fun _ _ _ e _ => e, hBx⟩))⟩
        have e : wd = "order" := V.str.inj (of_decide_eq_true e)
        have af : AllFree p14 y14.length y14 := by
          rcases ewd with ⟨af, _⟩ | ⟨_, z⟩
          · exact af
          · rw [e] at z; exact absurd z (by decide +kernel)
        refine ⟨_, rfl, sz (by show 0 ≤ 1000; decide), fun c0 n0 => ?_⟩
        refine fresh_fin (.tup []) n0 fun H20 s20 h20 => ?_
        have k20 : KT t Hx H20 := fun b o _ e _ => s20 _ _ e
        have hT20 := hTx.same s20
        refine ⟨nA, c0, _, rfl, rfl, .inl (.inl (s20 _ _ hNx)), .inl (.inl h20), _, rfl, ite2 (fun e2 => ?_) (fun _ => tail _ _ ⟨⟨_, _, _, _, _, _, rfl⟩, hT20.mono (by omega), k20, hBx.same s20⟩)⟩
        have yne : y14 ≠ [] := fun z => by rw [z] at e2; cases e2
        have hN20 := s20 _ _ hNx
        have hs20 := s20 _ _ hsx
        have nk20 := nkx.at (.same s20)
        have rt20 := rtx.gk (.of_same s20 hBx)
        have h620 := s20 _ _ hx6
        have bd20 := bdx.gk (.of_same s20 hBx)
        have hB20 := hBx.same s20
        have ntN := nt hT20 hN20
        apply mrg2 (C := fun (rv : V) (H' : Hp) => ∃ (D : Addr) (row : List Str), rv = .ref D ∧ H' D = some (.lst (row.map V.str)) ∧ row ≠ [] ∧ row.length ≤ 9 ∧ (∀ y ∈ row, y ∈ y14) ∧ FeedC H' t c (n + 9) ∧ Kp t H20 H')
        · intro tail2
          refine ⟨_, rfl, nA, rfl, ⟨_, .inl (.inl hN20)⟩, fun D nD => ?_⟩
          obtain ⟨Dt, Dc⟩ := hT20.ne nD
          refine lc_tup (xs := y14.map V.str) (fun j Hz => ∃ row : List Str, Hz D = some (.lst (row.map V.str)) ∧ row.length ≤ j ∧ (∀ y ∈ row, y ∈ y14) ∧ FeedC Hz t c (n + j) ∧ Kp t H20 Hz) ⟨[], upd_same, Nat.le_refl _, (fun y h => by cases h), hT20.new nD, .new (.refl t H20) nD⟩ (fun j Hz hj ⟨row, _, _, _, _, k⟩ => .inl (.inl (k _ _ ntN hN20))) ?_ ?_
          · rintro j x Hz hx ⟨row, hD, lr, sub, hTz, kz⟩
            obtain ⟨y, hy, rfl⟩ : ∃ y, y14[j]? = some y ∧ x = V.str y := by
              rw [List.getElem?_map] at hx
              cases e : y14[j]? with
              | none => rw [e] at hx; cases hx
              | some y => rw [e] at hx; exact ⟨y, rfl, (Option.some.inj hx).symm⟩
            have hj := (List.getElem?_eq_some_iff.mp hy).1
            have := F.l9
            refine ⟨rfl, _, rfl, t, 2, n + j, c, rfl, by decide, by decide, hTz, by omega, fun v H21 v0 v1 hT21 hK21 => ?_⟩
            refine ⟨rfl, _, rfl, ite2 (fun _ => ?_) (fun _ => ?_)⟩
            · have hD21 := hK21 _ _ Dt hD
              refine ⟨_, rfl, _, hD21, small1000 (by rw [List.length_map]; omega), row ++ [y], by rw [upd_same, List.map_append]; rfl, by rw [List.length_append]; exact Nat.succ_le_succ lr, fun z hz => (List.mem_append.mp hz).elim (sub z) fun h => by rw [List.mem_singleton.mp h]; exact List.mem_of_getElem? hy, (hT21.updO Dt Dc).mono (by omega), kp_fresh nD (kz.trans hK21)⟩
            · exact ⟨row, hK21 _ _ Dt hD, by omega, sub, hT21.mono (by omega), kz.trans hK21⟩
          · rintro Hz ⟨row, hD, lr, sub, hTz, kz⟩
            have := F.l9
            rw [List.length_map] at lr hTz
            refine ⟨_, .inl ⟨_, .inl (.inl hD), rfl⟩, ite2 (fun e3 => ?_) (fun e3 => ?_)⟩
            · obtain ⟨rv, erv⟩ : ∃ rv, rv = V.ref D := ⟨_, rfl⟩
              rw [← erv]
              exact tail2 rv Hz ⟨D, row, erv, hD, (fun z => by rw [z] at e3; cases e3), by omega, sub, hTz.mono (by omega), kz⟩
            · have hNz := kz _ _ ntN hN20
              obtain ⟨yl, hyl⟩ : ∃ yl, y14.getLast? = some yl := ⟨_, List.getLast?_eq_some_getLast yne⟩
              have ely : y14 = y14.dropLast ++ [yl] := by
                rw [List.getLast?_eq_some_getLast yne] at hyl
                rw [← Option.some.inj hyl]
                exact (List.dropLast_concat_getLast yne).symm
              refine ⟨_, rfl, 1, rfl, nA, _, -1, .str yl, rfl, rfl, .inl (.inl hNz), ?_, sz (by show 1 ≤ 1000; decide), fun L2 nL2 => ?_⟩
              · rw [ely, List.map_append]
                exact atI_last _ _
              · refine fresh_fin (.lst [V.str yl]) nL2 fun H22 s22 h22 => ?_
                obtain ⟨rv, erv⟩ : ∃ rv, rv = V.ref L2 := ⟨_, rfl⟩
                rw [← erv]
                exact tail2 rv H22 ⟨L2, [yl], erv, h22, by simp, (by show 1 ≤ 9; decide), (fun y hy => by rw [List.mem_singleton.mp hy, ely]; exact List.mem_append_right _ (.head _)), (hTz.same s22).mono (by omega), kz.trans (.of_same s22)⟩
        rintro rv H21 ⟨D, row, rfl, hD, rne, lr, sub, hT21, k21⟩
        have hB21 := feed_kp hB20 hT20 k21
        have kt21 : KT t H20 H21 := .kp k21
        have t21 := kt21.tups hT20
        have hN21 := t21 _ _ hN20
        have hs21 := t21 _ _ hs20
        have nk21 := nk20.at t21
        have rt21 := rt20.kt kt21 hT20
        have bd21 := bd20.kt kt21 hT20 hB21
        clear hN20 hs20 nk20 rt20 h620 bd20
        rcases rt21 with ⟨_, o21, h21, ob21, ho21, td21⟩ | ⟨naf, _⟩
        · have rt21 : RankTo H21 p14 y14 tr := .inl ⟨af, o21, h21, ob21, ho21, td21⟩
          refine ⟨_, rfl, tr, _, 1, .ref o21, rfl, rfl, .inl (.inl h21), rfl, o21, rfl, ⟨_, .inl (.inr ⟨_, ho21⟩)⟩, fun D2 nD2 => ?_⟩
          have sD := fun u => same_upd (o := u) nD2
          have lF : (rankF p14 y14.length y14).length ≤ 900 := Nat.le_trans (rank_len _ _) (by have := F.l9; omega)
          refine lc_tup (xs := (rankF p14 y14.length y14).map V.str) (fun j H' => H' = upd H21 D2 (.lst ((((rankF p14 y14.length y14).take j).filter fun y => decide (y ∈ row)).map V.str))) rfl (fun j H' hj e => by rw [e]; exact .inl (.inr ⟨_, sD _ _ _ ho21⟩)) ?_ ?_
          · rintro j v H' hv rfl
            obtain ⟨y, hy, rfl⟩ : ∃ y, (rankF p14 y14.length y14)[j]? = some y ∧ v = V.str y := by
              rw [List.getElem?_map] at hv
              cases e : (rankF p14 y14.length y14)[j]? with
              | none => rw [e] at hv; cases hv
              | some y => rw [e] at hv; exact ⟨y, rfl, (Option.some.inj hv).symm⟩
            have lj := (List.getElem?_eq_some_iff.mp hy).1
            have tk : (rankF p14 y14.length y14).take (j + 1) = (rankF p14 y14.length y14).take j ++ [y] := by rw [List.take_add_one, hy]; rfl
            have lfl : (((rankF p14 y14.length y14).take j).filter (fun y => decide (y ∈ row))).length ≤ j := Nat.le_trans (List.length_filter_le _ _) (by rw [List.length_take]; omega)
            refine ⟨rfl, _, rfl, _, rfl, D, _, rfl, .inl (.inl (.inl (sD _ _ _ hD))), rfl, flat_strs row, _, rfl, ite2 (fun e => ?_) (fun e => ?_)⟩
            · have e : inV (.str y) (row.map V.str) = true := e
              rw [inV_strs] at e
              refine ⟨_, rfl, _, upd_same, small1000 (by rw [List.length_map]; omega), ?_⟩
              rw [upd_upd', tk, List.filter_append, List.filter_cons, if_pos e, List.map_append]
              rfl
            · have e : ¬ inV (.str y) (row.map V.str) = true := e
              rw [inV_strs] at e
              show upd H21 D2 _ = upd H21 D2 _
              rw [tk, List.filter_append, List.filter_cons, if_neg e]
              show upd H21 D2 _ = upd H21 D2 (.lst ((_ ++ []).map V.str))
              rw [List.append_nil]
          · rintro H' rfl
            rw [List.length_map, List.take_of_length_le (Nat.le_refl _)]
            cases ef : (rankF p14 y14.length y14).filter (fun y => decide (y ∈ row)) with
            | nil =>
              exfalso
              obtain ⟨x, hx⟩ := List.exists_mem_of_ne_nil row rne
              have m1 := rank_mem af x (sub x hx)
              have m2 : x ∈ (rankF p14 y14.length y14).filter (fun y => decide (y ∈ row)) := List.mem_filter.mpr ⟨m1, decide_eq_true hx⟩
              rw [ef] at m2
              cases m2
            | cons x rr =>
              refine ⟨D2, _, 0, .str x, rfl, rfl, .inl (.inl upd_same), at_of (j := 0) rfl rfl, ?_⟩
              have s22 := sD (.lst ((x :: rr).map V.str))
              generalize upd H21 D2 (.lst ((x :: rr).map V.str)) = H22 at s22 ⊢
              have g22 : Gk (tbs T) H21 H22 := .of_same s22 hB21
              refine ⟨_, rfl, _, rfl, _, rfl, nA, sr, us, p14, y14, rfl, .inl (g22.tup hN21), g22.tup hs21, nk21.at g22.tups, F.l9, F.nd, l80, fun p hp => (F.hz p hp).2.2, g22.2, fun r23 H23 g23 rt23 => ?_⟩
              refine ne_orders ((rt21.gk g22).gk g23) rt23 af F.nd mz ⟨_, rfl, iteF ?_⟩
              have g2123 := g22.trans g23
              have hD23 := g2123.1 _ _ hD (fun ps z => by cases z)
              refine ⟨_, rfl, _, rfl, _, rfl, D, _, rfl, .inl ⟨.inl (.inl hD23), fun tp ntp => ?_⟩⟩
              refine fresh_fin (.tup (row.map V.str)) ntp fun H24 s24 h24 => ?_
              have g24 : Gk (tbs T) H21 H24 := g2123.trans (.of_same s24 g2123.2)
              have gn : goneF y14 row = none := by
                unfold goneF
                rw [List.find?_eq_none]
                intro z hz q
                rw [decide_eq_true (sub z hz)] at q
                cases q
              refine ⟨a, tp, d, xs, ks, ws, zs, row, y14, p14, rfl, bd21.gk g24, rk, h24, rne, (fun z dd H' _ q _ => by rw [gn] at q; cases q), (fun o' dd H' _ _ naf _ _ => absurd af naf), fun z zr H25 g25 _ _ ez => ?_⟩
              rw [ef] at ez
              cases ez
              have gZ := g24.trans g25
              have kZ : KT t Hx H25 := (k20.trans kt21).trans (.gk gZ)
              refine ⟨_, rfl, rfl, _, rfl, iteNS rfl (tail _ _ ⟨⟨_, _, _, _, _, _, rfl⟩, (feed_gk hT21 gZ).mono (by omega), kZ, gZ.2⟩)⟩
        · exact absurd af naf
      · rintro σ' H20 ⟨⟨y7, y8, y9, y10, y11, y12, rfl⟩, hT20, kt20, hB20⟩
        have t20 := kt20.tups hTx
        have hN20 := t20 _ _ hNx
        have hs20 := t20 _ _ hsx
        have nk20 := nkx.at t20
        have bd20 := bdx.kt kt20 hTx hB20
        have bk20 := bkx.kt kt20 hTx hB20
        have lyl : (y14.map V.str).length = y14.length := List.length_map ..
        have l9 := F.l9
        refine ⟨_, rfl, _, rfl, nA, _, rfl, .inr (.inl (.inl hN20)), _, _, rfl, rfl, t, _, n + 10, c, rfl, by omega, by omega, hT20, by omega, fun v H21 v0 v1 hT21 hK21 => ⟨_, _, rfl, rfl, ?_⟩⟩
        have kt21 : KT t H20 H21 := .kp hK21
        have t21 := kt21.tups hT20
        have hB21 := feed_kp hB20 hT20 hK21
        have hN21 := t21 _ _ hN20
        refine ⟨_, rfl, nA, _, rfl, .inr (.inl (.inl hN21)), _, _, rfl, rfl, _, rfl, ite2 (fun e => ?_) (fun e => ?_)⟩
        · have qq := q H21 (hT21.mono (by omega)) (((KT.gk gA).trans kt20).trans kt21) hB21
          exact qq
        · have e : ¬ decide (((y14.map V.str).length : Int) < 2) = true := e
          have e : ¬ ((y14.map V.str).length : Int) < 2 := fun z => e (decide_eq_true z)
          refine ⟨_, rfl, _, rfl, _, rfl, _, rfl, _, rfl, a, nA, sr, d, v - 1, xs, us, ks, zs, y14, p14, ws, rfl, bk20.kt kt21 hT20 hB21, x75, d0, d1, nm, bd20.kt kt21 hT20 hB21, ewk, rk, hN21, t21 _ _ hs20, nk20.at t21, by omega, by omega, by omega, fun H22 g22 => ?_⟩
          exact q H22 ((feed_gk hT21 g22).mono (by omega)) ((((KT.gk gA).trans kt20).trans kt21).trans (.gk g22)) g22.2
end
end L52

set_option Elab.async false
set_option linter.all false
set_option maxRecDepth 100000
set_option maxHeartbeats 2000000
/-! t[::-1], t a tuple of any length. -/
namespace My
open PySem PySem.Spec PyProof.Rows L2 HT
theorem all_places {α : Type} : ∀ ys : List α, (List.range ys.length).filterMap (fun k => ys[k]?) = ys
  | [] => rfl
  | y :: ys => by
    rw [List.length_cons, List.range_succ_eq_map, List.filterMap_cons]
    show y :: _ = _
    rw [List.filterMap_map]
    exact congrArg _ (all_places ys)
theorem fm_congr {α β : Type} {f g : α → Option β} : ∀ {l : List α}, (∀ x ∈ l, f x = g x) → l.filterMap f = l.filterMap g
  | [], _ => rfl
  | x :: l, h => by
    rw [List.filterMap_cons, List.filterMap_cons, h x (.head _), fm_congr (fun y hy => h y (.tail _ hy))]
theorem vals_reverse : ∀ {xs : List V} {us : List Value}, Vals xs us → Vals xs.reverse us.reverse
  | _, _, .nil => .nil
  | _, _, .cons a r => by
    rw [List.reverse_cons, List.reverse_cons]
    exact (vals_reverse r).append (.cons a .nil)
theorem back_places {α : Type} (xs : List α) : (List.range xs.length).filterMap (fun (k : Nat) => xs[((xs.length : Int) - 1 + (k : Int) * (-1)).toNat]?) = xs.reverse := by
  have := all_places xs.reverse
  rw [List.length_reverse] at this
  refine Eq.trans ?_ this
  refine fm_congr fun k hk => ?_
  have hk := List.mem_range.mp hk
  rw [List.getElem?_reverse hk]
  congr 1
  omega
section
variable {prog : Program} {w : World} {A : Around} {E : Value → Shared → Prop} {s : Shared}
theorem places_back (n : Nat) : Builtin.Slice.slicePlaces ((n : Int) - 1) (-1) (-1) = n := by
  unfold Builtin.Slice.slicePlaces
  rw [if_neg (by decide)]
  by_cases e : n = 0
  · subst e
    rfl
  · rw [if_pos (by omega)]
    have : ((n : Int) - 1 - -1 - 1) / (- -1) + 1 = (n : Int) := by
      rw [show (- -1 : Int) = 1 by decide, Int.ediv_one]
      omega
    rw [this]
    rfl
theorem applied_backN {sl : Addr} {u : Tok} {n : Nat} {Q : Int × Int × Nat → Shared → Prop} (hs : s.heap.IsSliceOf sl .none .none (.int (-1) u)) (h : Q ((n : Int) - 1, -1, n) s) :
    wpAny (model prog w) A (Builtin.Slice.sliceApplied (.ref sl) (pure (n : Int))) Q E s := by
  obtain ⟨o, ho, _, hd⟩ := hs
  unfold Builtin.Slice.sliceApplied Builtin.Slice.sliceFields
  refine wpAny_bind (wpAny_bind (wpAny_field ho hd (x := .none) rfl ?_))
  refine wpAny_bind (wpAny_field ho hd (x := .none) rfl ?_)
  refine wpAny_bind (wpAny_field ho hd (x := .int (-1) u) rfl (wpAny_pure ?_))
  refine wpAny_bind (slicePart_ (.int (-1) u) ?_)
  show wpAny _ _ (if ((-1 : Int) == 0) = true then _ else _) _ _ s
  rw [if_neg (show ¬ ((-1 : Int) == 0) = true by decide)]
  refine wpAny_bind (slicePart_ .none (wpAny_bind (slicePart_ .none (wpAny_bind (wpAny_pure (wpAny_pure ?_))))))
  show Q ((n : Int) - 1, -1, Builtin.Slice.slicePlaces ((n : Int) - 1) (-1) (-1)) s
  rw [places_back]
  exact h
theorem item_backN {t sl : Addr} {items : Array Value} {u : Tok} {Q : Value → Shared → Prop} (ht : IsTup s.heap t items) (hz : items.size ≤ sizeLine) (hs : s.heap.IsSliceOf sl .none .none (.int (-1) u))
    (h : Q (.ref s.heap.objs.size) { s with heap := s.heap.push { cls := .type "tuple", data := .seq items.toList.reverse.toArray } }) : wpAny (model prog w) A (getItem (.ref t) (.ref sl)) Q E s := by
  obtain ⟨o, ho, hc, hd⟩ := id hs
  have ty : s.TypeIs (.ref sl) "slice" := ⟨o, ho, hc⟩
  have fit : sizeOk (.seq items.toList.reverse.toArray) := by
    show items.toList.reverse.toArray.size ≤ sizeLine
    rw [List.size_toArray, List.length_reverse, Array.length_toList]
    exact hz
  unfold getItem
  try with_reducible refine wpAny_holding ?_
  first | refine wpAny_bind (wpAny_pure ?_) | skip
  refine wpAny_bind (wpAny_sequenceKey ht.typeIs (by decide) (wpAny_bind (wpAny_callSpecial?_slot (name := Str.ofString "__getitem__") ht.typeIs PyProof.Rows.slot_tuple_getitem (wpAny_call_entry PyProof.Rows.slot_tuple_getitem ht.typeIs entry_tuple_getitem ?_ (args_tuple_getitem _ _)))))
  show wpAny _ _ (Builtin.Tuple.tupleItemsOf (.ref t) >>= _) _ _ s
  refine wpAny_bind (tupleItemsOf_ ht (wpAny_bind (wpAny_typeOf ty ?_)))
  rw [if_pos (by decide)]
  refine wpAny_bind (applied_backN (n := items.size) hs ?_)
  show wpAny _ _ (if ((((items.size : Int) - 1) == 0) && ((-1 : Int) == 1) && (items.size == items.size)) = true then _ else _) _ _ s
  rw [if_neg (by rw [show ((-1 : Int) == 1) = false by decide, Bool.and_false, Bool.false_and]; exact Bool.noConfusion)]
  have e : ((List.range items.size).filterMap fun (k : Nat) => items[((items.size : Int) - 1 + (k : Int) * (-1)).toNat]?).toArray = items.toList.reverse.toArray := by
    have := back_places items.toList
    rw [Array.length_toList] at this
    rw [← this]
    simp only [Array.getElem?_toList]
  rw [e]
  first
    | exact wpAny_bind (m := Builtin.Tuple.tupleExact _) (wpAny_newObj_type (wpAny_pure ⟨_, rfl, wpAny_pure h⟩) fit)
    | exact wpAny_bind (m := Builtin.Tuple.tupleExact _) (wpAny_newObj_type (wpAny_bind (wpAny_pure (wpAny_pure ⟨_, rfl, wpAny_pure h⟩))) fit)
    | exact wpAny_bind (wpAny_bind (m := Builtin.Tuple.tupleExact _) (wpAny_newObj_type (wpAny_pure (wpAny_pure ⟨_, rfl, wpAny_pure h⟩)) fit))
    | exact wpAny_bind (wpAny_bind (m := Builtin.Tuple.tupleExact _) (wpAny_newObj_type (wpAny_pure ⟨_, rfl, wpAny_pure h⟩) fit))
end
section
variable {X : Cx} {K1 : PySem.W.Frag}
def tRevA (K : PySem.W.Frag) (te : TE) : TE := fun σ H Q => te σ H fun x H1 => ∃ a xs, x = .ref a ∧ SqT K H1 a xs ∧ ∀ b, H1 b = none → Q (.ref b) (upd H1 b (.tup xs.reverse))
theorem pe_revA {e : Expr} {te : TE} {k : Nat} {p1 p2 p3 pos : Pos} (hK : X.K = K1) (he : PE X e te) : PE X (.Subscript e (.Slice none none (some (.UnaryOp .USub (.Constant (.int 1) k p1) p2)) p3) pos) (tRevA K1 te) := by
  subst hK
  have step : PO X (some (.UnaryOp .USub (.Constant (.int 1) k p1) p2)) (tPart (tUn (rU fun i => .int (-i)) (tC (.int 1)))) := po_some (pe_un un_neg pe_int)
  constructor
  intro pins s σ H Q I h
  refine Subscript_ (thn (he.run pins s σ H _ I h) ?_)
  rintro v s1 ⟨x, H1, I1, r1, a, xs, rfl, hx, hq⟩
  cases r1
  refine wpAny_Slice (thn (po_none.run pins s1 σ H1 (fun o G => o = none ∧ G = H1) I1 ⟨rfl, rfl⟩) ?_)
  rintro vl s2 ⟨o1, G1, I2, q1, rfl, rfl⟩
  refine thn (po_none.run pins s2 σ G1 (fun o G => o = none ∧ G = G1) I2 ⟨rfl, rfl⟩) ?_
  rintro vu s3 ⟨o2, G2, I3, q2, rfl, rfl⟩
  refine thn (step.run pins s3 σ G2 (fun o G => o = some (-1) ∧ G = G2) I3 ⟨1, rfl, -1, rfl, rfl, rfl⟩) ?_
  rintro vs s4 ⟨o3, G3, I4, q3, rfl, rfl⟩
  cases q1
  cases q2
  cases q3 with
  | int _ u =>
    have I5 : Inv X pins σ G3 { s4 with heap := s4.heap.push { cls := .type "slice", data := .fields #[.none, .none, .int (-1) u] } } := I4.kept (t' := s4.toks) fun b ob q => Heap.get?_push_of_some _ q
    obtain ⟨its, r, ht, hz⟩ := I5.tuple hx
    show wpAny (model X.prog X.w) X.A (subscriptTail e (.Slice none none (some (.UnaryOp .USub (.Constant (.int 1) k p1) p2)) p3) (.ref a) (.ref s4.heap.objs.size)) (EP X pins σ Q) X.xe { s4 with heap := s4.heap.push { cls := .type "slice", data := .fields #[.none, .none, .int (-1) u] } }
    refine tail_any (ops := [.ref a, .ref s4.heap.objs.size]) ht.typeIs (PyProof.Rows.slot_tuple_getitem.lookup) ?_ (by with_unfolding_all rfl)
    refine item_backN ht (by rw [List.size_toArray, ← r.length]; exact hz) (Heap.IsSliceOf.new _ .none .none (.int (-1) u)) ?_
    refine ⟨.ref _, _, I5.laid (t' := s4.toks) (o := .tup xs.reverse) (fun b ob q => Heap.get?_push_of_some _ q) (Nat.le_refl _) ⟨?_, _, vals_reverse r, IsTup.new _ _⟩, rfl, hq _ (I5.hok.fresh (Nat.le_refl _))⟩
    rw [List.length_reverse]
    exact hz
end
end My

set_option Elab.async false
set_option linter.all false
set_option maxRecDepth 100000
set_option maxHeartbeats 2000000
/-! l[::-1], l a list. -/
namespace My
open PySem PySem.Spec PyProof.Rows L2 HT
theorem pick_back (us : List Value) : slicePick us.toArray none none (some (-1)) = us.reverse.toArray := by
  unfold slicePick
  have e : sliceRange (sliceBounds none none (some (-1)) us.toArray.size).1 (sliceBounds none none (some (-1)) us.toArray.size).2.1 (sliceBounds none none (some (-1)) us.toArray.size).2.2 = (List.range us.length).map fun (k : Nat) => ((us.length : Int) - 1 + (k : Int) * (-1)).toNat := by
    rw [List.size_toArray]
    unfold sliceRange sliceBounds
    simp only [Option.getD_some, show ¬ ((-1 : Int) > 0) by decide, if_false]
    by_cases n : us.length = 0
    · rw [n]; rfl
    · rw [if_pos (by omega), show ((us.length : Int) - 1 - -1 - -1 - 1) / (- -1) = (us.length : Int) by rw [show (- -1 : Int) = 1 by decide, Int.ediv_one]; omega]
      congr 1
      funext k
      congr 1
      omega
  rw [e, List.filterMap_map]
  have := back_places us
  rw [← this]
  congr 1
  refine congrArg (fun f => List.filterMap f (List.range us.length)) ?_
  funext k
  simp
section
variable {X : Cx} {K1 : PySem.W.Frag}
def tRevL (K : PySem.W.Frag) (te : TE) : TE := fun σ H Q => te σ H fun x H1 => ∃ a xs, x = .ref a ∧ SqL K H1 a xs ∧ ∀ b, H1 b = none → Q (.ref b) (upd H1 b (.lst xs.reverse))
theorem pe_revL {e : Expr} {te : TE} {k : Nat} {p1 p2 p3 pos : Pos} (hK : X.K = K1) (he : PE X e te) : PE X (.Subscript e (.Slice none none (some (.UnaryOp .USub (.Constant (.int 1) k p1) p2)) p3) pos) (tRevL K1 te) := by
  subst hK
  have step : PO X (some (.UnaryOp .USub (.Constant (.int 1) k p1) p2)) (tPart (tUn (rU fun i => .int (-i)) (tC (.int 1)))) := po_some (pe_un un_neg pe_int)
  constructor
  intro pins s σ H Q I h
  refine Subscript_ (thn (he.run pins s σ H _ I h) ?_)
  rintro v s1 ⟨x, H1, I1, r1, a, xs, rfl, hx, hq⟩
  cases r1
  refine wpAny_Slice (thn (po_none.run pins s1 σ H1 (fun o G => o = none ∧ G = H1) I1 ⟨rfl, rfl⟩) ?_)
  rintro vl s2 ⟨o1, G1, I2, q1, rfl, rfl⟩
  refine thn (po_none.run pins s2 σ G1 (fun o G => o = none ∧ G = G1) I2 ⟨rfl, rfl⟩) ?_
  rintro vu s3 ⟨o2, G2, I3, q2, rfl, rfl⟩
  refine thn (step.run pins s3 σ G2 (fun o G => o = some (-1) ∧ G = G2) I3 ⟨1, rfl, -1, rfl, rfl, rfl⟩) ?_
  rintro vs s4 ⟨o3, G3, I4, q3, rfl, rfl⟩
  cases q1
  cases q2
  cases q3 with
  | int _ u =>
    have I5 : Inv X pins σ G3 { s4 with heap := s4.heap.push { cls := .type "slice", data := .fields #[.none, .none, .int (-1) u] } } := I4.kept (t' := s4.toks) fun b ob q => Heap.get?_push_of_some _ q
    obtain ⟨its, r, ht, hz⟩ := I5.list hx
    show wpAny (model X.prog X.w) X.A (subscriptTail e (.Slice none none (some (.UnaryOp .USub (.Constant (.int 1) k p1) p2)) p3) (.ref a) (.ref s4.heap.objs.size)) (EP X pins σ Q) X.xe { s4 with heap := s4.heap.push { cls := .type "slice", data := .fields #[.none, .none, .int (-1) u] } }
    refine tail_any (ops := [.ref a, .ref s4.heap.objs.size]) ht.isList.typeIs (slot_list_getitem.lookup) ?_ (by with_unfolding_all rfl)
    refine wpAny_getItem_list_slice ht.isList (Heap.IsSliceOf.new _ .none .none (.int (-1) u)) .none .none (.int (-1) u) (by decide) ?_ (by rw [List.size_toArray, ← r.length]; exact hz)
    rw [pick_back]
    refine ⟨.ref _, _, I5.laid (t' := s4.toks) (o := .lst xs.reverse) (fun b ob q => Heap.get?_push_of_some _ q) (Nat.le_refl _) ⟨?_, _, _, vals_reverse r, Heap.get?_push_size _ rfl⟩, rfl, hq _ (I5.hok.fresh (Nat.le_refl _))⟩
    rw [List.length_reverse]
    exact hz
end
end My

set_option Elab.async false
set_option linter.all false
set_option maxRecDepth 100000
set_option maxHeartbeats 2000000
namespace L52
open PySem PySem.Spec PyProof.Rows L2 LT
open My hiding Tbs Gk Tk
section
variable {P : Program} {w : World} {K : PySem.W.Frag} {mg : Str → Option Value} {base : Heap}
theorem shaped_pagesT {ks : List NestedKey} (h : ∀ k ∈ ks, PgK k) : SeqAt.shaped (NestedKey.tup ks).data = true := by
  have := shaped_pages h
  unfold SeqAt.shaped at this
  rw [Bool.and_eq_true, PyData.canLay0, PyData.depth] at this
  unfold SeqAt.shaped
  rw [tup_data, Bool.and_eq_true, PyData.canLay0, PyData.depth]
  exact this
theorem nk_revP {H : Hp} : ∀ {xs : List V} {ks : List NestedKey}, NkAll H xs ks → NkAll H xs.reverse ks.reverse
  | _, _, .nil => .nil
  | _, _, .cons n h => by
    rw [List.reverse_cons, List.reverse_cons]
    exact (nk_revP h).app (.cons n .nil)
theorem free_nil (ps : List (Str × Str)) : AllFree ps 0 [] := rfl
def spLaw {K : PySem.W.Frag} {mg : Str → Option Value} {w : World} (T : Tx K mg w) : Sp := fun vs H Q _ => ∃ (a : Addr) (ns : List Int), vs = [.ref a] ∧ SqL K H a (ns.map V.int) ∧ ns.length ≤ 63 ∧ Tbs (tbs T) H ∧ ∀ H', Q (.bl true) H'
theorem ok_law (T : Tx K mg w) (B : Tb T base) : FnOk P w K mg base CX0 13 T.f_law T.d_law ["_law_script"] (spLaw T) := by
  have G_w_feed : FnOk P w K mg base CX0 1 T.f_w_feed T.d_w_feed ["_law_script"] (spFeed K) := ok_feed T
  have G_w_draw : FnOk P w K mg base CX0 1 T.f_w_draw T.d_w_draw ["_law_feed_here", "_law_many"] (spDraw) := ok_draw T
  have G_w_names : FnOk P w K mg base CX0 2 T.f_w_names T.d_w_names ["_law_feed_here", "_law_many"] (spFNm) := ok_fnm T
  have G_w_book : FnOk P w K mg base CX0 3 T.f_w_book T.d_w_book ["_law_feed_here", "_law_names_here", "_law_base"] (spFBk) := ok_fbk T
  have G_in_order : FnOk P w K mg base CX0 4 T.f_in_order T.d_in_order ["some"] (spOrd) := ok_order T
  have G_ranks : FnOk P w K mg base CX0 10 T.f_ranks T.d_ranks ["book", "day"] (spRanks T) := ok_ranks T B
  have G_w_day_right : FnOk P w K mg base CX0 12 T.f_w_day_right T.d_w_day_right ["_law_feed_here", "_law_book_here", "_law_day", "_law_later"] (spDay T) := ok_day T B
  refine T.F_law.ok S_law (fun vs H Q E h => ?_) (fun cdv A outer s0 H vs Q E hr h => ?_)
  · obtain ⟨a, ns, rfl, _⟩ := h
    rfl
  · obtain ⟨a, ns, rfl, hS, hlen, hB, q⟩ := h
    refine ⟨_, (pss_cons (ps_set (i := 1) S_law.nd rfl (.inr rfl) (pe_call G_w_feed (hr.mono (by decide)) (by rfl) T.g_w_feed T.F_w_feed.kp T.b_w_feed .nil pass0 (pa_cons (pv 0) pa_nil)))
      (pss_cons (ps_set (i := 2) S_law.nd rfl (.inr rfl) (pe_ix ix_list (pe_lst (pa_cons (pe_call G_w_draw (hr.mono (by decide)) (by rfl) T.g_w_draw T.F_w_draw.kp T.b_w_draw .nil pass0 (pa_cons (pv 1) (pa_cons pe_int pa_nil))) (pa_cons pe_int (pa_cons pe_int (pa_cons pe_int pa_nil))))) (pe_call G_w_draw (hr.mono (by decide)) (by rfl) T.g_w_draw T.F_w_draw.kp T.b_w_draw .nil pass0 (pa_cons (pv 1) (pa_cons pe_int pa_nil))) (fun _ _ => rfl)))
      (pss_cons (ps_set (i := 3) S_law.nd rfl (.inl rfl) (pe_call G_w_names (hr.mono (by decide)) (by rfl) T.g_w_names T.F_w_names.kp T.b_w_names .nil pass0 (pa_cons (pv 1) (pa_cons (pe_ix ix_list (pe_lst (pa_cons pe_int (pa_cons pe_int (pa_cons pe_int (pa_cons pe_int (pa_cons pe_int (pa_cons pe_int (pa_cons pe_int (pa_cons pe_int pa_nil))))))))) (pe_call G_w_draw (hr.mono (by decide)) (by rfl) T.g_w_draw T.F_w_draw.kp T.b_w_draw .nil pass0 (pa_cons (pv 1) (pa_cons pe_int pa_nil))) (fun _ _ => rfl)) pa_nil))))
      (pss_cons (ps_set (i := 4) S_law.nd rfl (.inl rfl) (pe_call G_w_book (hr.mono (by decide)) (by rfl) T.g_w_book T.F_w_book.kp T.b_w_book .nil pass0 (pa_cons (pv 1) (pa_cons (pv 3) (pa_cons (pv 2) pa_nil)))))
      (pss_cons (ps_set (i := 5) S_law.nd rfl (.inl rfl) (pe_call G_in_order (hr.mono (by decide)) (by rfl) T.g_in_order T.F_in_order.kp T.b_in_order .nil pass0 (pa_cons (pv 4) pa_nil)))
      (pss_cons (ps_set (i := 6) S_law.nd rfl (.inl rfl) (pe_tup (pa_cons pe_str (pa_cons (pe_op op_add (pv 2) pe_int) (pa_cons (pe_ix ix_tup (pv 3) pe_int (fun _ _ => rfl)) (pa_cons (pe_ix ix_tup (pv 3) pe_int (fun _ _ => rfl)) pa_nil))))))
      (pss_cons (ps_if (PW.pt (pw_or (pt_cmpR (op_neD hr.units) (pe_call G_in_order (hr.mono (by decide)) (by rfl) T.g_in_order T.F_in_order.kp T.b_in_order .nil pass0 (pa_cons (pe_revL (K1 := K) rfl (pv 4)) pa_nil)) (pv 5) (nomark _)) (pw_or1 (pt_cmpR (op_neD hr.units) (pe_call G_ranks (hr.mono (by decide)) (by rfl) T.g_ranks T.F_ranks.kp T.b_ranks .nil pass0 (pa_cons (pe_tup pa_nil) (pa_cons (pv 2) pa_nil))) (pe_tup (pa_cons pe_str (pa_cons (pe_tup pa_nil) pa_nil))) (nomark _))))) (pss_one (ps_ret pe_bl)) pss_nil)
      (pss_cons (ps_for PassesOwn.never rfl (pi_list (pe_op op_cat (pe_lst (pa_cons (pe_op op_add (pv 2) pe_int) pa_nil)) (pe_lc (own := [("_law_k", 8)]) (g := gName 8) (tt := tYes) (by rfl) S_law.nd (pi_range1 (by rfl) T.m_range (pa_cons pe_int pa_nil)) (blkOk_by (own := [("_law_k", 8)]) (N := N_law) (sc := defScope s_law) (by decide +kernel)) (fun _ _ _ _ _ => (pg_name (i := 8) S_law.nd rfl (.inl rfl))) (fun _ _ _ _ _ => pts_nil) (fun _ _ _ _ _ => (pe_op op_add (pv 2) (pe_call G_w_draw (hr.mono (by decide)) (by rfl) T.g_w_draw T.F_w_draw.kp T.b_w_draw .nil pass0 (pa_cons (pv 1) (pa_cons pe_int pa_nil)))))))) (pg_name (i := 7) S_law.nd rfl (.inl rfl))
      (pss_one (ps_if (pt_not (pt_val (pe_call G_w_day_right hr (by rfl) T.g_w_day_right T.F_w_day_right.kp T.b_w_day_right .nil pass0 (pa_cons (pv 1) (pa_cons (pv 5) (pa_cons (pv 7) (pa_cons (pv 6) pa_nil))))))) (pss_one (ps_ret pe_bl)) pss_nil)))
      (pss_one (ps_ret pe_bl)))))))))), ?_⟩
    refine ⟨_, rfl, a, ns, rfl, hS, fun t c H1 s1 n1 hT1 => ?_⟩
    have hB1 : Tbs (tbs T) H1 := hB.same s1
    refine ⟨_, rfl, t, 9500, 0, c, rfl, by decide, by decide, hT1, by omega, fun u H2 u0 u1 hT2 hK2 => ?_⟩
    refine ⟨sz (by show 4 ≤ 1000; decide), fun l1 nl1 => ?_⟩
    refine fresh_fin (.lst [V.int u, V.int 0, V.int 7, V.int 200]) nl1 fun H3 s3 h3 => ?_
    have l1t := (hT2.ne nl1).1
    refine ⟨_, rfl, t, 4, _, c, rfl, by decide, by decide, hT2.same s3, by omega, fun v H4 v0 v1 hT4 hK4 => ?_⟩
    have h34 := hK4 _ _ l1t h3
    obtain ⟨base_, hbs, b0, b1⟩ : ∃ bs : Int, atI [V.int u, V.int 0, V.int 7, V.int 200] v = some (.int bs) ∧ 0 ≤ bs ∧ bs < 9500 := by
      have h4 : v = 0 ∨ v = 1 ∨ v = 2 ∨ v = 3 := by omega
      rcases h4 with rfl | rfl | rfl | rfl
      · exact ⟨u, rfl, u0, u1⟩
      · exact ⟨0, rfl, by decide, by decide⟩
      · exact ⟨7, rfl, by decide, by decide⟩
      · exact ⟨200, rfl, by decide, by decide⟩
    refine ⟨l1, _, v, .int base_, rfl, rfl, .inl (.inl h34), hbs, ?_⟩
    have hB4 := feed_kp ((feed_kp hB1 hT1 hK2).same s3) (hT2.same s3) hK4
    refine ⟨_, rfl, sz (by show 8 ≤ 1000; decide), fun l2 nl2 => ?_⟩
    refine fresh_fin (.lst [V.int 4, V.int 3, V.int 5, V.int 6, V.int 9, V.int 2, V.int 7, V.int 4]) nl2 fun H5 s5 h5 => ?_
    have l2t := (hT4.ne nl2).1
    refine ⟨_, rfl, t, 8, _, c, rfl, by decide, by decide, hT4.same s5, by omega, fun x H6 x0 x1 hT6 hK6 => ?_⟩
    have h56 := hK6 _ _ l2t h5
    obtain ⟨m, hms, m2, m9⟩ : ∃ m : Nat, atI [V.int 4, V.int 3, V.int 5, V.int 6, V.int 9, V.int 2, V.int 7, V.int 4] x = some (.int m) ∧ 2 ≤ m ∧ m ≤ 9 := by
      have h8 : x = 0 ∨ x = 1 ∨ x = 2 ∨ x = 3 ∨ x = 4 ∨ x = 5 ∨ x = 6 ∨ x = 7 := by omega
      rcases h8 with rfl | rfl | rfl | rfl | rfl | rfl | rfl | rfl
      · exact ⟨4, rfl, by decide, by decide⟩
      · exact ⟨3, rfl, by decide, by decide⟩
      · exact ⟨5, rfl, by decide, by decide⟩
      · exact ⟨6, rfl, by decide, by decide⟩
      · exact ⟨9, rfl, by decide, by decide⟩
      · exact ⟨2, rfl, by decide, by decide⟩
      · exact ⟨7, rfl, by decide, by decide⟩
      · exact ⟨4, rfl, by decide, by decide⟩
    have hB6 := feed_kp (hB4.same s5) (hT4.same s5) hK6
    refine ⟨l2, _, x, .int m, rfl, rfl, .inl (.inl h56), hms, t, c, m, _, rfl, m9, hT6, by omega, fun nA zs H7 hN7 lz nm nd so hT7 hK7 fN => ?_⟩
    have hB7 := feed_kp hB6 hT6 hK7
    clear hK2 hK4 hK6 h3 h34 h5 h56 hbs hms hB1 hB4 hB6 hT1 hT2 hT4
    refine ⟨_, rfl, _, rfl, _, rfl, t, c, nA, zs, base_, _, rfl, hN7, by omega, by omega, nm, nd, hT7, by omega, b0, by omega, fun pL pys pls H8 hp8 pg8 l77 ⟨k0, lk0, sk0⟩ hT8 hK8 => ?_⟩
    have hB8 := feed_kp hB7 hT7 hK8
    have hN8 := tups_kp hT7 hK8 _ _ hN7
    refine ⟨_, rfl, pL, pys, pls, rfl, .inl hp8, ⟨pg8.nk, pg8.pg⟩, by omega, fun bA bys bks H9 s9 hb9 nb9 ob9 mb9 lb9 => ?_⟩
    have hN9 := s9 _ _ hN8
    have hp9 := s9 _ _ hp8
    have lz0 : 0 < zs.length := by omega
    have lz1 : 1 < zs.length := by omega
    have e0 : zs[0]? = some zs[0] := List.getElem?_eq_getElem lz0
    have e1 : zs[1]? = some zs[1] := List.getElem?_eq_getElem lz1
    have ne10 : zs[1] ≠ zs[0] := fun z => List.pairwise_iff_getElem.mp nd 0 1 lz0 lz1 (by omega) z.symm
    have mz0 := List.mem_of_getElem? e0
    have mz1 := List.mem_of_getElem? e1
    generalize zs[0] = z0 at *
    generalize zs[1] = z1 at *
    refine ⟨_, rfl, _, _, rfl, rfl, _, rfl, nA, _, 1, .str z1, rfl, rfl, .inl (.inl hN9), at_of (j := 1) rfl (by rw [List.getElem?_map, e1]; rfl), _, rfl, nA, _, 0, .str z0, rfl, rfl, .inl (.inl hN9), at_of (j := 0) rfl (by rw [List.getElem?_map, e0]; rfl), sz (by show 4 ≤ 1000; decide), fun lt nlt => ?_⟩
    refine fresh_fin (.tup [V.str "ahead", V.int (base_ + 60), V.str z1, V.str z0]) nlt fun H10 s10 h10 => ?_
    have pl : PgK (.tup [.text "ahead", .num (base_ + 60), .text z1, .text z0]) := ⟨_, _, _, rfl, .ahead (nm z1 mz1).plain (nm z0 mz0).plain, by omega, by omega⟩
    have nl10 : Nk H10 (.ref lt) (.tup [.text "ahead", .num (base_ + 60), .text z1, .text z0]) := .tup h10 (.cons (.str _) (.cons (.int _) (.cons (.str _) (.cons (.str _) .nil))))
    have syl : Sy zs (.tup [.text "ahead", .num (base_ + 60), .text z1, .text z0]) := ⟨fun d' a' b' e => by
        injection e with e
        injection e with _ e
        injection e with _ e
        injection e with e2 e
        injection e with e3 _
        injection e2 with e2
        injection e3 with e3
        rw [← e2, ← e3]
        exact ⟨mz1, mz0, ne10⟩, fun nm' hn' => by
        simp [restK] at hn'
        rcases hn' with rfl | rfl
        · exact mz1
        · exact mz0⟩
    have s910 := s9.trans s10
    have hp10 := s10 _ _ hp9
    have hb10 := s10 _ _ hb9
    have nb10 := nb9.at (.same s10)
    have pg10 := pg8.at (.same s910)
    have bpg : ∀ k ∈ bks, PgK k := fun k hk => pg8.pg k ((mb9 k).mp hk)
    -- in any order the same book
    refine ⟨_, rfl, pL, pys, rfl, .inl (.inl hp10), fun rL nrL => ?_⟩
    refine fresh_fin (.lst pys.reverse) nrL fun H11 s11 h11 => ?_
    refine ⟨rL, _, pls.reverse, rfl, .inl h11, ⟨nk_revP (pg10.nk.at (.same s11)), fun k hk => pg8.pg k (List.mem_reverse.mp hk)⟩, by rw [List.length_reverse]; omega, fun cA cys cks H12 s12 hc12 nc12 oc12 mc12 lc12 => ?_⟩
    have ec : cks = bks := ord_unique oc12 ob9 fun k => by rw [mc12, mb9, List.mem_reverse]
    subst ec
    have s1012 := s11.trans s12
    refine ⟨_, rfl, ne_keys hc12 (s1012 _ _ hb10) nc12 (nb10.at (.same s1012)) (shaped_pagesT bpg) ⟨_, rfl, iteF ?_⟩⟩
    refine ⟨sz (by show 0 ≤ 1000; decide), fun v0 nv0 => ?_⟩
    refine fresh_fin (.tup []) nv0 fun H13 s13 h13 => ?_
    have hB13 := hB8.same (s910.trans (s1012.trans s13))
    have bkv : Bok T H13 v0 [] [] zs := ⟨h13, ⟨.nil, fun k hk => by cases hk⟩, (fun k hk => by cases hk), .nil, by decide, hB13, by omega⟩
    obtain ⟨wsv, bdv, ekv⟩ := bkv.bd base_
    have wv : wsv = [] := List.map_eq_nil_iff.mp (ekv.trans rfl)
    subst wv
    refine ⟨_, rfl, v0, base_, [], [], [], zs, rfl, bdv, fun rv yv pv_ H14 g14 rkv rtv => ?_⟩
    have yv0 : yv = [] := by
      have := rkv.pm.length_eq
      rw [List.length_map] at this
      exact List.length_eq_zero_iff.mp this
    subst yv0
    rcases rtv with ⟨_, ov, hrv, obv, hov, _⟩ | ⟨naf, _⟩
    · refine ⟨sz (by show 0 ≤ 1000; decide), fun e1_ ne1 => ?_⟩
      refine fresh_fin (.tup []) ne1 fun H15 s15 h15 => ?_
      refine ⟨sz (by show 2 ≤ 1000; decide), fun e2_ ne2 => ?_⟩
      refine fresh_fin (.tup [V.str "order", V.ref e1_]) ne2 fun H16 s16 h16 => ?_
      have s1416 := s15.trans s16
      have ed : (NestedKey.tup [.text "order", .tup []]).data = .tuple [.str "order", .tuple []] := by
        simp [NestedKey.data, NestedKey.datas]
      have shv : SeqAt.shaped (NestedKey.tup [.text "order", .tup []]).data = true := by
        rw [ed]; decide +kernel
      refine ⟨(NestedKey.tup [.text "order", .tup []]).data, (NestedKey.tup [.text "order", .tup []]).data, ?_, ?_, shv, shv, _, rfl, ite2 (fun e => ?_) (fun _ => ?_)⟩
      · rw [ed]
        exact .tup (.inl (.inl (s1416 _ _ hrv))) (.cons (.str _) (.cons (.tup (.inl (.inr ⟨_, s1416 _ _ hov⟩)) .nil) .nil))
      · rw [ed]
        exact .tup (.inl (.inl h16)) (.cons (.str _) (.cons (.tup (.inl (.inl (s16 _ _ h15))) .nil) .nil))
      · rw [eqv_key] at e
        cases e
      have g16 : Gk (tbs T) H13 H16 := g14.trans (.of_same s1416 g14.2)
      have s813 := s910.trans (s1012.trans s13)
      have hT16 := feed_gk (hT8.same s813) g16
      have t16 : Tups H8 H16 := (Tups.same s813).trans g16.tups
      have lbks : bys.length ≤ 75 := by
        have nd : cks.Nodup := ob9.imp fun {a b} e z => by rw [z, ahead_self] at e; cases e
        have := nodup_len (m := k0) nd fun k hk => sk0 k ((mb9 k).mp hk)
        have := nb9.length
        omega
      have bk16 : Bok T H16 bA bys cks zs := ⟨(g16.tup ((s10.trans (s1012.trans s13)) _ _ hb9)), ⟨(nb9.at (.same (s10.trans (s1012.trans s13)))).at g16.tups, bpg⟩, fun k hk => pg8.sy k ((mb9 k).mp hk), ob9, by omega, g16.2, by omega⟩
      have nl16 := (nl10.at (.same (s1012.trans s13))).at g16.tups
      clear hp8 hN8 hb9 nb9 hN9 hp9 hp10 hb10 nb10 pg10 h11 hc12 nc12 nl10 h13 h15 h16 hov hrv
      refine ⟨_, rfl, _, _, rfl, rfl, sz (by show 1 ≤ 1000; decide), fun l3 nl3 => ?_⟩
      refine fresh_fin (.lst [V.int (base_ + 45)]) nl3 fun H17 s17 h17 => ?_
      have hT17 := hT16.same s17
      have l3t := (hT16.ne nl3).1
      refine ⟨3, rfl, by decide, by decide, fun D nD => ?_⟩
      obtain ⟨Dt, Dc⟩ := hT17.ne nD
      have lD : l3 ≠ D := ne_of_none h17 nD
      refine lc_range (lo := 0) (n := 3) (fun j Hx => ∃ ds : List Int, Hx D = some (.lst (ds.map V.int)) ∧ ds.length = j ∧ (∀ d ∈ ds, 0 ≤ d ∧ d < 15000 ∧ d < base_ + 60) ∧ FeedC Hx t c (2000 + j) ∧ Kp t H17 Hx) ⟨[], upd_same, rfl, (fun d hd => by cases hd), (hT17.new nD).mono (by omega), .new (.refl t H17) nD⟩ ?_ ?_
      · rintro j Hx hj ⟨ds, hD, ld, sd, hTx, kx⟩
        refine ⟨rfl, tYesT ⟨_, rfl, _, rfl, t, 44, _, c, rfl, by decide, by decide, hTx, by omega, fun y Hy y0 y1 hTy hKy => ⟨_, _, rfl, rfl, _, hKy _ _ Dt hD, small1000 (by rw [List.length_map]; omega), ds ++ [base_ + y], by rw [upd_same, List.map_append]; rfl, by rw [List.length_append, ld]; rfl, fun d hd => ?_, (hTy.updO Dt Dc).mono (by omega), kp_fresh nD (kx.trans hKy)⟩⟩⟩
        rcases List.mem_append.mp hd with h | h
        · exact sd d h
        · rw [List.mem_singleton.mp h]; omega
      · rintro Hx ⟨ds, hD, ld, sd, hTx, kx⟩
        have hBx := feed_kp (g16.2.same s17) hT17 kx
        have bkx : Bok T Hx bA bys cks zs := (bk16.gk (.of_same s17 g16.2)).kt (.kp kx) hT17 hBx
        have nlx := (nl16.at (.same s17)).at (tups_kp hT17 kx)
        refine ⟨l3, D, _, _, rfl, rfl, kx _ _ l3t h17, hD, sz (by rw [List.length_map, ld]; show 1 + 3 ≤ 1000; decide), fun LL nLL => ?_⟩
        refine fresh_fin (.lst ([V.int (base_ + 45)] ++ ds.map V.int)) nLL fun H18 s18 h18 => ?_
        have LLt := (hTx.ne nLL).1
        have dds : ∀ v ∈ [V.int (base_ + 45)] ++ ds.map V.int, ∃ d : Int, v = .int d ∧ 0 ≤ d ∧ d < 15000 ∧ d < base_ + 60 := fun v hv => by
          rcases List.mem_append.mp hv with h | h
          · exact ⟨_, List.mem_singleton.mp h, by omega, by omega, by omega⟩
          · obtain ⟨d, hd, rfl⟩ := List.mem_map.mp h
            exact ⟨d, rfl, sd d hd⟩
        have ldd : ([V.int (base_ + 45)] ++ ds.map V.int).length = 4 := by rw [List.length_append, List.length_map, ld]; rfl
        generalize [V.int (base_ + 45)] ++ ds.map V.int = dd at h18 dds ldd ⊢
        have bk18 := bkx.gk (.of_same s18 hBx)
        have hT18 := hTx.same s18
        refine ⟨LL, rfl, ⟨_, .inl (.inl h18)⟩, ?_⟩
        refine for_list (xs := dd) (fun i σ Hy => (∃ y7 y8, σ = [some (.ref a), some (.ref t), some (.int base_), some (.ref nA), some (.ref pL), some (.ref bA), some (.ref lt), y7, y8]) ∧ FeedC Hy t c (2003 + 12 * i) ∧ KT t H18 Hy ∧ Tbs (tbs T) Hy) ⟨⟨_, _, rfl⟩, hT18.mono (by omega), fun _ _ _ e _ => e, hBx.same s18⟩ (fun i σ Hy hi ⟨_, _, k, _⟩ => .inl (.inl (k _ _ LLt h18 (fun ps z => by cases z)))) ?_ ?_
        · rintro i v σ Hy hv ⟨⟨y7, y8, rfl⟩, hTy, ky, hBy⟩
          have hi := (List.getElem?_eq_some_iff.mp hv).1
          obtain ⟨d, rfl, dd0, dd1, dd2⟩ := dds v (List.mem_of_getElem? hv)
          refine ⟨_, rfl, _, rfl, _, rfl, _, rfl, t, c, bA, lt, d, _, bys, cks, zs, _, rfl, hTy, by omega, bk18.kt ky hT18 hBy, lbks, dd0, dd1, nm, (nlx.at (.same s18)).at (ky.tups hT18), pl, dd2, syl, fun H' hT' k' hB' => ?_⟩
          exact ⟨true, rfl, iteF ⟨⟨_, _, rfl⟩, hT'.mono (by omega), ky.trans k', hB'⟩⟩
        · rintro σ Hy ⟨⟨y7, y8, rfl⟩, _⟩
          exact q _
    · exact absurd (free_nil _) naf
end
end L52

set_option Elab.async false
set_option linter.all false
set_option maxRecDepth 100000
set_option maxHeartbeats 2000000
namespace L52
open PySem PySem.Spec PyProof.Rows L2 LT
open My hiding Tbs Gk Tk
theorem all_mk {l : PySem.W.OpenLaw} {w : World} {K : PySem.W.Frag} {h : Heap} {mg : Str → Option Value} {fa : Addr} {q : Program} (X : K.In h) (G : h.Ns mainGlobals mg) (hfa : mg "law" = some (.ref fa)) (tabs : GE.TabsIn q K h)
    {f1 : Addr} {od1 an1 : Option Addr} {sl1 : Array (Option Value)} {oc1 kV1 dc1 pm1 cd1 ct1 : Value}
    {f2 : Addr} {od2 an2 : Option Addr} {sl2 : Array (Option Value)} {oc2 kV2 dc2 pm2 cd2 ct2 : Value}
    {f3 : Addr} {od3 an3 : Option Addr} {sl3 : Array (Option Value)} {oc3 kV3 dc3 pm3 cd3 ct3 : Value}
    {q3 P3 : Addr} {ge3 : Value} {gd3 : Option Addr} {gv3 : Array Value} {gs3 : Array (Option Value)}
    {f4 : Addr} {od4 an4 : Option Addr} {sl4 : Array (Option Value)} {oc4 kV4 dc4 pm4 cd4 ct4 : Value}
    {f5 : Addr} {od5 an5 : Option Addr} {sl5 : Array (Option Value)} {oc5 kV5 dc5 pm5 cd5 ct5 : Value}
    {f6 : Addr} {od6 an6 : Option Addr} {sl6 : Array (Option Value)} {oc6 kV6 dc6 pm6 cd6 ct6 : Value}
    {f7 : Addr} {od7 an7 : Option Addr} {sl7 : Array (Option Value)} {oc7 kV7 dc7 pm7 cd7 ct7 : Value}
    {f8 : Addr} {od8 an8 : Option Addr} {sl8 : Array (Option Value)} {oc8 kV8 dc8 pm8 cd8 ct8 : Value}
    {q8 P8 : Addr} {ge8 : Value} {gd8 : Option Addr} {gv8 : Array Value} {gs8 : Array (Option Value)}
    {f9 : Addr} {od9 an9 : Option Addr} {sl9 : Array (Option Value)} {oc9 kV9 dc9 pm9 cd9 ct9 : Value}
    {f10 : Addr} {od10 an10 : Option Addr} {sl10 : Array (Option Value)} {oc10 kV10 dc10 pm10 cd10 ct10 : Value}
    {f11 : Addr} {od11 an11 : Option Addr} {sl11 : Array (Option Value)} {oc11 kV11 dc11 pm11 cd11 ct11 : Value}
    {f12 : Addr} {od12 an12 : Option Addr} {sl12 : Array (Option Value)} {oc12 kV12 dc12 pm12 cd12 ct12 : Value}
    {q12 P12 : Addr} {ge12 : Value} {gd12 : Option Addr} {gv12 : Array Value} {gs12 : Array (Option Value)}
    {f13 : Addr} {od13 an13 : Option Addr} {sl13 : Array (Option Value)} {oc13 kV13 dc13 pm13 cd13 ct13 : Value}
    {q13 P13 : Addr} {ge13 : Value} {gd13 : Option Addr} {gv13 : Array Value} {gs13 : Array (Option Value)}
    {f14 : Addr} {od14 an14 : Option Addr} {sl14 : Array (Option Value)} {oc14 kV14 dc14 pm14 cd14 ct14 : Value}
    {f15 : Addr} {od15 an15 : Option Addr} {sl15 : Array (Option Value)} {oc15 kV15 dc15 pm15 cd15 ct15 : Value}
    {f16 : Addr} {od16 an16 : Option Addr} {sl16 : Array (Option Value)} {oc16 kV16 dc16 pm16 cd16 ct16 : Value}
    {f17 : Addr} {od17 an17 : Option Addr} {sl17 : Array (Option Value)} {oc17 kV17 dc17 pm17 cd17 ct17 : Value}
    {f18 : Addr} {od18 an18 : Option Addr} {sl18 : Array (Option Value)} {oc18 kV18 dc18 pm18 cd18 ct18 : Value}
    {q18 P18 : Addr} {ge18 : Value} {gd18 : Option Addr} {gv18 : Array Value} {gs18 : Array (Option Value)}
    {f19 : Addr} {od19 an19 : Option Addr} {sl19 : Array (Option Value)} {oc19 kV19 dc19 pm19 cd19 ct19 : Value}
    {f20 : Addr} {od20 an20 : Option Addr} {sl20 : Array (Option Value)} {oc20 kV20 dc20 pm20 cd20 ct20 : Value}
    {f21 : Addr} {od21 an21 : Option Addr} {sl21 : Array (Option Value)} {oc21 kV21 dc21 pm21 cd21 ct21 : Value}
    {f22 : Addr} {od22 an22 : Option Addr} {sl22 : Array (Option Value)} {oc22 kV22 dc22 pm22 cd22 ct22 : Value}
    {q22 P22 : Addr} {ge22 : Value} {gd22 : Option Addr} {gv22 : Array Value} {gs22 : Array (Option Value)}
    {f23 : Addr} {od23 an23 : Option Addr} {sl23 : Array (Option Value)} {oc23 kV23 dc23 pm23 cd23 ct23 : Value}
    {q23 P23 : Addr} {ge23 : Value} {gd23 : Option Addr} {gv23 : Array Value} {gs23 : Array (Option Value)}
    {f24 : Addr} {od24 an24 : Option Addr} {sl24 : Array (Option Value)} {oc24 kV24 dc24 pm24 cd24 ct24 : Value}
    {f25 : Addr} {od25 an25 : Option Addr} {sl25 : Array (Option Value)} {oc25 kV25 dc25 pm25 cd25 ct25 : Value}
    {f26 : Addr} {od26 an26 : Option Addr} {sl26 : Array (Option Value)} {oc26 kV26 dc26 pm26 cd26 ct26 : Value}
    {f27 : Addr} {od27 an27 : Option Addr} {sl27 : Array (Option Value)} {oc27 kV27 dc27 pm27 cd27 ct27 : Value}
    {f28 : Addr} {od28 an28 : Option Addr} {sl28 : Array (Option Value)} {oc28 kV28 dc28 pm28 cd28 ct28 : Value}
    {f29 : Addr} {od29 an29 : Option Addr} {sl29 : Array (Option Value)} {oc29 kV29 dc29 pm29 cd29 ct29 : Value}
    {f30 : Addr} {od30 an30 : Option Addr} {sl30 : Array (Option Value)} {oc30 kV30 dc30 pm30 cd30 ct30 : Value}
    {f31 : Addr} {od31 an31 : Option Addr} {sl31 : Array (Option Value)} {oc31 kV31 dc31 pm31 cd31 ct31 : Value}
    {f32 : Addr} {od32 an32 : Option Addr} {sl32 : Array (Option Value)} {oc32 kV32 dc32 pm32 cd32 ct32 : Value}
    {f33 : Addr} {od33 an33 : Option Addr} {sl33 : Array (Option Value)} {oc33 kV33 dc33 pm33 cd33 ct33 : Value}
    {f34 : Addr} {od34 an34 : Option Addr} {sl34 : Array (Option Value)} {oc34 kV34 dc34 pm34 cd34 ct34 : Value}
    {kC1 : Addr}
    {kC2 : Addr}
    {kf2 : Addr} {knm2 kq2 : Str} {kN2 : Addr} {kbs2 kbm2 : List Value} {ksn2 : List Str} {ksu2 : List Value} {kab2 : Bool} {kco2 : Option Bool} {kdd2 : Option Addr} {km02 km12 km22 km32 km52 : Option Value} {kod2 kan2 : Option Addr} {ksl2 : Array (Option Value)} {koc2 kkV2 kdc2 kpm2 kcd2 kct2 : Value}
    {kC3 : Addr}
    {kf3 : Addr} {knm3 kq3 : Str} {kN3 : Addr} {kbs3 kbm3 : List Value} {ksn3 : List Str} {ksu3 : List Value} {kab3 : Bool} {kco3 : Option Bool} {kdd3 : Option Addr} {km03 km13 km23 km33 km53 : Option Value} {kod3 kan3 : Option Addr} {ksl3 : Array (Option Value)} {koc3 kkV3 kdc3 kpm3 kcd3 kct3 : Value}
    {kC4 : Addr}
    {kf4 : Addr} {knm4 kq4 : Str} {kN4 : Addr} {kbs4 kbm4 : List Value} {ksn4 : List Str} {ksu4 : List Value} {kab4 : Bool} {kco4 : Option Bool} {kdd4 : Option Addr} {km04 km14 km24 km34 km54 : Option Value} {kod4 kan4 : Option Addr} {ksl4 : Array (Option Value)} {koc4 kkV4 kdc4 kpm4 kcd4 kct4 : Value}
    {av1 : Addr}
    {we1 : Value} {wd1 : Option Addr} {wi1 : Array Value} {wn1 : Nat} {ws1 : Array (Option Value)}
    {av2 : Addr}
    {es2 : Array DictEntry} {en2 : Nat}
    {r2_0 : Addr} {we2_0 : Value} {wd2_0 : Option Addr} {wi2_0 : Array Value} {wn2_0 : Nat} {ws2_0 : Array (Option Value)}
    {r2_1 : Addr} {we2_1 : Value} {wd2_1 : Option Addr} {wi2_1 : Array Value} {wn2_1 : Nat} {ws2_1 : Array (Option Value)}
    {r2_2 : Addr} {we2_2 : Value} {wd2_2 : Option Addr} {wi2_2 : Array Value} {wn2_2 : Nat} {ws2_2 : Array (Option Value)}
    {r2_3 : Addr} {we2_3 : Value} {wd2_3 : Option Addr} {wi2_3 : Array Value} {wn2_3 : Nat} {ws2_3 : Array (Option Value)}
    {r2_4 : Addr} {we2_4 : Value} {wd2_4 : Option Addr} {wi2_4 : Array Value} {wn2_4 : Nat} {ws2_4 : Array (Option Value)}
    {r2_5 : Addr} {we2_5 : Value} {wd2_5 : Option Addr} {wi2_5 : Array Value} {wn2_5 : Nat} {ws2_5 : Array (Option Value)}
    {r2_6 : Addr} {we2_6 : Value} {wd2_6 : Option Addr} {wi2_6 : Array Value} {wn2_6 : Nat} {ws2_6 : Array (Option Value)}
    {r2_7 : Addr} {we2_7 : Value} {wd2_7 : Option Addr} {wi2_7 : Array Value} {wn2_7 : Nat} {ws2_7 : Array (Option Value)}
    {av3 : Addr}
    {we3 : Value} {wd3 : Option Addr} {wi3 : Array Value} {wn3 : Nat} {ws3 : Array (Option Value)}
    {d3 : DefRec}
    {d8 : DefRec}
    {d12 : DefRec}
    {d13 : DefRec}
    {d18 : DefRec}
    {d22 : DefRec}
    {d23 : DefRec}
    (a1 : PySem.W.nsIn K mainGlobals "ways_from" = some (some (.ref f1))) (l1 : K.lookup f1 = some ⟨oc1, od1, .func (PySem.W.fnOf "ways_from" "ways_from" (defArgs s_ways_from) (defBody s_ways_from) (defScope s_ways_from) .none kV1 dc1 pm1 an1 cd1 ct1), sl1⟩) (c1 : PySem.W.codeIn K cd1 "ways_from" = true) (k1 : PySem.W.keepIn K (.ref f1) = true)
    (a2 : PySem.W.nsIn K mainGlobals "goes_ahead" = some (some (.ref f2))) (l2 : K.lookup f2 = some ⟨oc2, od2, .func (PySem.W.fnOf "goes_ahead" "goes_ahead" (defArgs s_goes_ahead) (defBody s_goes_ahead) (defScope s_goes_ahead) .none kV2 dc2 pm2 an2 cd2 ct2), sl2⟩) (c2 : PySem.W.codeIn K cd2 "goes_ahead" = true) (k2 : PySem.W.keepIn K (.ref f2) = true)
    (a3 : PySem.W.nsIn K mainGlobals "is_free" = some (some (.ref f3))) (l3 : K.lookup f3 = some ⟨oc3, od3, .func (PySem.W.fnOf "is_free" "is_free" (defArgs s_is_free) (defBody s_is_free) (defScope s_is_free) .none kV3 dc3 pm3 an3 cd3 ct3), sl3⟩) (c3 : PySem.W.codeIn K cd3 "is_free" = true) (k3 : PySem.W.keepIn K (.ref f3) = true)
    (e3 : cd3 = .ref q3) (u3 : K.lookup q3 = some ⟨ge3, gd3, .fields gv3, gs3⟩) (v3t : gv3[11]? = some (.ref P3)) (n3 : K.lookup P3 = none)
    (a4 : PySem.W.nsIn K mainGlobals "any_ring" = some (some (.ref f4))) (l4 : K.lookup f4 = some ⟨oc4, od4, .func (PySem.W.fnOf "any_ring" "any_ring" (defArgs s_any_ring) (defBody s_any_ring) (defScope s_any_ring) .none kV4 dc4 pm4 an4 cd4 ct4), sl4⟩) (c4 : PySem.W.codeIn K cd4 "any_ring" = true) (k4 : PySem.W.keepIn K (.ref f4) = true)
    (a5 : PySem.W.nsIn K mainGlobals "ranked" = some (some (.ref f5))) (l5 : K.lookup f5 = some ⟨oc5, od5, .func (PySem.W.fnOf "ranked" "ranked" (defArgs s_ranked) (defBody s_ranked) (defScope s_ranked) .none kV5 dc5 pm5 an5 cd5 ct5), sl5⟩) (c5 : PySem.W.codeIn K cd5 "ranked" = true) (k5 : PySem.W.keepIn K (.ref f5) = true)
    (a6 : PySem.W.nsIn K mainGlobals "page_day" = some (some (.ref f6))) (l6 : K.lookup f6 = some ⟨oc6, od6, .func (PySem.W.fnOf "page_day" "page_day" (defArgs s_page_day) (defBody s_page_day) (defScope s_page_day) .none kV6 dc6 pm6 an6 cd6 ct6), sl6⟩) (c6 : PySem.W.codeIn K cd6 "page_day" = true) (k6 : PySem.W.keepIn K (.ref f6) = true)
    (a7 : PySem.W.nsIn K mainGlobals "page_kind" = some (some (.ref f7))) (l7 : K.lookup f7 = some ⟨oc7, od7, .func (PySem.W.fnOf "page_kind" "page_kind" (defArgs s_page_kind) (defBody s_page_kind) (defScope s_page_kind) .none kV7 dc7 pm7 an7 cd7 ct7), sl7⟩) (c7 : PySem.W.codeIn K cd7 "page_kind" = true) (k7 : PySem.W.keepIn K (.ref f7) = true)
    (a8 : PySem.W.nsIn K mainGlobals "names_of" = some (some (.ref f8))) (l8 : K.lookup f8 = some ⟨oc8, od8, .func (PySem.W.fnOf "names_of" "names_of" (defArgs s_names_of) (defBody s_names_of) (defScope s_names_of) .none kV8 dc8 pm8 an8 cd8 ct8), sl8⟩) (c8 : PySem.W.codeIn K cd8 "names_of" = true) (k8 : PySem.W.keepIn K (.ref f8) = true)
    (e8 : cd8 = .ref q8) (u8 : K.lookup q8 = some ⟨ge8, gd8, .fields gv8, gs8⟩) (v8t : gv8[11]? = some (.ref P8)) (n8 : K.lookup P8 = none)
    (a9 : PySem.W.nsIn K mainGlobals "page_place" = some (some (.ref f9))) (l9 : K.lookup f9 = some ⟨oc9, od9, .func (PySem.W.fnOf "page_place" "page_place" (defArgs s_page_place) (defBody s_page_place) (defScope s_page_place) .none kV9 dc9 pm9 an9 cd9 ct9), sl9⟩) (c9 : PySem.W.codeIn K cd9 "page_place" = true) (k9 : PySem.W.keepIn K (.ref f9) = true)
    (a10 : PySem.W.nsIn K mainGlobals "in_order" = some (some (.ref f10))) (l10 : K.lookup f10 = some ⟨oc10, od10, .func (PySem.W.fnOf "in_order" "in_order" (defArgs s_in_order) (defBody s_in_order) (defScope s_in_order) .none kV10 dc10 pm10 an10 cd10 ct10), sl10⟩) (c10 : PySem.W.codeIn K cd10 "in_order" = true) (k10 : PySem.W.keepIn K (.ref f10) = true)
    (a11 : PySem.W.nsIn K mainGlobals "with_page" = some (some (.ref f11))) (l11 : K.lookup f11 = some ⟨oc11, od11, .func (PySem.W.fnOf "with_page" "with_page" (defArgs s_with_page) (defBody s_with_page) (defScope s_with_page) .none kV11 dc11 pm11 an11 cd11 ct11), sl11⟩) (c11 : PySem.W.codeIn K cd11 "with_page" = true) (k11 : PySem.W.keepIn K (.ref f11) = true)
    (a12 : PySem.W.nsIn K mainGlobals "up_to" = some (some (.ref f12))) (l12 : K.lookup f12 = some ⟨oc12, od12, .func (PySem.W.fnOf "up_to" "up_to" (defArgs s_up_to) (defBody s_up_to) (defScope s_up_to) .none kV12 dc12 pm12 an12 cd12 ct12), sl12⟩) (c12 : PySem.W.codeIn K cd12 "up_to" = true) (k12 : PySem.W.keepIn K (.ref f12) = true)
    (e12 : cd12 = .ref q12) (u12 : K.lookup q12 = some ⟨ge12, gd12, .fields gv12, gs12⟩) (v12t : gv12[11]? = some (.ref P12)) (n12 : K.lookup P12 = none)
    (a13 : PySem.W.nsIn K mainGlobals "can_be_done" = some (some (.ref f13))) (l13 : K.lookup f13 = some ⟨oc13, od13, .func (PySem.W.fnOf "can_be_done" "can_be_done" (defArgs s_can_be_done) (defBody s_can_be_done) (defScope s_can_be_done) .none kV13 dc13 pm13 an13 cd13 ct13), sl13⟩) (c13 : PySem.W.codeIn K cd13 "can_be_done" = true) (k13 : PySem.W.keepIn K (.ref f13) = true)
    (e13 : cd13 = .ref q13) (u13 : K.lookup q13 = some ⟨ge13, gd13, .fields gv13, gs13⟩) (v13t : gv13[11]? = some (.ref P13)) (n13 : K.lookup P13 = none)
    (a14 : PySem.W.nsIn K mainGlobals "turn_houses" = some (some (.ref f14))) (l14 : K.lookup f14 = some ⟨oc14, od14, .func (PySem.W.fnOf "turn_houses" "turn_houses" (defArgs s_turn_houses) (defBody s_turn_houses) (defScope s_turn_houses) .none kV14 dc14 pm14 an14 cd14 ct14), sl14⟩) (c14 : PySem.W.codeIn K cd14 "turn_houses" = true) (k14 : PySem.W.keepIn K (.ref f14) = true)
    (a15 : PySem.W.nsIn K mainGlobals "walk_houses" = some (some (.ref f15))) (l15 : K.lookup f15 = some ⟨oc15, od15, .func (PySem.W.fnOf "walk_houses" "walk_houses" (defArgs s_walk_houses) (defBody s_walk_houses) (defScope s_walk_houses) .none kV15 dc15 pm15 an15 cd15 ct15), sl15⟩) (c15 : PySem.W.codeIn K cd15 "walk_houses" = true) (k15 : PySem.W.keepIn K (.ref f15) = true)
    (a16 : PySem.W.nsIn K mainGlobals "standing" = some (some (.ref f16))) (l16 : K.lookup f16 = some ⟨oc16, od16, .func (PySem.W.fnOf "standing" "standing" (defArgs s_standing) (defBody s_standing) (defScope s_standing) .none kV16 dc16 pm16 an16 cd16 ct16), sl16⟩) (c16 : PySem.W.codeIn K cd16 "standing" = true) (k16 : PySem.W.keepIn K (.ref f16) = true)
    (a17 : PySem.W.nsIn K mainGlobals "sayings" = some (some (.ref f17))) (l17 : K.lookup f17 = some ⟨oc17, od17, .func (PySem.W.fnOf "sayings" "sayings" (defArgs s_sayings) (defBody s_sayings) (defScope s_sayings) .none kV17 dc17 pm17 an17 cd17 ct17), sl17⟩) (c17 : PySem.W.codeIn K cd17 "sayings" = true) (k17 : PySem.W.keepIn K (.ref f17) = true)
    (a18 : PySem.W.nsIn K mainGlobals "standing_names" = some (some (.ref f18))) (l18 : K.lookup f18 = some ⟨oc18, od18, .func (PySem.W.fnOf "standing_names" "standing_names" (defArgs s_standing_names) (defBody s_standing_names) (defScope s_standing_names) .none kV18 dc18 pm18 an18 cd18 ct18), sl18⟩) (c18 : PySem.W.codeIn K cd18 "standing_names" = true) (k18 : PySem.W.keepIn K (.ref f18) = true)
    (e18 : cd18 = .ref q18) (u18 : K.lookup q18 = some ⟨ge18, gd18, .fields gv18, gs18⟩) (v18t : gv18[11]? = some (.ref P18)) (n18 : K.lookup P18 = none)
    (a19 : PySem.W.nsIn K mainGlobals "ranks" = some (some (.ref f19))) (l19 : K.lookup f19 = some ⟨oc19, od19, .func (PySem.W.fnOf "ranks" "ranks" (defArgs s_ranks) (defBody s_ranks) (defScope s_ranks) .none kV19 dc19 pm19 an19 cd19 ct19), sl19⟩) (c19 : PySem.W.codeIn K cd19 "ranks" = true) (k19 : PySem.W.keepIn K (.ref f19) = true)
    (a20 : PySem.W.nsIn K mainGlobals "first_of" = some (some (.ref f20))) (l20 : K.lookup f20 = some ⟨oc20, od20, .func (PySem.W.fnOf "first_of" "first_of" (defArgs s_first_of) (defBody s_first_of) (defScope s_first_of) .none kV20 dc20 pm20 an20 cd20 ct20), sl20⟩) (c20 : PySem.W.codeIn K cd20 "first_of" = true) (k20 : PySem.W.keepIn K (.ref f20) = true)
    (a21 : PySem.W.nsIn K mainGlobals "first_place" = some (some (.ref f21))) (l21 : K.lookup f21 = some ⟨oc21, od21, .func (PySem.W.fnOf "first_place" "first_place" (defArgs s_first_place) (defBody s_first_place) (defScope s_first_place) .none kV21 dc21 pm21 an21 cd21 ct21), sl21⟩) (c21 : PySem.W.codeIn K cd21 "first_place" = true) (k21 : PySem.W.keepIn K (.ref f21) = true)
    (a22 : PySem.W.nsIn K mainGlobals "order_fault" = some (some (.ref f22))) (l22 : K.lookup f22 = some ⟨oc22, od22, .func (PySem.W.fnOf "order_fault" "order_fault" (defArgs s_order_fault) (defBody s_order_fault) (defScope s_order_fault) .none kV22 dc22 pm22 an22 cd22 ct22), sl22⟩) (c22 : PySem.W.codeIn K cd22 "order_fault" = true) (k22 : PySem.W.keepIn K (.ref f22) = true)
    (e22 : cd22 = .ref q22) (u22 : K.lookup q22 = some ⟨ge22, gd22, .fields gv22, gs22⟩) (v22t : gv22[11]? = some (.ref P22)) (n22 : K.lookup P22 = none)
    (a23 : PySem.W.nsIn K mainGlobals "ring_fault" = some (some (.ref f23))) (l23 : K.lookup f23 = some ⟨oc23, od23, .func (PySem.W.fnOf "ring_fault" "ring_fault" (defArgs s_ring_fault) (defBody s_ring_fault) (defScope s_ring_fault) .none kV23 dc23 pm23 an23 cd23 ct23), sl23⟩) (c23 : PySem.W.codeIn K cd23 "ring_fault" = true) (k23 : PySem.W.keepIn K (.ref f23) = true)
    (e23 : cd23 = .ref q23) (u23 : K.lookup q23 = some ⟨ge23, gd23, .fields gv23, gs23⟩) (v23t : gv23[11]? = some (.ref P23)) (n23 : K.lookup P23 = none)
    (a24 : PySem.W.nsIn K mainGlobals "lets_order" = some (some (.ref f24))) (l24 : K.lookup f24 = some ⟨oc24, od24, .func (PySem.W.fnOf "lets_order" "lets_order" (defArgs s_lets_order) (defBody s_lets_order) (defScope s_lets_order) .none kV24 dc24 pm24 an24 cd24 ct24), sl24⟩) (c24 : PySem.W.codeIn K cd24 "lets_order" = true) (k24 : PySem.W.keepIn K (.ref f24) = true)
    (a25 : PySem.W.nsIn K mainGlobals "lets_ring" = some (some (.ref f25))) (l25 : K.lookup f25 = some ⟨oc25, od25, .func (PySem.W.fnOf "lets_ring" "lets_ring" (defArgs s_lets_ring) (defBody s_lets_ring) (defScope s_lets_ring) .none kV25 dc25 pm25 an25 cd25 ct25), sl25⟩) (c25 : PySem.W.codeIn K cd25 "lets_ring" = true) (k25 : PySem.W.keepIn K (.ref f25) = true)
    (a26 : PySem.W.nsIn K mainGlobals "_law_feed" = some (some (.ref f26))) (l26 : K.lookup f26 = some ⟨oc26, od26, .func (PySem.W.fnOf "_law_feed" "_law_feed" (defArgs s_w_feed) (defBody s_w_feed) (defScope s_w_feed) .none kV26 dc26 pm26 an26 cd26 ct26), sl26⟩) (c26 : PySem.W.codeIn K cd26 "_law_feed" = true) (k26 : PySem.W.keepIn K (.ref f26) = true)
    (a27 : PySem.W.nsIn K mainGlobals "_law_draw" = some (some (.ref f27))) (l27 : K.lookup f27 = some ⟨oc27, od27, .func (PySem.W.fnOf "_law_draw" "_law_draw" (defArgs s_w_draw) (defBody s_w_draw) (defScope s_w_draw) .none kV27 dc27 pm27 an27 cd27 ct27), sl27⟩) (c27 : PySem.W.codeIn K cd27 "_law_draw" = true) (k27 : PySem.W.keepIn K (.ref f27) = true)
    (a28 : PySem.W.nsIn K mainGlobals "_law_names" = some (some (.ref f28))) (l28 : K.lookup f28 = some ⟨oc28, od28, .func (PySem.W.fnOf "_law_names" "_law_names" (defArgs s_w_names) (defBody s_w_names) (defScope s_w_names) .none kV28 dc28 pm28 an28 cd28 ct28), sl28⟩) (c28 : PySem.W.codeIn K cd28 "_law_names" = true) (k28 : PySem.W.keepIn K (.ref f28) = true)
    (a29 : PySem.W.nsIn K mainGlobals "_law_page" = some (some (.ref f29))) (l29 : K.lookup f29 = some ⟨oc29, od29, .func (PySem.W.fnOf "_law_page" "_law_page" (defArgs s_w_page) (defBody s_w_page) (defScope s_w_page) .none kV29 dc29 pm29 an29 cd29 ct29), sl29⟩) (c29 : PySem.W.codeIn K cd29 "_law_page" = true) (k29 : PySem.W.keepIn K (.ref f29) = true)
    (a30 : PySem.W.nsIn K mainGlobals "_law_book" = some (some (.ref f30))) (l30 : K.lookup f30 = some ⟨oc30, od30, .func (PySem.W.fnOf "_law_book" "_law_book" (defArgs s_w_book) (defBody s_w_book) (defScope s_w_book) .none kV30 dc30 pm30 an30 cd30 ct30), sl30⟩) (c30 : PySem.W.codeIn K cd30 "_law_book" = true) (k30 : PySem.W.keepIn K (.ref f30) = true)
    (a31 : PySem.W.nsIn K mainGlobals "_law_let" = some (some (.ref f31))) (l31 : K.lookup f31 = some ⟨oc31, od31, .func (PySem.W.fnOf "_law_let" "_law_let" (defArgs s_w_let) (defBody s_w_let) (defScope s_w_let) .none kV31 dc31 pm31 an31 cd31 ct31), sl31⟩) (c31 : PySem.W.codeIn K cd31 "_law_let" = true) (k31 : PySem.W.keepIn K (.ref f31) = true)
    (a32 : PySem.W.nsIn K mainGlobals "_law_day_right" = some (some (.ref f32))) (l32 : K.lookup f32 = some ⟨oc32, od32, .func (PySem.W.fnOf "_law_day_right" "_law_day_right" (defArgs s_w_day_right) (defBody s_w_day_right) (defScope s_w_day_right) .none kV32 dc32 pm32 an32 cd32 ct32), sl32⟩) (c32 : PySem.W.codeIn K cd32 "_law_day_right" = true) (k32 : PySem.W.keepIn K (.ref f32) = true)
    (a33 : PySem.W.nsIn K mainGlobals "_law_gone_up_right" = some (some (.ref f33))) (l33 : K.lookup f33 = some ⟨oc33, od33, .func (PySem.W.fnOf "_law_gone_up_right" "_law_gone_up_right" (defArgs s_w_gone_up_right) (defBody s_w_gone_up_right) (defScope s_w_gone_up_right) .none kV33 dc33 pm33 an33 cd33 ct33), sl33⟩) (c33 : PySem.W.codeIn K cd33 "_law_gone_up_right" = true) (k33 : PySem.W.keepIn K (.ref f33) = true)
    (a34 : PySem.W.nsIn K mainGlobals "law" = some (some (.ref f34))) (l34 : K.lookup f34 = some ⟨oc34, od34, .func (PySem.W.fnOf "law" "law" (defArgs s_law) (defBody s_law) (defScope s_law) .none kV34 dc34 pm34 an34 cd34 ct34), sl34⟩) (c34 : PySem.W.codeIn K cd34 "law" = true) (k34 : PySem.W.keepIn K (.ref f34) = true)
    (k1a : PySem.W.nsIn K mainGlobals "CardsError" = some (some (.ref kC1)))
    (k2a : PySem.W.nsIn K mainGlobals "NoPaper" = some (some (.ref kC2)))
    (k2b : K.lookup kC2 = some (excClassObj knm2 kq2 kC2 kN2 kbs2 kbm2 true ksn2 ksu2 kab2 kco2 kdd2 km02 km12 km22 km32 km52 "ValueError.__new__"))
    (k2c : PySem.HandSPX.refsVE kbm2 = true)
    (k2d : PySem.W.findIn K (.ref kC2) "__setattr__" = some (some (.builtin "object.__setattr__")))
    (k2e : PySem.W.findIn K (.ref kC2) "__getattribute__" = some (some (.builtin "BaseException.__getattribute__")))
    (k2f : PySem.W.findIn K (.ref kC2) "__getattr__" = some none)
    (k2g : PySem.W.findIn K (.ref kC2) "__init__" = some (some (.ref kf2)))
    (k2h : PySem.W.typeIn K (.ref kf2) = some (.type "function"))
    (k2i : K.lookup kf2 = some ⟨koc2, kod2, .func (PySem.W.fnOf "__init__" "NoPaper.__init__" (defArgs s_NoPaper) (defBody s_NoPaper) (defScope s_NoPaper) .none kkV2 kdc2 kpm2 kan2 kcd2 kct2), ksl2⟩)
    (k2j : PySem.W.codeIn K kcd2 "NoPaper.__init__" = true)
    (k2k : PySem.W.keepIn K (.ref kf2) = true)
    (k2l : PySem.W.keepIn K (.ref kC2) = true)
    (k2m : PySem.W.subIn K (.ref kC2) (.type "BaseException") = some true)
    (k2n : PySem.W.typeIn K (.ref kC2) = some (.type "type"))
    (k2o : PySem.W.hasDictIn K kC2 = true)
    (k2p : PySem.W.kitOne K (.ref kC2) (.type "ValueError") = some true)
    (k2q : PySem.W.kitOne K (.ref kC2) (.ref kC2) = some true)
    (k2r : PySem.W.exmOne K (.ref kC2) (.ref kC1) = some true)
    (k2u : PySem.W.exmOne K (.ref kC2) (.ref kC2) = some true)
    (k2s0 : PySem.W.findIn K (.ref kC2) "word" = some none)
    (k2s1 : PySem.W.findIn K (.ref kC2) "path" = some none)
    (k3a : PySem.W.nsIn K mainGlobals "NoHouse" = some (some (.ref kC3)))
    (k3b : K.lookup kC3 = some (excClassObj knm3 kq3 kC3 kN3 kbs3 kbm3 true ksn3 ksu3 kab3 kco3 kdd3 km03 km13 km23 km33 km53 "ValueError.__new__"))
    (k3c : PySem.HandSPX.refsVE kbm3 = true)
    (k3d : PySem.W.findIn K (.ref kC3) "__setattr__" = some (some (.builtin "object.__setattr__")))
    (k3e : PySem.W.findIn K (.ref kC3) "__getattribute__" = some (some (.builtin "BaseException.__getattribute__")))
    (k3f : PySem.W.findIn K (.ref kC3) "__getattr__" = some none)
    (k3g : PySem.W.findIn K (.ref kC3) "__init__" = some (some (.ref kf3)))
    (k3h : PySem.W.typeIn K (.ref kf3) = some (.type "function"))
    (k3i : K.lookup kf3 = some ⟨koc3, kod3, .func (PySem.W.fnOf "__init__" "NoHouse.__init__" (defArgs s_NoHouse) (defBody s_NoHouse) (defScope s_NoHouse) .none kkV3 kdc3 kpm3 kan3 kcd3 kct3), ksl3⟩)
    (k3j : PySem.W.codeIn K kcd3 "NoHouse.__init__" = true)
    (k3k : PySem.W.keepIn K (.ref kf3) = true)
    (k3l : PySem.W.keepIn K (.ref kC3) = true)
    (k3m : PySem.W.subIn K (.ref kC3) (.type "BaseException") = some true)
    (k3n : PySem.W.typeIn K (.ref kC3) = some (.type "type"))
    (k3o : PySem.W.hasDictIn K kC3 = true)
    (k3p : PySem.W.kitOne K (.ref kC3) (.type "ValueError") = some true)
    (k3q : PySem.W.kitOne K (.ref kC3) (.ref kC3) = some true)
    (k3r : PySem.W.exmOne K (.ref kC3) (.ref kC1) = some true)
    (k3s0 : PySem.W.findIn K (.ref kC3) "name" = some none)
    (k4a : PySem.W.nsIn K mainGlobals "NoOrder" = some (some (.ref kC4)))
    (k4b : K.lookup kC4 = some (excClassObj knm4 kq4 kC4 kN4 kbs4 kbm4 true ksn4 ksu4 kab4 kco4 kdd4 km04 km14 km24 km34 km54 "ValueError.__new__"))
    (k4c : PySem.HandSPX.refsVE kbm4 = true)
    (k4d : PySem.W.findIn K (.ref kC4) "__setattr__" = some (some (.builtin "object.__setattr__")))
    (k4e : PySem.W.findIn K (.ref kC4) "__getattribute__" = some (some (.builtin "BaseException.__getattribute__")))
    (k4f : PySem.W.findIn K (.ref kC4) "__getattr__" = some none)
    (k4g : PySem.W.findIn K (.ref kC4) "__init__" = some (some (.ref kf4)))
    (k4h : PySem.W.typeIn K (.ref kf4) = some (.type "function"))
    (k4i : K.lookup kf4 = some ⟨koc4, kod4, .func (PySem.W.fnOf "__init__" "NoOrder.__init__" (defArgs s_NoOrder) (defBody s_NoOrder) (defScope s_NoOrder) .none kkV4 kdc4 kpm4 kan4 kcd4 kct4), ksl4⟩)
    (k4j : PySem.W.codeIn K kcd4 "NoOrder.__init__" = true)
    (k4k : PySem.W.keepIn K (.ref kf4) = true)
    (k4l : PySem.W.keepIn K (.ref kC4) = true)
    (k4m : PySem.W.subIn K (.ref kC4) (.type "BaseException") = some true)
    (k4n : PySem.W.typeIn K (.ref kC4) = some (.type "type"))
    (k4o : PySem.W.hasDictIn K kC4 = true)
    (k4p : PySem.W.kitOne K (.ref kC4) (.type "ValueError") = some true)
    (k4q : PySem.W.kitOne K (.ref kC4) (.ref kC4) = some true)
    (k4r : PySem.W.exmOne K (.ref kC4) (.ref kC1) = some true)
    (k4s0 : PySem.W.findIn K (.ref kC4) "ring" = some none)
    (v1 : PySem.W.nsIn K mainGlobals "KINDS" = some (some (.ref av1)))
    (x1 : K.lookup av1 = some ⟨we1, wd1, .seq wi1 wn1, ws1⟩) (y1t : we1 = .type "tuple") (y1z : wi1.size ≤ sizeLine) (y1v : Vals [.str "house", .str "part", .str "join", .str "home", .str "mourn", .str "ahead", .str "card", .str "visit"] wi1.toList) (y1d : wd1 = none)
    (v2 : PySem.W.nsIn K mainGlobals "FORMS" = some (some (.ref av2)))
    (x2 : K.lookup av2 = some ⟨.type "dict", none, .dict es2 en2, #[]⟩) (x2k : PySem.W.KeysLit w.params es2.toList)
    (n2_0d : PySem.W.nsIn K av2 "house" = some (some (.ref r2_0))) (x2_0 : K.lookup r2_0 = some ⟨we2_0, wd2_0, .seq wi2_0 wn2_0, ws2_0⟩) (y2_0t : we2_0 = .type "tuple") (y2_0z : wi2_0.size ≤ sizeLine) (y2_0v : Vals [.str "name", .str "home"] wi2_0.toList)
    (n2_1d : PySem.W.nsIn K av2 "part" = some (some (.ref r2_1))) (x2_1 : K.lookup r2_1 = some ⟨we2_1, wd2_1, .seq wi2_1 wn2_1, ws2_1⟩) (y2_1t : we2_1 = .type "tuple") (y2_1z : wi2_1.size ≤ sizeLine) (y2_1v : Vals [.str "name", .str "name", .str "home"] wi2_1.toList)
    (n2_2d : PySem.W.nsIn K av2 "join" = some (some (.ref r2_2))) (x2_2 : K.lookup r2_2 = some ⟨we2_2, wd2_2, .seq wi2_2 wn2_2, ws2_2⟩) (y2_2t : we2_2 = .type "tuple") (y2_2z : wi2_2.size ≤ sizeLine) (y2_2v : Vals [.str "name", .str "name"] wi2_2.toList)
    (n2_3d : PySem.W.nsIn K av2 "home" = some (some (.ref r2_3))) (x2_3 : K.lookup r2_3 = some ⟨we2_3, wd2_3, .seq wi2_3 wn2_3, ws2_3⟩) (y2_3t : we2_3 = .type "tuple") (y2_3z : wi2_3.size ≤ sizeLine) (y2_3v : Vals [.str "name", .str "home"] wi2_3.toList)
    (n2_4d : PySem.W.nsIn K av2 "mourn" = some (some (.ref r2_4))) (x2_4 : K.lookup r2_4 = some ⟨we2_4, wd2_4, .seq wi2_4 wn2_4, ws2_4⟩) (y2_4t : we2_4 = .type "tuple") (y2_4z : wi2_4.size ≤ sizeLine) (y2_4v : Vals [.str "name", .str "many"] wi2_4.toList)
    (n2_5d : PySem.W.nsIn K av2 "ahead" = some (some (.ref r2_5))) (x2_5 : K.lookup r2_5 = some ⟨we2_5, wd2_5, .seq wi2_5 wn2_5, ws2_5⟩) (y2_5t : we2_5 = .type "tuple") (y2_5z : wi2_5.size ≤ sizeLine) (y2_5v : Vals [.str "name", .str "name"] wi2_5.toList)
    (n2_6d : PySem.W.nsIn K av2 "card" = some (some (.ref r2_6))) (x2_6 : K.lookup r2_6 = some ⟨we2_6, wd2_6, .seq wi2_6 wn2_6, ws2_6⟩) (y2_6t : we2_6 = .type "tuple") (y2_6z : wi2_6.size ≤ sizeLine) (y2_6v : Vals [.str "name", .str "name"] wi2_6.toList)
    (n2_7d : PySem.W.nsIn K av2 "visit" = some (some (.ref r2_7))) (x2_7 : K.lookup r2_7 = some ⟨we2_7, wd2_7, .seq wi2_7 wn2_7, ws2_7⟩) (y2_7t : we2_7 = .type "tuple") (y2_7z : wi2_7.size ≤ sizeLine) (y2_7v : Vals [.str "name", .str "name"] wi2_7.toList)
    (v3 : PySem.W.nsIn K mainGlobals "COMING" = some (some (.ref av3)))
    (x3 : K.lookup av3 = some ⟨we3, wd3, .seq wi3 wn3, ws3⟩) (y3t : we3 = .type "tuple") (y3z : wi3.size ≤ sizeLine) (y3v : Vals [.str "house", .str "part"] wi3.toList) (y3d : wd3 = none)
    (z1 : PySem.W.nsIn K mainGlobals "all" = some none)
    (z2 : PySem.W.nsIn K mainGlobals "any" = some none)
    (z3 : PySem.W.nsIn K mainGlobals "isinstance" = some none)
    (z4 : PySem.W.nsIn K mainGlobals "len" = some none)
    (z5 : PySem.W.nsIn K mainGlobals "list" = some none)
    (z6 : PySem.W.nsIn K mainGlobals "range" = some none)
    (z7 : PySem.W.nsIn K mainGlobals "sorted" = some none)
    (z8 : PySem.W.nsIn K mainGlobals "tuple" = some none)
    (z9 : PySem.W.nsIn K mainGlobals "zip" = some none)
    (r3 : (recsOf q).find? (fun e => e.name == ("is_free" : Str)) = some d3)
    (r8 : (recsOf q).find? (fun e => e.name == ("names_of" : Str)) = some d8)
    (r12 : (recsOf q).find? (fun e => e.name == ("up_to" : Str)) = some d12)
    (r13 : (recsOf q).find? (fun e => e.name == ("can_be_done" : Str)) = some d13)
    (r18 : (recsOf q).find? (fun e => e.name == ("standing_names" : Str)) = some d18)
    (r22 : (recsOf q).find? (fun e => e.name == ("order_fault" : Str)) = some d22)
    (r23 : (recsOf q).find? (fun e => e.name == ("ring_fault" : Str)) = some d23)
    (x22_3 : P22 ≠ P3)
    (x23_3 : P23 ≠ P3)
    (x22_8 : P22 ≠ P8)
    (x23_8 : P23 ≠ P8)
    (x22_12 : P22 ≠ P12)
    (x23_12 : P23 ≠ P12)
    (x22_13 : P22 ≠ P13)
    (x23_13 : P23 ≠ P13)
    (x22_18 : P22 ≠ P18)
    (x23_18 : P23 ≠ P18)
    (x22_23 : P22 ≠ P23) :
    LamX.LawAtS l w K CX0 13 63 "_law_script" mg fa h := by
  have e := hfa.symm.trans (PySem.W.mg_of X G a34)
  cases e
  have F1 := fun_mk (st := s_ways_from) l1 c1 k1
  have F2 := fun_mk (st := s_goes_ahead) l2 c2 k2
  have F3 := GE.funC_mk (st := s_is_free) l3 e3 c3 k3
  have F4 := fun_mk (st := s_any_ring) l4 c4 k4
  have F5 := fun_mk (st := s_ranked) l5 c5 k5
  have F6 := fun_mk (st := s_page_day) l6 c6 k6
  have F7 := fun_mk (st := s_page_kind) l7 c7 k7
  have F8 := GE.funC_mk (st := s_names_of) l8 e8 c8 k8
  have F9 := fun_mk (st := s_page_place) l9 c9 k9
  have F10 := fun_mk (st := s_in_order) l10 c10 k10
  have F11 := fun_mk (st := s_with_page) l11 c11 k11
  have F12 := GE.funC_mk (st := s_up_to) l12 e12 c12 k12
  have F13 := GE.funC_mk (st := s_can_be_done) l13 e13 c13 k13
  have F14 := fun_mk (st := s_turn_houses) l14 c14 k14
  have F15 := fun_mk (st := s_walk_houses) l15 c15 k15
  have F16 := fun_mk (st := s_standing) l16 c16 k16
  have F17 := fun_mk (st := s_sayings) l17 c17 k17
  have F18 := GE.funC_mk (st := s_standing_names) l18 e18 c18 k18
  have F19 := fun_mk (st := s_ranks) l19 c19 k19
  have F20 := fun_mk (st := s_first_of) l20 c20 k20
  have F21 := fun_mk (st := s_first_place) l21 c21 k21
  have F22 := GE.funC_mk (st := s_order_fault) l22 e22 c22 k22
  have F23 := GE.funC_mk (st := s_ring_fault) l23 e23 c23 k23
  have F24 := fun_mk (st := s_lets_order) l24 c24 k24
  have F25 := fun_mk (st := s_lets_ring) l25 c25 k25
  have F26 := fun_mk (st := s_w_feed) l26 c26 k26
  have F27 := fun_mk (st := s_w_draw) l27 c27 k27
  have F28 := fun_mk (st := s_w_names) l28 c28 k28
  have F29 := fun_mk (st := s_w_page) l29 c29 k29
  have F30 := fun_mk (st := s_w_book) l30 c30 k30
  have F31 := fun_mk (st := s_w_let) l31 c31 k31
  have F32 := fun_mk (st := s_w_day_right) l32 c32 k32
  have F33 := fun_mk (st := s_w_gone_up_right) l33 c33 k33
  have F34 := fun_mk (st := s_law) l34 c34 k34
  have KF2 := fun_mk (st := s_NoPaper) k2i k2j k2k
  have KF3 := fun_mk (st := s_NoHouse) k3i k3j k3k
  have KF4 := fun_mk (st := s_NoOrder) k4i k4j k4k
  let T : Tx K mg w := { f_ways_from := f1, d_ways_from := _, F_ways_from := F1, g_ways_from := PySem.W.mg_of X G a1, b_ways_from := (F1.binds fun _ _ _ _ _ _ us hl => match us, hl with | [_, _], _ => rfl), f_goes_ahead := f2, d_goes_ahead := _, F_goes_ahead := F2, g_goes_ahead := PySem.W.mg_of X G a2, b_goes_ahead := (F2.binds fun _ _ _ _ _ _ us hl => match us, hl with | [_, _, _, _], _ => rfl), k_is_free := q3, P_is_free := P3, f_is_free := f3, d_is_free := _, F_is_free := F3, g_is_free := PySem.W.mg_of X G a3, b_is_free := (F3.toFun.binds fun _ _ _ _ _ _ us hl => match us, hl with | [_, _, _], _ => rfl), f_any_ring := f4, d_any_ring := _, F_any_ring := F4, g_any_ring := PySem.W.mg_of X G a4, b_any_ring := (F4.binds fun _ _ _ _ _ _ us hl => match us, hl with | [_, _], _ => rfl), f_ranked := f5, d_ranked := _, F_ranked := F5, g_ranked := PySem.W.mg_of X G a5, b_ranked := (F5.binds fun _ _ _ _ _ _ us hl => match us, hl with | [_, _], _ => rfl), f_page_day := f6, d_page_day := _, F_page_day := F6, g_page_day := PySem.W.mg_of X G a6, b_page_day := (F6.binds fun _ _ _ _ _ _ us hl => match us, hl with | [_], _ => rfl), f_page_kind := f7, d_page_kind := _, F_page_kind := F7, g_page_kind := PySem.W.mg_of X G a7, b_page_kind := (F7.binds fun _ _ _ _ _ _ us hl => match us, hl with | [_], _ => rfl), k_names_of := q8, P_names_of := P8, f_names_of := f8, d_names_of := _, F_names_of := F8, g_names_of := PySem.W.mg_of X G a8, b_names_of := (F8.toFun.binds fun _ _ _ _ _ _ us hl => match us, hl with | [_], _ => rfl), f_page_place := f9, d_page_place := _, F_page_place := F9, g_page_place := PySem.W.mg_of X G a9, b_page_place := (F9.binds fun _ _ _ _ _ _ us hl => match us, hl with | [_], _ => rfl), f_in_order := f10, d_in_order := _, F_in_order := F10, g_in_order := PySem.W.mg_of X G a10, b_in_order := (F10.binds fun _ _ _ _ _ _ us hl => match us, hl with | [_], _ => rfl), f_with_page := f11, d_with_page := _, F_with_page := F11, g_with_page := PySem.W.mg_of X G a11, b_with_page := (F11.binds fun _ _ _ _ _ _ us hl => match us, hl with | [_, _], _ => rfl), k_up_to := q12, P_up_to := P12, f_up_to := f12, d_up_to := _, F_up_to := F12, g_up_to := PySem.W.mg_of X G a12, b_up_to := (F12.toFun.binds fun _ _ _ _ _ _ us hl => match us, hl with | [_, _], _ => rfl), k_can_be_done := q13, P_can_be_done := P13, f_can_be_done := f13, d_can_be_done := _, F_can_be_done := F13, g_can_be_done := PySem.W.mg_of X G a13, b_can_be_done := (F13.toFun.binds fun _ _ _ _ _ _ us hl => match us, hl with | [_, _, _], _ => rfl), f_turn_houses := f14, d_turn_houses := _, F_turn_houses := F14, g_turn_houses := PySem.W.mg_of X G a14, b_turn_houses := (F14.binds fun _ _ _ _ _ _ us hl => match us, hl with | [_, _, _], _ => rfl), f_walk_houses := f15, d_walk_houses := _, F_walk_houses := F15, g_walk_houses := PySem.W.mg_of X G a15, b_walk_houses := (F15.binds fun _ _ _ _ _ _ us hl => match us, hl with | [_, _], _ => rfl), f_standing := f16, d_standing := _, F_standing := F16, g_standing := PySem.W.mg_of X G a16, b_standing := (F16.binds fun _ _ _ _ _ _ us hl => match us, hl with | [_, _], _ => rfl), f_sayings := f17, d_sayings := _, F_sayings := F17, g_sayings := PySem.W.mg_of X G a17, b_sayings := (F17.binds fun _ _ _ _ _ _ us hl => match us, hl with | [_, _], _ => rfl), k_standing_names := q18, P_standing_names := P18, f_standing_names := f18, d_standing_names := _, F_standing_names := F18, g_standing_names := PySem.W.mg_of X G a18, b_standing_names := (F18.toFun.binds fun _ _ _ _ _ _ us hl => match us, hl with | [_, _], _ => rfl), f_ranks := f19, d_ranks := _, F_ranks := F19, g_ranks := PySem.W.mg_of X G a19, b_ranks := (F19.binds fun _ _ _ _ _ _ us hl => match us, hl with | [_, _], _ => rfl), f_first_of := f20, d_first_of := _, F_first_of := F20, g_first_of := PySem.W.mg_of X G a20, b_first_of := (F20.binds fun _ _ _ _ _ _ us hl => match us, hl with | [_, _, _], _ => rfl), f_first_place := f21, d_first_place := _, F_first_place := F21, g_first_place := PySem.W.mg_of X G a21, b_first_place := (F21.binds fun _ _ _ _ _ _ us hl => match us, hl with | [_, _], _ => rfl), k_order_fault := q22, P_order_fault := P22, f_order_fault := f22, d_order_fault := _, F_order_fault := F22, g_order_fault := PySem.W.mg_of X G a22, b_order_fault := (F22.toFun.binds fun _ _ _ _ _ _ us hl => match us, hl with | [_, _, _], _ => rfl), k_ring_fault := q23, P_ring_fault := P23, f_ring_fault := f23, d_ring_fault := _, F_ring_fault := F23, g_ring_fault := PySem.W.mg_of X G a23, b_ring_fault := (F23.toFun.binds fun _ _ _ _ _ _ us hl => match us, hl with | [_, _], _ => rfl), f_lets_order := f24, d_lets_order := _, F_lets_order := F24, g_lets_order := PySem.W.mg_of X G a24, b_lets_order := (F24.binds fun _ _ _ _ _ _ us hl => match us, hl with | [_, _, _], _ => rfl), f_lets_ring := f25, d_lets_ring := _, F_lets_ring := F25, g_lets_ring := PySem.W.mg_of X G a25, b_lets_ring := (F25.binds fun _ _ _ _ _ _ us hl => match us, hl with | [_, _, _], _ => rfl), f_w_feed := f26, d_w_feed := _, F_w_feed := F26, g_w_feed := PySem.W.mg_of X G a26, b_w_feed := (F26.binds fun _ _ _ _ _ _ us hl => match us, hl with | [_], _ => rfl), f_w_draw := f27, d_w_draw := _, F_w_draw := F27, g_w_draw := PySem.W.mg_of X G a27, b_w_draw := (F27.binds fun _ _ _ _ _ _ us hl => match us, hl with | [_, _], _ => rfl), f_w_names := f28, d_w_names := _, F_w_names := F28, g_w_names := PySem.W.mg_of X G a28, b_w_names := (F28.binds fun _ _ _ _ _ _ us hl => match us, hl with | [_, _], _ => rfl), f_w_page := f29, d_w_page := _, F_w_page := F29, g_w_page := PySem.W.mg_of X G a29, b_w_page := (F29.binds fun _ _ _ _ _ _ us hl => match us, hl with | [_, _, _], _ => rfl), f_w_book := f30, d_w_book := _, F_w_book := F30, g_w_book := PySem.W.mg_of X G a30, b_w_book := (F30.binds fun _ _ _ _ _ _ us hl => match us, hl with | [_, _, _], _ => rfl), f_w_let := f31, d_w_let := _, F_w_let := F31, g_w_let := PySem.W.mg_of X G a31, b_w_let := (F31.binds fun _ _ _ _ _ _ us hl => match us, hl with | [_, _, _], _ => rfl), f_w_day_right := f32, d_w_day_right := _, F_w_day_right := F32, g_w_day_right := PySem.W.mg_of X G a32, b_w_day_right := (F32.binds fun _ _ _ _ _ _ us hl => match us, hl with | [_, _, _, _], _ => rfl), f_w_gone_up_right := f33, d_w_gone_up_right := _, F_w_gone_up_right := F33, g_w_gone_up_right := PySem.W.mg_of X G a33, b_w_gone_up_right := (F33.binds fun _ _ _ _ _ _ us hl => match us, hl with | [_, _, _, _, _], _ => rfl), f_law := fa, d_law := _, F_law := F34, g_law := PySem.W.mg_of X G a34, b_law := (F34.binds fun _ _ _ _ _ _ us hl => match us, hl with | [_], _ => rfl), C_CardsError := kC1, gC_CardsError := PySem.W.mg_of X G k1a, C_NoPaper := kC2, gC_NoPaper := PySem.W.mg_of X G k2a, f_NoPaper := kf2, d_NoPaper := _, F_NoPaper := KF2, bi_NoPaper := (KF2.binds fun _ _ _ _ _ _ us hl => match us, hl with | [_, _, _], _ => rfl), oex_NoPaper := ⟨⟨_, _, _, _, _, _, _, _, _, _, _, _, _, _, _, k2b, k2c⟩, k2d, k2m, k2n, k2l⟩, xf_NoPaper := ⟨k2e, k2f, k2m, k2o⟩, ic_NoPaper := k2g, ti_NoPaper := k2h, kv_NoPaper := k2p, ks_NoPaper := k2q, te_NoPaper := k2r, tm_NoPaper := k2u, no_NoPaper_word := k2s0, no_NoPaper_path := k2s1, C_NoHouse := kC3, gC_NoHouse := PySem.W.mg_of X G k3a, f_NoHouse := kf3, d_NoHouse := _, F_NoHouse := KF3, bi_NoHouse := (KF3.binds fun _ _ _ _ _ _ us hl => match us, hl with | [_, _], _ => rfl), oex_NoHouse := ⟨⟨_, _, _, _, _, _, _, _, _, _, _, _, _, _, _, k3b, k3c⟩, k3d, k3m, k3n, k3l⟩, xf_NoHouse := ⟨k3e, k3f, k3m, k3o⟩, ic_NoHouse := k3g, ti_NoHouse := k3h, kv_NoHouse := k3p, ks_NoHouse := k3q, te_NoHouse := k3r, no_NoHouse_name := k3s0, C_NoOrder := kC4, gC_NoOrder := PySem.W.mg_of X G k4a, f_NoOrder := kf4, d_NoOrder := _, F_NoOrder := KF4, bi_NoOrder := (KF4.binds fun _ _ _ _ _ _ us hl => match us, hl with | [_, _], _ => rfl), oex_NoOrder := ⟨⟨_, _, _, _, _, _, _, _, _, _, _, _, _, _, _, k4b, k4c⟩, k4d, k4m, k4n, k4l⟩, xf_NoOrder := ⟨k4e, k4f, k4m, k4o⟩, ic_NoOrder := k4g, ti_NoOrder := k4h, kv_NoOrder := k4p, ks_NoOrder := k4q, te_NoOrder := k4r, no_NoOrder_ring := k4s0, a_KINDS := av1, c_KINDS := PySem.W.mg_of X G v1, w_KINDS := ⟨_, _, _, x1, y1t, rfl, y1z, y1v⟩, wn_KINDS := ⟨_, x1, y1t, y1d⟩, a_FORMS := av2, c_FORMS := PySem.W.mg_of X G v2, w_FORMS_house := ⟨r2_0, ⟨_, _, _, x2, x2k, n2_0d, rfl⟩, ⟨_, _, _, x2_0, y2_0t, rfl, y2_0z, y2_0v⟩⟩, w_FORMS_part := ⟨r2_1, ⟨_, _, _, x2, x2k, n2_1d, rfl⟩, ⟨_, _, _, x2_1, y2_1t, rfl, y2_1z, y2_1v⟩⟩, w_FORMS_join := ⟨r2_2, ⟨_, _, _, x2, x2k, n2_2d, rfl⟩, ⟨_, _, _, x2_2, y2_2t, rfl, y2_2z, y2_2v⟩⟩, w_FORMS_home := ⟨r2_3, ⟨_, _, _, x2, x2k, n2_3d, rfl⟩, ⟨_, _, _, x2_3, y2_3t, rfl, y2_3z, y2_3v⟩⟩, w_FORMS_mourn := ⟨r2_4, ⟨_, _, _, x2, x2k, n2_4d, rfl⟩, ⟨_, _, _, x2_4, y2_4t, rfl, y2_4z, y2_4v⟩⟩, w_FORMS_ahead := ⟨r2_5, ⟨_, _, _, x2, x2k, n2_5d, rfl⟩, ⟨_, _, _, x2_5, y2_5t, rfl, y2_5z, y2_5v⟩⟩, w_FORMS_card := ⟨r2_6, ⟨_, _, _, x2, x2k, n2_6d, rfl⟩, ⟨_, _, _, x2_6, y2_6t, rfl, y2_6z, y2_6v⟩⟩, w_FORMS_visit := ⟨r2_7, ⟨_, _, _, x2, x2k, n2_7d, rfl⟩, ⟨_, _, _, x2_7, y2_7t, rfl, y2_7z, y2_7v⟩⟩, a_COMING := av3, c_COMING := PySem.W.mg_of X G v3, w_COMING := ⟨_, _, _, x3, y3t, rfl, y3z, y3v⟩, wn_COMING := ⟨_, x3, y3t, y3d⟩, m_all := PySem.W.mg_none_of X G z1, m_any := PySem.W.mg_none_of X G z2, m_isinstance := PySem.W.mg_none_of X G z3, m_len := PySem.W.mg_none_of X G z4, m_list := PySem.W.mg_none_of X G z5, m_range := PySem.W.mg_none_of X G z6, m_sorted := PySem.W.mg_none_of X G z7, m_tuple := PySem.W.mg_none_of X G z8, m_zip := PySem.W.mg_none_of X G z9 }
  have h3 := tabs "is_free" _ _ _ r3 (GE.tabIn_of a3 l3 e3 u3 v3t)
  have h8 := tabs "names_of" _ _ _ r8 (GE.tabIn_of a8 l8 e8 u8 v8t)
  have h12 := tabs "up_to" _ _ _ r12 (GE.tabIn_of a12 l12 e12 u12 v12t)
  have h13 := tabs "can_be_done" _ _ _ r13 (GE.tabIn_of a13 l13 e13 u13 v13t)
  have h18 := tabs "standing_names" _ _ _ r18 (GE.tabIn_of a18 l18 e18 u18 v18t)
  have h22 := tabs "order_fault" _ _ _ r22 (GE.tabIn_of a22 l22 e22 u22 v22t)
  have h23 := tabs "ring_fault" _ _ _ r23 (GE.tabIn_of a23 l23 e23 u23 v23t)
  have B0 : ∀ base : Heap, (∀ p ∈ [(q3, P3), (q8, P8), (q12, P12), (q13, P13), (q18, P18), (q22, P22), (q23, P23)], LamX.TabB base mg p.1 p.2) → Tb T base := fun base hb => ⟨GE.tabB (hb (q3, P3) (by simp)), GE.tabB (hb (q8, P8) (by simp)), GE.tabB (hb (q12, P12) (by simp)), GE.tabB (hb (q13, P13) (by simp)), GE.tabB (hb (q18, P18) (by simp)), GE.tabB (hb (q22, P22) (by simp)), GE.tabB (hb (q23, P23) (by simp))⟩
  refine ⟨_, [(q3, P3), (q8, P8), (q12, P12), (q13, P13), (q18, P18), (q22, P22), (q23, P23)], spLaw T, fun p hp => by
      simp only [List.mem_cons, List.not_mem_nil, or_false] at hp
      rcases hp with rfl | rfl | rfl | rfl | rfl | rfl | rfl
      · exact h3.2
      · exact h8.2
      · exact h12.2
      · exact h13.2
      · exact h18.2
      · exact h22.2
      · exact h23.2, fun p hp => by
      simp only [List.mem_cons, List.not_mem_nil, or_false] at hp
      rcases hp with rfl | rfl | rfl | rfl | rfl | rfl | rfl
      · exact n3
      · exact n8
      · exact n12
      · exact n13
      · exact n18
      · exact n22
      · exact n23, fun p hp => by
      simp only [List.mem_cons, List.not_mem_nil, or_false] at hp
      rcases hp with rfl | rfl | rfl | rfl | rfl | rfl | rfl
      · exact h3.1
      · exact h8.1
      · exact h12.1
      · exact h13.1
      · exact h18.1
      · exact h22.1
      · exact h23.1, fun s v => .of_eq rfl, fun H a ns hl _ hH hS => ⟨a, ns, rfl, hS, hl, ⟨fun p hp => ?_, fun e he => ?_, fun p hp e he => ?_, fun e he e2 he2 z => ?_⟩, fun _ => rfl⟩, fun base _ _ hb => ok_law T (B0 base hb)⟩
  · have hp : p ∈ [P3, P8, P12, P13, P18] := hp
    simp only [List.mem_cons, List.not_mem_nil, or_false] at hp
    rcases hp with hp | hp | hp | hp | hp
    · rw [hp]; exact ⟨#[], hH (q3, P3) (by simp), True.intro⟩
    · rw [hp]; exact ⟨#[], hH (q8, P8) (by simp), True.intro⟩
    · rw [hp]; exact ⟨#[], hH (q12, P12) (by simp), True.intro⟩
    · rw [hp]; exact ⟨#[], hH (q13, P13) (by simp), True.intro⟩
    · rw [hp]; exact ⟨#[], hH (q18, P18) (by simp), True.intro⟩
  · have he : e ∈ [(P22, ("order_fault" : Str) ++ (".<locals>." : Str) ++ ("<lambda>" : Str)), (P23, ("ring_fault" : Str) ++ (".<locals>." : Str) ++ ("<lambda>" : Str))] := he
    simp only [List.mem_cons, List.not_mem_nil, or_false] at he
    rcases he with rfl | rfl
    · exact LamX.TabS.nil (hH (q22, P22) (by simp))
    · exact LamX.TabS.nil (hH (q23, P23) (by simp))
  · have hp : p ∈ [P3, P8, P12, P13, P18] := hp
    simp only [List.mem_cons, List.not_mem_nil, or_false] at hp
    have he : e ∈ [(P22, ("order_fault" : Str) ++ (".<locals>." : Str) ++ ("<lambda>" : Str)), (P23, ("ring_fault" : Str) ++ (".<locals>." : Str) ++ ("<lambda>" : Str))] := he
    simp only [List.mem_cons, List.not_mem_nil, or_false] at he
    rcases hp with hp | hp | hp | hp | hp <;> rcases he with rfl | rfl
    · rw [hp]; exact x22_3
    · rw [hp]; exact x23_3
    · rw [hp]; exact x22_8
    · rw [hp]; exact x23_8
    · rw [hp]; exact x22_12
    · rw [hp]; exact x23_12
    · rw [hp]; exact x22_13
    · rw [hp]; exact x23_13
    · rw [hp]; exact x22_18
    · rw [hp]; exact x23_18
  · have he : e ∈ [(P22, ("order_fault" : Str) ++ (".<locals>." : Str) ++ ("<lambda>" : Str)), (P23, ("ring_fault" : Str) ++ (".<locals>." : Str) ++ ("<lambda>" : Str))] := he
    simp only [List.mem_cons, List.not_mem_nil, or_false] at he
    have he2 : e2 ∈ [(P22, ("order_fault" : Str) ++ (".<locals>." : Str) ++ ("<lambda>" : Str)), (P23, ("ring_fault" : Str) ++ (".<locals>." : Str) ++ ("<lambda>" : Str))] := he2
    simp only [List.mem_cons, List.not_mem_nil, or_false] at he2
    rcases he with rfl | rfl <;> rcases he2 with rfl | rfl
    · rfl
    · exact absurd z x22_23
    · exact absurd z.symm x22_23
    · rfl
end L52
open PySem PySem.W PyProof.Rows
set_option maxHeartbeats 0 in
theorem PySem.Challenge.cw_cardsback_k52_whole_ranks_while_houses_j_holds : PySem.Challenge.rw_cardsback_k52_whole_ranks_while_houses_j.Holds := by
  w_on; o_law; k_head; (case hw => w_witness2)
  k_fill
  refine GE.walk_tabs (l := PySem.Challenge.rw_cardsback_k52_whole_ranks_while_houses_j) (n := 63) (k := 13) (x := "_law_script") (CX := fun _ => L2.CX0) rfl (by decide) rfl ⟨rfl, by decide, by decide⟩ (fun w h Y => PySem.W.km_in_of Y) ?F (fun _ _ _ _ _ h => h)
  case F =>
    intro w mg fa h KX G hmg tabs
    refine' L52.all_mk KX G hmg tabs ?a1 ?l1 ?c1 ?k1 ?a2 ?l2 ?c2 ?k2 ?a3 ?l3 ?c3 ?k3 ?e3 ?u3 ?v3t ?n3 ?a4 ?l4 ?c4 ?k4 ?a5 ?l5 ?c5 ?k5 ?a6 ?l6 ?c6 ?k6 ?a7 ?l7 ?c7 ?k7 ?a8 ?l8 ?c8 ?k8 ?e8 ?u8 ?v8t ?n8 ?a9 ?l9 ?c9 ?k9 ?a10 ?l10 ?c10 ?k10 ?a11 ?l11 ?c11 ?k11 ?a12 ?l12 ?c12 ?k12 ?e12 ?u12 ?v12t ?n12 ?a13 ?l13 ?c13 ?k13 ?e13 ?u13 ?v13t ?n13 ?a14 ?l14 ?c14 ?k14 ?a15 ?l15 ?c15 ?k15 ?a16 ?l16 ?c16 ?k16 ?a17 ?l17 ?c17 ?k17 ?a18 ?l18 ?c18 ?k18 ?e18 ?u18 ?v18t ?n18 ?a19 ?l19 ?c19 ?k19 ?a20 ?l20 ?c20 ?k20 ?a21 ?l21 ?c21 ?k21 ?a22 ?l22 ?c22 ?k22 ?e22 ?u22 ?v22t ?n22 ?a23 ?l23 ?c23 ?k23 ?e23 ?u23 ?v23t ?n23 ?a24 ?l24 ?c24 ?k24 ?a25 ?l25 ?c25 ?k25 ?a26 ?l26 ?c26 ?k26 ?a27 ?l27 ?c27 ?k27 ?a28 ?l28 ?c28 ?k28 ?a29 ?l29 ?c29 ?k29 ?a30 ?l30 ?c30 ?k30 ?a31 ?l31 ?c31 ?k31 ?a32 ?l32 ?c32 ?k32 ?a33 ?l33 ?c33 ?k33 ?a34 ?l34 ?c34 ?k34 ?k1a ?k2a ?k2b ?k2c ?k2d ?k2e ?k2f ?k2g ?k2h ?k2i ?k2j ?k2k ?k2l ?k2m ?k2n ?k2o ?k2p ?k2q ?k2r ?k2u ?k2s0 ?k2s1 ?k3a ?k3b ?k3c ?k3d ?k3e ?k3f ?k3g ?k3h ?k3i ?k3j ?k3k ?k3l ?k3m ?k3n ?k3o ?k3p ?k3q ?k3r ?k3s0 ?k4a ?k4b ?k4c ?k4d ?k4e ?k4f ?k4g ?k4h ?k4i ?k4j ?k4k ?k4l ?k4m ?k4n ?k4o ?k4p ?k4q ?k4r ?k4s0 ?v1 ?x1 ?y1t ?y1z ?y1v ?y1d ?v2 ?x2 ?x2k ?n2_0d ?x2_0 ?y2_0t ?y2_0z ?y2_0v ?n2_1d ?x2_1 ?y2_1t ?y2_1z ?y2_1v ?n2_2d ?x2_2 ?y2_2t ?y2_2z ?y2_2v ?n2_3d ?x2_3 ?y2_3t ?y2_3z ?y2_3v ?n2_4d ?x2_4 ?y2_4t ?y2_4z ?y2_4v ?n2_5d ?x2_5 ?y2_5t ?y2_5z ?y2_5v ?n2_6d ?x2_6 ?y2_6t ?y2_6z ?y2_6v ?n2_7d ?x2_7 ?y2_7t ?y2_7z ?y2_7v ?v3 ?x3 ?y3t ?y3z ?y3v ?y3d ?z1 ?z2 ?z3 ?z4 ?z5 ?z6 ?z7 ?z8 ?z9 ?r3 ?r8 ?r12 ?r13 ?r18 ?r22 ?r23 ?x22_3 ?x23_3 ?x22_8 ?x23_8 ?x22_12 ?x23_12 ?x22_13 ?x23_13 ?x22_18 ?x23_18 ?x22_23
    (case a1 => k_is); (case l1 => k_is); (case c1 => k_is); (case k1 => k_is); (case a2 => k_is); (case l2 => k_is); (case c2 => k_is); (case k2 => k_is); (case a3 => k_is); (case l3 => k_is); (case c3 => k_is); (case k3 => k_is); (case e3 => rfl); (case u3 => k_is); (case v3t => rfl); (case n3 => first | kernel_rfl | rfl | with_unfolding_all rfl); (case a4 => k_is); (case l4 => k_is); (case c4 => k_is); (case k4 => k_is); (case a5 => k_is); (case l5 => k_is); (case c5 => k_is); (case k5 => k_is); (case a6 => k_is); (case l6 => k_is); (case c6 => k_is); (case k6 => k_is); (case a7 => k_is); (case l7 => k_is); (case c7 => k_is); (case k7 => k_is); (case a8 => k_is); (case l8 => k_is); (case c8 => k_is); (case k8 => k_is); (case e8 => rfl); (case u8 => k_is); (case v8t => rfl); (case n8 => first | kernel_rfl | rfl | with_unfolding_all rfl); (case a9 => k_is); (case l9 => k_is); (case c9 => k_is); (case k9 => k_is); (case a10 => k_is); (case l10 => k_is); (case c10 => k_is); (case k10 => k_is); (case a11 => k_is); (case l11 => k_is); (case c11 => k_is); (case k11 => k_is); (case a12 => k_is); (case l12 => k_is); (case c12 => k_is); (case k12 => k_is); (case e12 => rfl); (case u12 => k_is); (case v12t => rfl); (case n12 => first | kernel_rfl | rfl | with_unfolding_all rfl); (case a13 => k_is); (case l13 => k_is); (case c13 => k_is); (case k13 => k_is); (case e13 => rfl); (case u13 => k_is); (case v13t => rfl); (case n13 => first | kernel_rfl | rfl | with_unfolding_all rfl); (case a14 => k_is); (case l14 => k_is); (case c14 => k_is); (case k14 => k_is); (case a15 => k_is); (case l15 => k_is); (case c15 => k_is); (case k15 => k_is); (case a16 => k_is); (case l16 => k_is); (case c16 => k_is); (case k16 => k_is); (case a17 => k_is); (case l17 => k_is); (case c17 => k_is); (case k17 => k_is); (case a18 => k_is); (case l18 => k_is); (case c18 => k_is); (case k18 => k_is); (case e18 => rfl); (case u18 => k_is); (case v18t => rfl); (case n18 => first | kernel_rfl | rfl | with_unfolding_all rfl); (case a19 => k_is); (case l19 => k_is); (case c19 => k_is); (case k19 => k_is); (case a20 => k_is); (case l20 => k_is); (case c20 => k_is); (case k20 => k_is); (case a21 => k_is); (case l21 => k_is); (case c21 => k_is); (case k21 => k_is); (case a22 => k_is); (case l22 => k_is); (case c22 => k_is); (case k22 => k_is); (case e22 => rfl); (case u22 => k_is); (case v22t => rfl); (case n22 => first | kernel_rfl | rfl | with_unfolding_all rfl); (case a23 => k_is); (case l23 => k_is); (case c23 => k_is); (case k23 => k_is); (case e23 => rfl); (case u23 => k_is); (case v23t => rfl); (case n23 => first | kernel_rfl | rfl | with_unfolding_all rfl); (case a24 => k_is); (case l24 => k_is); (case c24 => k_is); (case k24 => k_is); (case a25 => k_is); (case l25 => k_is); (case c25 => k_is); (case k25 => k_is); (case a26 => k_is); (case l26 => k_is); (case c26 => k_is); (case k26 => k_is); (case a27 => k_is); (case l27 => k_is); (case c27 => k_is); (case k27 => k_is); (case a28 => k_is); (case l28 => k_is); (case c28 => k_is); (case k28 => k_is); (case a29 => k_is); (case l29 => k_is); (case c29 => k_is); (case k29 => k_is); (case a30 => k_is); (case l30 => k_is); (case c30 => k_is); (case k30 => k_is); (case a31 => k_is); (case l31 => k_is); (case c31 => k_is); (case k31 => k_is); (case a32 => k_is); (case l32 => k_is); (case c32 => k_is); (case k32 => k_is); (case a33 => k_is); (case l33 => k_is); (case c33 => k_is); (case k33 => k_is); (case a34 => k_is); (case l34 => k_is); (case c34 => k_is); (case k34 => k_is); (case k1a => k_is); (case k2a => k_is); (case k2b => k_is); (case k2c => first | rfl | decide +kernel); (case k2d => k_is); (case k2e => k_is); (case k2f => k_is); (case k2g => k_is); (case k2h => k_is); (case k2i => k_is); (case k2j => k_is); (case k2k => k_is); (case k2l => k_is); (case k2m => k_is); (case k2n => k_is); (case k2o => k_is); (case k2p => first | k_is | rfl | decide +kernel | kernel_rfl); (case k2q => first | k_is | rfl | decide +kernel | kernel_rfl); (case k2r => first | k_is | rfl | decide +kernel | kernel_rfl); (case k2u => first | k_is | rfl | decide +kernel | kernel_rfl); (case k2s0 => k_is); (case k2s1 => k_is); (case k3a => k_is); (case k3b => k_is); (case k3c => first | rfl | decide +kernel); (case k3d => k_is); (case k3e => k_is); (case k3f => k_is); (case k3g => k_is); (case k3h => k_is); (case k3i => k_is); (case k3j => k_is); (case k3k => k_is); (case k3l => k_is); (case k3m => k_is); (case k3n => k_is); (case k3o => k_is); (case k3p => first | k_is | rfl | decide +kernel | kernel_rfl); (case k3q => first | k_is | rfl | decide +kernel | kernel_rfl); (case k3r => first | k_is | rfl | decide +kernel | kernel_rfl); (case k3s0 => k_is); (case k4a => k_is); (case k4b => k_is); (case k4c => first | rfl | decide +kernel); (case k4d => k_is); (case k4e => k_is); (case k4f => k_is); (case k4g => k_is); (case k4h => k_is); (case k4i => k_is); (case k4j => k_is); (case k4k => k_is); (case k4l => k_is); (case k4m => k_is); (case k4n => k_is); (case k4o => k_is); (case k4p => first | k_is | rfl | decide +kernel | kernel_rfl); (case k4q => first | k_is | rfl | decide +kernel | kernel_rfl); (case k4r => first | k_is | rfl | decide +kernel | kernel_rfl); (case k4s0 => k_is); (case v1 => k_is); (case x1 => k_is); (case y1t => rfl); (case y1z => decide +kernel); (case y1v => repeat (first | exact .nil | refine .cons ⟨_, rfl⟩ ?_)); (case y1d => rfl); (case v2 => k_is); (case x2 => k_is); (case x2k => repeat (first | exact True.intro | refine ⟨⟨_, _, rfl, rfl⟩, ?_⟩)); (case n2_0d => k_is); (case x2_0 => k_is); (case y2_0t => rfl); (case y2_0z => decide +kernel); (case y2_0v => repeat (first | exact .nil | refine .cons ⟨_, rfl⟩ ?_)); (case n2_1d => k_is); (case x2_1 => k_is); (case y2_1t => rfl); (case y2_1z => decide +kernel); (case y2_1v => repeat (first | exact .nil | refine .cons ⟨_, rfl⟩ ?_)); (case n2_2d => k_is); (case x2_2 => k_is); (case y2_2t => rfl); (case y2_2z => decide +kernel); (case y2_2v => repeat (first | exact .nil | refine .cons ⟨_, rfl⟩ ?_)); (case n2_3d => k_is); (case x2_3 => k_is); (case y2_3t => rfl); (case y2_3z => decide +kernel); (case y2_3v => repeat (first | exact .nil | refine .cons ⟨_, rfl⟩ ?_)); (case n2_4d => k_is); (case x2_4 => k_is); (case y2_4t => rfl); (case y2_4z => decide +kernel); (case y2_4v => repeat (first | exact .nil | refine .cons ⟨_, rfl⟩ ?_)); (case n2_5d => k_is); (case x2_5 => k_is); (case y2_5t => rfl); (case y2_5z => decide +kernel); (case y2_5v => repeat (first | exact .nil | refine .cons ⟨_, rfl⟩ ?_)); (case n2_6d => k_is); (case x2_6 => k_is); (case y2_6t => rfl); (case y2_6z => decide +kernel); (case y2_6v => repeat (first | exact .nil | refine .cons ⟨_, rfl⟩ ?_)); (case n2_7d => k_is); (case x2_7 => k_is); (case y2_7t => rfl); (case y2_7z => decide +kernel); (case y2_7v => repeat (first | exact .nil | refine .cons ⟨_, rfl⟩ ?_)); (case v3 => k_is); (case x3 => k_is); (case y3t => rfl); (case y3z => decide +kernel); (case y3v => repeat (first | exact .nil | refine .cons ⟨_, rfl⟩ ?_)); (case y3d => rfl); (case z1 => k_is); (case z2 => k_is); (case z3 => k_is); (case z4 => k_is); (case z5 => k_is); (case z6 => k_is); (case z7 => k_is); (case z8 => k_is); (case z9 => k_is); (case r3 => rfl); (case r8 => rfl); (case r12 => rfl); (case r13 => rfl); (case r18 => rfl); (case r22 => rfl); (case r23 => rfl); (case x22_3 => decide); (case x23_3 => decide); (case x22_8 => decide); (case x23_8 => decide); (case x22_12 => decide); (case x23_12 => decide); (case x22_13 => decide); (case x23_13 => decide); (case x22_18 => decide); (case x23_18 => decide); (case x22_23 => decide)
