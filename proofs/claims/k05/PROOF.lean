import PyProof.Rows.All
import Wide.All
import OpenK.AllK
import Wide.FinOn
import HandS.ForMost
import HandS.IsInst
import HandS.TupLe
import HandS.Flow
import HandS.GenList
import HandS.AnyAll
import HandS.EndTab
import HandS.Walk
import HandS.TupAny
import HandS.Rev
import HandS.Zip
import HandS.More
import KE.KeyNested
import KE.KDictKeyed
import KE.LtData
import KE.SortKeyHeap
import HandS.SortKw
import HandS.Keys
import KE.KDictWalk
import KE.KDictSum
import HandS.DictComp
import HandS.ExcInit
import HandS.ExcField
import HandS.ExcIs
import HandS.ExcOwn
import HandS.WordsExc
import HandS.Replace
import HandS.Text
import HandS.Strs
import PySem.Challenge.RW_cardsback_k05_books_by_kind
import KE.GoesMore
import KE.DataCmp
import PyProof.FString5
import PyProof.PureInt
import PyProof.NeKinds
set_option Elab.async false
set_option linter.all false
set_option maxRecDepth 100000
/-! My own words for these laws: the tap, kept heaps, repr of flat things. -/
namespace My
open PySem PySem.Spec PyProof.Rows L2
/-! ### heaps -/
/-- all but t is as it was -/
def Kp (t : Addr) (H H' : Hp) : Prop := ∀ b o, b ≠ t → H b = some o → H' b = some o
theorem Kp.refl (t : Addr) (H : Hp) : Kp t H H := fun _ _ _ h => h
theorem Kp.trans {t : Addr} {H H1 H2 : Hp} (a : Kp t H H1) (b : Kp t H1 H2) : Kp t H H2 := fun c o n h => b c o n (a c o n h)
theorem Kp.own {t : Addr} {H H1 : Hp} {o : HO} (a : Kp t H H1) : Kp t H (upd H1 t o) := fun b x n h => by rw [upd_ne n]; exact a b x n h
theorem Kp.new {t p : Addr} {H H1 : Hp} {o : HO} (a : Kp t H H1) (hp : H1 p = none) : Kp t H (upd H1 p o) := fun b x n h => by
  have h1 := a b x n h
  rw [upd_ne (ne_of_none h1 hp)]
  exact h1
theorem Kp.of_same {t : Addr} {H H1 : Hp} (a : Same H H1) : Kp t H H1 := fun b o _ h => a b o h
theorem same_upd {H : Hp} {p : Addr} {o : HO} (h : H p = none) : Same H (upd H p o) := fun b x e => by
  rw [upd_ne (ne_of_none e h)]
  exact e
theorem upd_upd' {H : Hp} {p : Addr} {a b : HO} : upd (upd H p a) p b = upd H p b := by
  funext x
  unfold upd
  by_cases h : x = p <;> simp [h]
theorem upd_comm' {H : Hp} {p r : Addr} {a b : HO} (n : p ≠ r) : upd (upd H p a) r b = upd (upd H r b) p a := by
  funext x
  unfold upd
  by_cases h : x = p
  · by_cases k : x = r
    · exact absurd (h.symm.trans k) n
    · simp [h, n]
  · by_cases k : x = r
    · simp [k, n.symm]
    · simp [h, k]
theorem upd_free {H : Hp} {p x : Addr} {o : HO} (e : upd H p o x = none) : x ≠ p ∧ H x = none := by
  by_cases h : x = p
  · rw [h, upd_same] at e
    cases e
  · rw [upd_ne h] at e
    exact ⟨h, e⟩
theorem sz {n : Nat} (h : n ≤ 1000) : n ≤ sizeLine := Nat.le_of_lt (small1000 h)
theorem tYesT {σ : L2.St} {H : Hp} {A B : Hp → Prop} (h : A H) : tYes σ H (fun b H3 => if b = true then A H3 else B H3) := by
  show if true = true then A H else B H
  exact iteT h
/-! ### the tap -/
def kt (c s r n : V) : List (Key × V) := [(.inr "cells", c), (.inr "spot", s), (.inr "rest", r), (.inr "calls", n)]
theorem kt_cells (c s r n : V) : valV (kt c s r n) (.inr "cells") = some c := rfl
theorem kt_spot (c s r n : V) : valV (kt c s r n) (.inr "spot") = some s := rfl
theorem kt_rest (c s r n : V) : valV (kt c s r n) (.inr "rest") = some r := rfl
theorem kt_calls (c s r n : V) : valV (kt c s r n) (.inr "calls") = some n := rfl
theorem put_spot (c s r n v : V) : putK (kt c s r n) (.inr "spot") v = kt c v r n := rfl
theorem put_rest (c s r n v : V) : putK (kt c s r n) (.inr "rest") v = kt c s v n := rfl
theorem put_calls (c s r n v : V) : putK (kt c s r n) (.inr "calls") v = kt c s r v := rfl
theorem kt_len (c s r n : V) : (kt c s r n).length < sizeLine := small1000 (by show 4 ≤ 1000; decide)
theorem g_cells {H : Hp} {t : Addr} {c s r n : V} (h : H t = some (.dK (kt c s r n))) : DGet H t (.str "cells") (some c) := DGet.k (k := .inr "cells") h
theorem g_spot {H : Hp} {t : Addr} {c s r n : V} (h : H t = some (.dK (kt c s r n))) : DGet H t (.str "spot") (some s) := DGet.k (k := .inr "spot") h
theorem g_rest {H : Hp} {t : Addr} {c s r n : V} (h : H t = some (.dK (kt c s r n))) : DGet H t (.str "rest") (some r) := DGet.k (k := .inr "rest") h
theorem g_calls {H : Hp} {t : Addr} {c s r n : V} (h : H t = some (.dK (kt c s r n))) : DGet H t (.str "calls") (some n) := DGet.k (k := .inr "calls") h
theorem p_spot {H : Hp} {t : Addr} {c s r n v : V} (h : H t = some (.dK (kt c s r n))) : DPut H t (.str "spot") v (upd H t (.dK (kt c v r n))) := DPut.k (k := .inr "spot") h (kt_len _ _ _ _)
theorem p_rest {H : Hp} {t : Addr} {c s r n v : V} (h : H t = some (.dK (kt c s r n))) : DPut H t (.str "rest") v (upd H t (.dK (kt c s v n))) := DPut.k (k := .inr "rest") h (kt_len _ _ _ _)
theorem p_calls {H : Hp} {t : Addr} {c s r n v : V} (h : H t = some (.dK (kt c s r n))) : DPut H t (.str "calls") v (upd H t (.dK (kt c s r v))) := DPut.k (k := .inr "calls") h (kt_len _ _ _ _)
/-- a tap at t that was asked at most n times -/
def Tap (H : Hp) (t : Addr) (n : Nat) : Prop := ∃ (c : Addr) (ns : List Int) (sp re ca : Int),
  H t = some (.dK (kt (.ref c) (.int sp) (.int re) (.int ca))) ∧ H c = some (.lst (ns.map V.int)) ∧ ns.length ≤ 63 ∧ 0 ≤ sp ∧ 0 ≤ re ∧ 0 ≤ ca ∧ ca ≤ n
theorem Tap.mono {H : Hp} {t : Addr} {n m : Nat} (h : Tap H t n) (le : n ≤ m) : Tap H t m := by
  obtain ⟨c, ns, sp, re, ca, h1, h2, h3, h4, h5, h6, h7⟩ := h
  exact ⟨c, ns, sp, re, ca, h1, h2, h3, h4, h5, h6, by omega⟩
theorem Tap.same {H H' : Hp} {t : Addr} {n : Nat} (h : Tap H t n) (s : Same H H') : Tap H' t n := by
  obtain ⟨c, ns, sp, re, ca, h1, h2, h3⟩ := h
  exact ⟨c, ns, sp, re, ca, s _ _ h1, s _ _ h2, h3⟩
theorem Tap.new {H : Hp} {t p : Addr} {o : HO} {n : Nat} (h : Tap H t n) (hp : H p = none) : Tap (upd H p o) t n := h.same (same_upd hp)
theorem Tap.ne {H : Hp} {t p : Addr} {n : Nat} (h : Tap H t n) (hp : H p = none) : p ≠ t := fun z => by
  obtain ⟨c, ns, sp, re, ca, h1, _⟩ := h
  rw [z, h1] at hp
  cases hp
theorem Tap.upd_other {H : Hp} {t p : Addr} {o o' : HO} {n : Nat} (h : Tap H t n) (hp : H p = some o) (h1 : ∀ x, o ≠ .dK x) (h2 : ∀ x : List Int, o ≠ .lst (x.map V.int)) : Tap (upd H p o') t n := by
  obtain ⟨c, ns, sp, re, ca, e1, e2, h3⟩ := h
  refine ⟨c, ns, sp, re, ca, ?_, ?_, h3⟩
  · rw [upd_ne]
    · exact e1
    · intro z
      rw [z, hp] at e1
      exact h1 _ (Option.some.inj e1)
  · rw [upd_ne]
    · exact e2
    · intro z
      rw [z, hp] at e2
      exact h2 _ (Option.some.inj e2)
/-- the promise of the tap's draw -/
def spTake : Sp := fun vs H Q _ => ∃ (t : Addr) (m : Int) (n : Nat), vs = [.ref t, .int m] ∧ 0 < m ∧ m < 1000000 ∧ Tap H t n ∧ n < 1000000 ∧
  ∀ v H', 0 ≤ v → v < m → Tap H' t (n + 1) → Kp t H H' → Q (.int v) H'
def spTap (K : PySem.W.Frag) : Sp := fun vs H Q _ => ∃ (a : Addr) (ns : List Int), vs = [.ref a] ∧ SqL K H a (ns.map V.int) ∧
  ∀ t H', Same H H' → H t = none → Tap H' t 0 → Q (.ref t) H'
theorem pow5 (x : Int) (h0 : 0 ≤ x) (h1 : x < 2 ^ 60) : CPow x 5 := ⟨by decide, by decide, by omega⟩
theorem pow5b (y c : Int) (h0 : 0 ≤ c) (h1 : c ≤ 1000000) : CPow (y % 2147483647 + 4099 * c * c) 5 := by
  have a : 0 ≤ 4099 * c * c := Int.mul_nonneg (by omega) h0
  have b : 4099 * c * c ≤ 4099000000 * 1000000 := Int.mul_le_mul (by omega) h1 h0 (by omega)
  exact pow5 _ (by omega) (by omega)
/-! ### repr of flat things -/
def showF : V → Str
  | .non => "None"
  | .bl b => if b then "True" else "False"
  | .int i => toString i
  | _ => ""
def smallV : V → Prop
  | .non => True
  | .bl _ => True
  | .int i => i.natAbs.log2 < 1920
  | _ => False
section
variable {X : Cx}
theorem call_reprF : CallR X (.builtin "repr") (fun xs H Q => ∃ v, xs = [v] ∧ smallV v ∧ Q (.str (showF v)) H) := by
  intro pins s σ H xs us Q I r h
  obtain ⟨v, rfl, hz, q⟩ := h
  obtain ⟨u, rfl, ru⟩ := vals1 r
  cases v with
  | non => cases ru; exact PySem.P.repr_of_none ⟨.str _, H, I.tok _, ⟨_, rfl⟩, q⟩
  | bl b => cases ru; exact PySem.P.repr_of_bool ⟨.str _, H, I.tok _, ⟨_, rfl⟩, q⟩
  | int i =>
    obtain ⟨t, rfl⟩ := ru
    exact PySem.P.repr_of_int hz ⟨.str _, H, I.tok _, ⟨_, rfl⟩, q⟩
  | _ => exact hz.elim
end
theorem small_nat {i : Int} (h0 : -1000000 < i) (h1 : i < 1000000) : i.natAbs.log2 < 1920 := by
  by_cases z : i.natAbs = 0
  · rw [z]; decide
  · refine Nat.lt_of_lt_of_le ((Nat.log2_lt z).mpr (show i.natAbs < 2 ^ 20 by omega)) (by decide)
end My

set_option Elab.async false
set_option linter.all false
set_option maxRecDepth 100000
set_option maxHeartbeats 2000000
/-! My own rule for all(..) and any(..) of a generator expression: the walked thing by PI, the element by PE, whatever it calls. -/
namespace GE
open PySem PySem.Spec PyProof.Rows L2 GenW
/-- where a generator expression's own frame runs -/
abbrev gctx (X : Cx) (A : Around) (s : Shared) (H : Hp) (scope : Scope) (cenv : Env) (fp : List Addr) : Cx :=
  { X with A := A, s_0 := s, H_0 := H, env := cenv, outer := X.stack, stack := cenv :: X.stack, ex := fp, fn := fun x => scope.names.lookup x == some .cell, pn := [], xe := fun _ _ => False }
/-- only the book of generators and the counts have changed -/
theorem inv_heap {X : Cx} {pins : List (Addr × Obj)} {σ : L2.St} {H : Hp} {s s' : Shared} (I : Inv X pins σ H s) (hh : s'.heap = s.heap) (ho : s'.os = s.os) (hb : AllBare s'.gens) : Inv X pins σ H s' :=
  ⟨I.ok, ho.trans I.os, hb, by rw [hh]; exact I.base, by rw [hh]; exact I.loc, by rw [hh]; exact I.cell, I.free, I.freeC, by rw [hh]; exact I.pin, by rw [hh]; exact I.hok, I.len⟩
theorem over_gen {A : Around} {elt tg iter : Expr} {ifs : List Expr} {scope : Scope} {pos : Pos} {it : Value} {env : Env} :
    A.over (.compLoop (.GeneratorExp elt [⟨tg, iter, ifs, 0⟩] scope pos) 0 it .none env) [] = A.deeper env := rfl
section
variable {X : Cx} {pins : List (Addr × Obj)} {σ : L2.St} {H : Hp} {s : Shared}
theorem gen_start {scope : Scope} {own : List (Str × Nat)} {fp : List Addr} {A : Around} {code itv : Value} {h' : Heap} {g' : Array GenState} {tk : Nat} {go : Obj}
    (I : Inv X pins σ H s) (ok : BlkOk X.N X.env.scope scope own) (hN : X.N.Nodup) (hcell : ∀ y ∈ scope.names, y.2 ≠ .cell) (hfp : ∀ b ∈ fp, FpOk X pins H b ∧ b < s.heap.objs.size)
    (hA : A.handled = none) (hF : A.frames = some (genEnv scope (cloFrom X.env.cells scope.names []) s.heap.objs.size code builtinsNs X.env :: X.stack))
    (hn : h'.Ns s.heap.objs.size (fun y => if y = ".0" then some itv else none)) (hk : ∀ b o, s.heap.get? b = some o → h'.get? b = some o)
    (hgo : ∀ v, go.data ≠ .cell v) (hga : (h'.push go).get? h'.objs.size = some go) (hsz : h'.objs.size = s.heap.objs.size + 1) (hb : AllBare g') :
    Inv (gctx X A s H scope (genEnv scope (cloFrom X.env.cells scope.names []) s.heap.objs.size code builtinsNs X.env) fp) [(h'.objs.size, go)] (wipe σ (own.map (·.2))) H
      { s with gens := g', toks := tk, heap := h'.push go } := by
  generalize hce : genEnv scope (cloFrom X.env.cells scope.names []) s.heap.objs.size code builtinsNs X.env = cenv at hF ⊢
  have eL : cenv.locals = s.heap.objs.size := by rw [← hce]; rfl
  have eC : cenv.cells = cloFrom X.env.cells scope.names [] := by rw [← hce]; rfl
  have eS : cenv.scope = scope := by rw [← hce]; rfl
  have kp : ∀ b o, s.heap.get? b = some o → (h'.push go).get? b = some o := fun b o e => Heap.get?_push_of_some _ (hk b o e)
  have got : ∀ y ∈ scope.names, y.2 = .free → ∃ c, X.env.cells.lookup y.1 = some c := fun y hy e => by
    rcases ok.free y hy e with z | z
    · exact I.ok.has _ (.inl z)
    · exact I.ok.has _ (.inr z)
  have inX : ∀ {y c}, cenv.cells.lookup y = some c → X.env.cells.lookup y = some c ∧ c < s.heap.objs.size := fun {y c} e => by
    rw [eC] at e
    rcases cloFrom_mem (PySem.mem_of_lookup e) with z | ⟨z, q⟩
    · cases z
    · obtain ⟨d, hd⟩ := got _ z rfl
      rw [hd] at q
      have q : c = d := q
      subst q
      obtain ⟨v, hv⟩ := I.cell _ _ hd
      exact ⟨hd, hv.lt⟩
  have has : ∀ {y}, scope.names.lookup y = some .free → ∃ c, cenv.cells.lookup y = some c := fun {y} hl => by
    obtain ⟨c, e⟩ := mem_lookup (cloFrom_has (cells := X.env.cells) (acc := []) (PySem.mem_of_lookup hl))
    exact ⟨c, by rw [eC]; exact e⟩
  have okG : (gctx X A s H scope cenv fp).Ok := by
    refine ⟨I.ok.mod, ?_, ?_, ?_, ?_, ?_, ?_, ?_, fun _ => hA, hF, .inr ⟨rfl, ?_⟩, fun b hb => ⟨?_, ?_⟩, I.bs, Nat.le_trans I.ok.bsz I.sz, ?_, ?_, I.stack, I.stkFree⟩
    · show cenv.scope.kind = _
      rw [eS]; exact ok.kind
    · show cenv.globals = _
      rw [← hce]; exact I.ok.glob
    · show cenv.builtins = _
      rw [← hce]; rfl
    · show s.heap.objs.size ≤ cenv.locals
      rw [eL]; exact Nat.le_refl _
    · intro y z c e1 e2
      exact I.ok.inj y z c (inX e1).1 (inX e2).1
    · intro y hy
      have hy : cenv.scope.names.lookup y = some .cell ∨ cenv.scope.names.lookup y = some .free := hy
      rw [eS] at hy
      rcases hy with z | z
      · exact absurd rfl (hcell _ (PySem.mem_of_lookup z))
      · exact has z
    · intro y c z _
      have z : (scope.names.lookup y == some NameKind.cell) = true := z
      have z : scope.names.lookup y = some .cell := by simpa using z
      exact absurd rfl (hcell _ (PySem.mem_of_lookup z))
    · show cenv.frame = some cenv.locals
      rw [← hce]; rfl
    · show b ≠ cenv.locals
      rw [eL]; exact Nat.ne_of_lt (hfp b hb).2
    · intro y c e z
      exact (hfp b hb).1.2.2.2.2.1 y c (inX e).1 z
    · intro b o e hb
      rcases (hfp b hb).1.2.2.2.1 with z | z
      · exact I.ok.noex b o e z
      · exact absurd (Nat.lt_of_lt_of_le (Heap.lt_size e) (Nat.le_trans I.ok.bsz z)) (Nat.lt_irrefl _)
    · intro b hb z
      rcases List.mem_cons.mp (I.stkSub b z) with q | q
      · exact (hfp b hb).1.2.1 q
      · exact (hfp b hb).1.2.2.1 q
  refine ⟨okG, rfl, hb, Un.kept kp, ⟨fun y => if y = ".0" then some itv else none, ?_, fun i y v e1 e2 e3 => ?_⟩, fun y c e => ?_, ?_, fun y c e => ?_, fun p hp => ?_, I.hok.kept kp, ?_⟩
  · show Heap.Ns _ cenv.locals _
    rw [eL]; exact hn.keeps fun b o e => Heap.get?_push_of_some _ e
  · obtain ⟨e2, hne⟩ := wipe_some e2
    have e3 : Vis cenv.scope y := e3
    rw [eS] at e3
    have no : ∀ k, scope.names.lookup y = some k → k = .local ∨ k = .cell → False := fun k hl hk => by
      rcases ok.own _ (PySem.mem_of_lookup hl) hk with z | z
      · obtain ⟨p, hp, ep⟩ := List.mem_map.mp z
        have q := ok.ix p hp
        have ep : p.1 = y := ep
        rw [ep] at q
        exact hne (List.mem_map.mpr ⟨p, hp, nodup_ix hN q e1⟩)
      · exact z (List.mem_of_getElem? e1)
    have fr : scope.names.lookup y = some .free := by
      rcases e3 with z | z | z
      · exact (no _ z (.inl rfl)).elim
      · exact (no _ z (.inr rfl)).elim
      · exact z
    obtain ⟨c, hc⟩ := has fr
    have kinds := ok.free _ (PySem.mem_of_lookup fr) rfl
    obtain ⟨m, _, hl⟩ := I.loc
    obtain ⟨u, ru, look⟩ := hl i y v e1 e2 (kinds.elim (fun z => .inr (.inl z)) fun z => .inr (.inr z))
    refine ⟨u, ru, .inr ⟨.inr ?_, c, hc, ?_⟩⟩
    · show cenv.scope.names.lookup y = _
      rw [eS]; exact fr
    · rcases look with ⟨z, _⟩ | ⟨_, c2, hc2, z⟩
      · have z : X.env.scope.names.lookup y = some .local := z
        rcases kinds with q | q <;> rw [show X.env.scope.names.lookup y = _ from q] at z <;> cases z
      · rw [(inX hc).1] at hc2
        cases hc2
        exact z.keeps kp
  · obtain ⟨v, hv⟩ := I.cell y c (inX e).1
    exact ⟨v, hv.keeps kp⟩
  · show H cenv.locals = none
    rw [eL]; exact I.hok.fresh (Nat.le_refl _)
  · exact I.freeC y c (inX e).1
  · have hp : p = (h'.objs.size, go) := by simpa using hp
    subst hp
    refine ⟨hga, I.hok.fresh (by omega), ?_, fun z => ?_, hgo⟩
    · show h'.objs.size ≠ cenv.locals
      rw [eL]; omega
    · rcases List.mem_cons.mp (I.stkSub _ z) with q | q
      · have q : h'.objs.size = X.env.locals := q
        have z2 := I.lt
        rw [← q, hsz] at z2
        exact absurd z2 (Nat.not_lt.mpr (Nat.le_succ _))
      · exact I.nofs (by omega) q
  · rw [wipe_length]; exact I.len
/-- what a generator expression hands out, and its end, by what the def's reading wants: Qt at its end, Qs where a truth like st is handed out -/
def GR (Y : Cx) (pn : List (Addr × Obj)) (Qt : Hp → Prop) : GenEnd := fun _ _ r s1 =>
  ((r = .ok (.ret .none) ∨ r = .ok .next) ∧ ∃ σ' H', Inv Y pn σ' H' s1 ∧ Qt H') ∨ ∃ e, r = .error e ∧ (fun (_ : Value) (_ : Shared) => False) e s1
def GY (Y : Cx) (pn : List (Addr × Obj)) (st : Bool) (Qs : Hp → Prop) : Protocol := fun _ _ v s1 kap =>
  ∃ c σ' H', v = .bool c ∧ Inv Y pn σ' H' s1 ∧ (c = st → Qs H') ∧ (c ≠ st → ∀ s2 : Shared, s2.heap = s1.heap → s2.os = s1.os → AllBare s2.gens → kap (.send .none) s2)
/-- one turn's reading -/
def Step (J : It) (g : TG) (tt : TT) (te : TE) (vs : List Nat) (σ : L2.St) (st : Bool) (Qt Qs : Hp → Prop) (W : Nat → Nat → Hp → Prop) (i m : Nat) (H : Hp) : Prop :=
  (J.stop i H ∧ Qt H) ∨ (J.go i H ∧ ∃ Nx : Hp → Prop, (∀ H', Nx H' → ∃ m', m' < m ∧ W (i + 1) m' H') ∧ ∀ x H', J.yld i H x H' → g x (wipe σ vs) H' fun σ2 H2 => wipe σ2 vs = wipe σ vs ∧ tt σ2 H2 fun b H3 =>
    if b = true then te σ2 H3 fun y H4 => ∃ c, y = .bl c ∧ (c = st → Qs H4) ∧ (c ≠ st → Nx H4) else Nx H3)
theorem wpF {α : Type} {M : Model} {A : Around} {t : Sem α} {Q Q' : α → Shared → Prop} {E : Value → Shared → Prop} {s : Shared} (h : wpAny M A t Q (fun _ _ => False) s) (k : ∀ a s', Q a s' → Q' a s') : wpAny M A t Q' E s :=
  wpAny_mono h k fun _ _ z => z.elim
theorem seg_turns {A0 : Around} {s3 : Shared} {H3 : Hp} {scope : Scope} {cenv : Env} {fp : List Addr} {pn : List (Addr × Obj)} {it : Addr} {J : It} {tn : Nat → Heap → Prop} {elt tg iter : Expr} {ifs : List Expr} {pos : Pos} {vs : List Nat}
    {g : TG} {tt : TT} {te : TE} {st : Bool} {Qt Qs : Hp → Prop} {W : Nat → Nat → Hp → Prop} (hc : X.calm = true) (hco : cenv.scope.isCoroutine = false) (hpn : ∀ p ∈ pn, p.1 ∉ fp)
    (T : Turn X.prog X.w X.K tg J fp it tn) (pg : PG (gctx X (A0.deeper cenv) s3 H3 scope cenv fp) tg g) (pt : PTs (gctx X (A0.deeper cenv) s3 H3 scope cenv fp) ifs tt) (pe : PE (gctx X (A0.deeper cenv) s3 H3 scope cenv fp) elt te)
    (turn : ∀ i m H', W i m H' → Step J g tt te vs σ st Qt Qs W i m H') :
    ∀ (m n : Nat), m < n → ∀ (i : Nat) (s0 s1 : Shared) (H' : Hp), Inv (gctx X (A0.deeper cenv) s3 H3 scope cenv fp) pn (wipe σ vs) H' s1 → tn i s1.heap → (∀ b ∈ fp, H' b = none) → W i m H' →
      Seg (model X.prog X.w) A0 (GR (gctx X (A0.deeper cenv) s3 H3 scope cenv fp) pn Qt) (GY (gctx X (A0.deeper cenv) s3 H3 scope cenv fp) pn st Qs) n s0
        (.compLoop (.GeneratorExp elt [⟨tg, iter, ifs, 0⟩] scope pos) 0 (.ref it) .none cenv) ((model X.prog X.w).den (.compLoop (.GeneratorExp elt [⟨tg, iter, ifs, 0⟩] scope pos) 0 (.ref it) .none cenv)) [] s1 := by
  intro m
  induction m using Nat.strongRecOn with
  | ind m ih =>
    intro n hmn i s0 s1 H1 I1 t1 f1 w1
    have own : ∀ {pl : List (Addr × Obj)} {σ' : L2.St} {H' : Hp} {s' : Shared}, (∀ p ∈ pl, p.1 ∉ fp) → Inv (gctx X (A0.deeper cenv) s3 H3 scope cenv fp) pl σ' H' s' → (∀ b ∈ fp, H' b = none) → ∀ b ∈ fp, FpOk (gctx X (A0.deeper cenv) s3 H3 scope cenv fp) pl H' b :=
      fun {pl σ' H' s'} hpl I' hn b hb => ⟨hn b hb, (I'.ok.exf b hb).1, I'.ok.exfs b hb, .inl hb, fun x c e => (I'.ok.exf b hb).2 x c e, fun p hp z => hpl p (by simpa using hp) (by rw [z]; exact hb)⟩
    show Seg _ A0 _ _ _ s0 _ ((compTurn (.GeneratorExp elt [⟨tg, iter, ifs, 0⟩] scope pos) 0 (.ref it) .none cenv).onRaise (leaving cenv)) [] s1
    rw [compTurn_gen]
    rw [Sem.onRaise_eq_wrap]
    refine seg_bind_wrap (wpAny_standAt ?_)
    rcases turn i m H1 w1 with ⟨stop, qt⟩ | ⟨go, Nx, hNx, step⟩
    · refine seg_bind_wrap (wpF (T.done (gctx X (A0.deeper cenv) s3 H3 scope cenv fp) rfl rfl rfl hc i pn s1 _ H1 (fun _ _ => False) I1 (own hpn I1 f1) t1 stop) fun r s2 ⟨hr, I2⟩ => ?_)
      subst hr
      exact seg_end (.ok .next) (.inl ⟨.inr rfl, _, H1, I2, qt⟩)
    · refine seg_bind_wrap (wpF (T.item (gctx X (A0.deeper cenv) s3 H3 scope cenv fp) rfl rfl rfl hc i pn s1 _ H1 (fun _ _ => False) I1 (own hpn I1 f1) t1 go) fun r s2 ⟨u, hr, h2⟩ => ?_)
      subst hr
      refine seg_bind_wrap (wpF h2 fun _ s4 ⟨x, H4, I4, r4, y4, t4, f4⟩ => ?_)
      have P4 := I4.pinned (own hpn I4 f4) (T.obj _ _ t4)
      refine seg_bind_wrap (wpF (pg.run _ s4 _ H4 x u _ P4 r4 (step x H4 y4)) fun _ s5 ⟨σ5, H5, I5, w5, q5⟩ => ?_)
      refine seg_bind_wrap (wpF (pt.run _ s5 σ5 H5 _ I5 q5) fun b s6 ⟨H6, I6, q6⟩ => ?_)
      have back : ∀ {s' : Shared} {H' : Hp}, Inv (gctx X (A0.deeper cenv) s3 H3 scope cenv fp) (pn ++ pinsAt fp s4.heap) σ5 H' s' →
          Inv (gctx X (A0.deeper cenv) s3 H3 scope cenv fp) pn (wipe σ vs) H' s' ∧ tn (i + 1) s'.heap ∧ ∀ b ∈ fp, H' b = none := fun {s' H'} I' => by
        have at' : ∀ b ∈ fp, ∀ o, s4.heap.get? b = some o → s'.heap.get? b = some o ∧ H' b = none := fun b hb o e =>
          let z := I'.pin (b, o) (List.mem_append_right _ (List.mem_append_right _ (mem_pinsAt hb e)))
          ⟨z.1, z.2.1⟩
        refine ⟨I'.unpinned.weak (by rw [← w5, wipe_length]) fun j v e => ?_, T.keep _ _ _ t4 fun b hb o e => (at' b hb o e).1, fun b hb => ?_⟩
        · rw [← w5] at e
          exact (wipe_some e).1
        · obtain ⟨o, e, _⟩ := T.obj _ _ t4 b hb
          exact (at' b hb o e).2
      cases b with
      | false =>
        have q6 : Nx H6 := by simpa using q6
        obtain ⟨m', hm, w'⟩ := hNx H6 q6
        obtain ⟨I7, t7, f7⟩ := back I6
        simp only [Bool.false_eq_true, if_false]
        exact seg_again rfl (ih m' hm n (by omega) (i + 1) s0 s6 H6 I7 t7 f7 w')
      | true =>
        rw [if_pos rfl] at q6
        simp only [if_true]
        have hy : ∀ v, yieldOut cenv v = yieldValue v := fun v => by
          unfold yieldOut
          simp [hco]
        simp only [hy]
        rw [Sem.bind_eq_wrap', Sem.bind_eq_wrap']
        rw [Sem.wrap_wrap, Sem.wrap_wrap]
        refine seg_wrap (wpF (pe.run _ s6 σ5 H6 _ I6 q6) fun v s7 ⟨yv, H7, I7, r7, c, ec, qs, qn⟩ => ?_)
        subst ec
        obtain rfl : v = Value.bool c := r7
        obtain ⟨I8, t8, f8⟩ := back I7
        obtain ⟨n, rfl⟩ : ∃ k, n = k + 1 := ⟨n - 1, by omega⟩
        refine seg_at (seg_yield rfl rfl rfl ⟨c, _, H7, rfl, I8, qs, fun hne s9 hh ho hb => ?_⟩)
        obtain ⟨m', hm, w'⟩ := hNx H7 (qn hne)
        exact seg_again rfl (ih m' hm n (by omega) (i + 1) s9 s9 H7 (inv_heap I8 hh ho hb) (by rw [hh]; exact t8) f8 w')
/-! ### all and any walk the generator -/
theorem all_walk {Y : Cx} {pn : List (Addr × Obj)} {Qt Qs : Hp → Prop} {A : Around} {R : Result → Shared → Prop} {a : Addr} {go : Obj} {g : Nat} (hh : A.handled = none) (hd : A.depth < recursionLimit)
    (hpa : (a, go) ∈ pn) (hgen : ∀ h : Heap, h.get? a = some go → h.IsGen a g)
    (eT : ∀ σ' H' s', Inv Y pn σ' H' s' → Qt H' → R (.ok (.ret (.bool true))) s') (eF : ∀ σ' H' s', Inv Y pn σ' H' s' → Qs H' → R (.ok (.ret (.bool false))) s') :
    ∀ (n : Nat) (s1 : Shared) (gs : GenState), s1.heap.IsGen a g → s1.heap.NoLimit → s1.gens[g]? = some gs →
      gs.Goes (model Y.prog Y.w) A.in1.in1 (GR Y pn Qt) (GY Y pn false Qs) n (.send .none) (s1.setGen g .running) → codeAny (model Y.prog Y.w) A (.builtin "all.loop" ⟨[.ref a], []⟩) R s1 := by
  intro n
  induction n with
  | zero =>
    intro s1 gs isg lim hgs goes
    refine codeAny_builtin F.entry_all_loop ?_
    rw [Around.under_plainId F.plain_all_loop _]
    show wpAny _ A.in1 (pyNext (.ref a) >>= _) _ _ s1
    refine wpAny_bind (next_genG (A := A.in1) hh lim hd isg hgs goes (fun v s2 gs' hb hv => ?_) (fun s2 hp h' hk => ?_) fun e s2 he => he.elim)
    · obtain ⟨c, σ', H', rfl, I2, q1, q2⟩ := hv
      have I3 : Inv Y pn σ' H' (s2.setGen g gs') := inv_heap I2 rfl rfl (allBare_setGen I2.bare hb)
      refine wpAny_bind (wpAny_holding (wpAny_truthy_bool ?_))
      refine wpAny_bind (wpAny_letGo ?_)
      cases c with
      | true => exact (q2 (by decide) _ rfl rfl I2.bare).elim
      | false =>
        simp only [Bool.false_eq_true, if_false]
        exact wpAny_bind (wpAny_rule (wpAny_pure (eF σ' H' _ I3 (q1 rfl))))
    · obtain ⟨σ', H', I2, q⟩ := hp
      have I3 : Inv Y pn σ' H' (s2.setGen g .finished) := inv_heap I2 rfl rfl (allBare_setGen I2.bare rfl)
      exact wpAny_bind (wpAny_rule (wpAny_pure (eT σ' H' _ (I3.kept (t' := s2.toks) hk) q)))
  | succ n ih =>
    intro s1 gs isg lim hgs goes
    have hgl : g < s1.gens.size := (Array.getElem?_eq_some_iff.mp hgs).1
    refine codeAny_builtin F.entry_all_loop ?_
    rw [Around.under_plainId F.plain_all_loop _]
    show wpAny _ A.in1 (pyNext (.ref a) >>= _) _ _ s1
    refine wpAny_bind (wpAny_gsz (n := g + 1) hgl (next_genG (A := A.in1) hh lim hd isg hgs goes (fun v s2 gs' hb hv => ?_) (fun s2 hp h' hk => ?_) fun e s2 he => he.elim))
    · intro hsz
      obtain ⟨c, σ', H', rfl, I2, q1, q2⟩ := hv
      have I3 : Inv Y pn σ' H' (s2.setGen g gs') := inv_heap I2 rfl rfl (allBare_setGen I2.bare hb)
      refine wpAny_bind (wpAny_holding (wpAny_truthy_bool ?_))
      refine wpAny_bind (wpAny_letGo ?_)
      cases c with
      | true =>
        simp only [if_true]
        have hg2 : g < s2.gens.size := by
          have z : (s2.setGen g gs').gens.size = s2.gens.size := setGen_size _ _ _
          have hsz : g + 1 ≤ (s2.setGen g gs').gens.size := hsz
          omega
        refine wpAny_pure ⟨plainId_quiet F.plain_all_loop _, ih _ gs' (hgen _ (I3.pin (a, go) (List.mem_append_right _ hpa)).1) I3.nolimit (setGen_at hg2) ?_⟩
        exact q2 (by decide) _ rfl rfl (allBare_setGen (s := s2.setGen g gs') I3.bare rfl)
      | false =>
        simp only [Bool.false_eq_true, if_false]
        exact wpAny_bind (wpAny_rule (wpAny_pure (eF σ' H' _ I3 (q1 rfl))))
    · intro _
      obtain ⟨σ', H', I2, q⟩ := hp
      have I3 : Inv Y pn σ' H' (s2.setGen g .finished) := inv_heap I2 rfl rfl (allBare_setGen I2.bare rfl)
      exact wpAny_bind (wpAny_rule (wpAny_pure (eT σ' H' _ (I3.kept (t' := s2.toks) hk) q)))
theorem any_walk {Y : Cx} {pn : List (Addr × Obj)} {Qt Qs : Hp → Prop} {A : Around} {R : Result → Shared → Prop} {a : Addr} {go : Obj} {g : Nat} (hh : A.handled = none) (hd : A.depth < recursionLimit)
    (hpa : (a, go) ∈ pn) (hgen : ∀ h : Heap, h.get? a = some go → h.IsGen a g)
    (eT : ∀ σ' H' s', Inv Y pn σ' H' s' → Qt H' → R (.ok (.ret (.bool false))) s') (eF : ∀ σ' H' s', Inv Y pn σ' H' s' → Qs H' → R (.ok (.ret (.bool true))) s') :
    ∀ (n : Nat) (s1 : Shared) (gs : GenState), s1.heap.IsGen a g → s1.heap.NoLimit → s1.gens[g]? = some gs →
      gs.Goes (model Y.prog Y.w) A.in1.in1 (GR Y pn Qt) (GY Y pn true Qs) n (.send .none) (s1.setGen g .running) → codeAny (model Y.prog Y.w) A (.builtin "any.loop" ⟨[.ref a], []⟩) R s1 := by
  intro n
  induction n with
  | zero =>
    intro s1 gs isg lim hgs goes
    refine codeAny_builtin F.entry_any_loop ?_
    rw [Around.under_plainId F.plain_any_loop _]
    show wpAny _ A.in1 (pyNext (.ref a) >>= _) _ _ s1
    refine wpAny_bind (next_genG (A := A.in1) hh lim hd isg hgs goes (fun v s2 gs' hb hv => ?_) (fun s2 hp h' hk => ?_) fun e s2 he => he.elim)
    · obtain ⟨c, σ', H', rfl, I2, q1, q2⟩ := hv
      have I3 : Inv Y pn σ' H' (s2.setGen g gs') := inv_heap I2 rfl rfl (allBare_setGen I2.bare hb)
      refine wpAny_bind (wpAny_holding (wpAny_truthy_bool ?_))
      refine wpAny_bind (wpAny_letGo ?_)
      cases c with
      | false => exact (q2 (by decide) _ rfl rfl I2.bare).elim
      | true =>
        simp only [if_true]
        exact wpAny_bind (wpAny_rule (wpAny_pure (eF σ' H' _ I3 (q1 rfl))))
    · obtain ⟨σ', H', I2, q⟩ := hp
      have I3 : Inv Y pn σ' H' (s2.setGen g .finished) := inv_heap I2 rfl rfl (allBare_setGen I2.bare rfl)
      exact wpAny_bind (wpAny_rule (wpAny_pure (eT σ' H' _ (I3.kept (t' := s2.toks) hk) q)))
  | succ n ih =>
    intro s1 gs isg lim hgs goes
    have hgl : g < s1.gens.size := (Array.getElem?_eq_some_iff.mp hgs).1
    refine codeAny_builtin F.entry_any_loop ?_
    rw [Around.under_plainId F.plain_any_loop _]
    show wpAny _ A.in1 (pyNext (.ref a) >>= _) _ _ s1
    refine wpAny_bind (wpAny_gsz (n := g + 1) hgl (next_genG (A := A.in1) hh lim hd isg hgs goes (fun v s2 gs' hb hv => ?_) (fun s2 hp h' hk => ?_) fun e s2 he => he.elim))
    · intro hsz
      obtain ⟨c, σ', H', rfl, I2, q1, q2⟩ := hv
      have I3 : Inv Y pn σ' H' (s2.setGen g gs') := inv_heap I2 rfl rfl (allBare_setGen I2.bare hb)
      refine wpAny_bind (wpAny_holding (wpAny_truthy_bool ?_))
      refine wpAny_bind (wpAny_letGo ?_)
      cases c with
      | false =>
        simp only [Bool.false_eq_true, if_false]
        have hg2 : g < s2.gens.size := by
          have z : (s2.setGen g gs').gens.size = s2.gens.size := setGen_size _ _ _
          have hsz : g + 1 ≤ (s2.setGen g gs').gens.size := hsz
          omega
        refine wpAny_pure ⟨plainId_quiet F.plain_any_loop _, ih _ gs' (hgen _ (I3.pin (a, go) (List.mem_append_right _ hpa)).1) I3.nolimit (setGen_at hg2) ?_⟩
        exact q2 (by decide) _ rfl rfl (allBare_setGen (s := s2.setGen g gs') I3.bare rfl)
      | true =>
        simp only [if_true]
        exact wpAny_bind (wpAny_rule (wpAny_pure (eF σ' H' _ I3 (q1 rfl))))
    · intro _
      obtain ⟨σ', H', I2, q⟩ := hp
      have I3 : Inv Y pn σ' H' (s2.setGen g .finished) := inv_heap I2 rfl rfl (allBare_setGen I2.bare rfl)
      exact wpAny_bind (wpAny_rule (wpAny_pure (eT σ' H' _ (I3.kept (t' := s2.toks) hk) q)))
theorem seg_first {A0 : Around} {R : GenEnd} {Y : Protocol} {n : Nat} {s0 s1 : Shared} {elt tg iter : Expr} {ifs : List Expr} {scope : Scope} {pos : Pos} {it : Addr} {cenv : Env} {P : Program} {w : World}
    (self : ∀ (A : Around) (Q : Value → Shared → Prop) (E : Value → Shared → Prop), Q (.ref it) s1 → wpAny (model P w) A (pyIter (.ref it)) Q E s1)
    (loop : Seg (model P w) A0 R Y n s0 (.compLoop (.GeneratorExp elt [⟨tg, iter, ifs, 0⟩] scope pos) 0 (.ref it) .none cenv) ((model P w).den (.compLoop (.GeneratorExp elt [⟨tg, iter, ifs, 0⟩] scope pos) 0 (.ref it) .none cenv)) [] s1) :
    Seg (model P w) A0 R Y n s0 (.compStart (.GeneratorExp elt [⟨tg, iter, ifs, 0⟩] scope pos) 0 (.ref it) .none cenv) ((model P w).den (.compStart (.GeneratorExp elt [⟨tg, iter, ifs, 0⟩] scope pos) 0 (.ref it) .none cenv)) [] s1 := by
  show Seg _ A0 _ _ _ s0 _ ((compStart (.GeneratorExp elt [⟨tg, iter, ifs, 0⟩] scope pos) 0 (.ref it) .none cenv).onRaise (leaving cenv)) [] s1
  unfold compStart
  rw [Sem.onRaise_eq_wrap]
  show Seg _ A0 _ _ _ s0 _ ((ask >>= _).wrap _ _ _ _) [] s1
  refine seg_bind_wrap (wpAny_askSetting ?_)
  split
  · exact seg_again rfl loop
  · first
      | exact seg_bind_wrap (wpAny_rule (seg_bind_wrap (wpAny_standAt (seg_bind_wrap (self _ _ _ (seg_again rfl loop))))))
      | (refine seg_bind_wrap (wpAny_rule ?_); show Seg _ A0 _ _ _ s0 _ ((standAt iter.pos >>= _).wrap _ _ _ _) [] s1; exact seg_bind_wrap (wpAny_standAt (seg_bind_wrap (self _ _ _ (seg_again rfl loop)))))
/-- all(elt for tg in iter if ..), any(..): st is the truth at which it stops; P the table of the def's code -/
def tAG (P : Addr) (st : Bool) (wi : TI) (g : TG) (tt : TT) (te : TE) (vs : List Nat) : TE := fun σ H Q => wi σ H fun J H1 => GxR.TabG H1 P ∧ ∀ H2, GxR.Tabbed P H1 H2 →
  ∃ W : Nat → Nat → Hp → Prop, (∃ m, W 0 m H2) ∧ ∀ i m H', W i m H' → Step J g tt te vs σ st (Q (.bl (!st))) (Q (.bl st)) W i m H'
/-- a generator that stands ready -/
def Made (X : Cx) (pins : List (Addr × Obj)) (σ : L2.St) (st : Bool) (Qt Qs : Hp → Prop) (u : Value) (s5 : Shared) : Prop :=
  ∃ (a : Addr) (Y : Cx) (pn : List (Addr × Obj)) (go : Obj) (g n : Nat) (gs : GenState), u = .ref a ∧ Y.prog = X.prog ∧ Y.w = X.w ∧ (a, go) ∈ pn ∧ (∀ h : Heap, h.get? a = some go → h.IsGen a g) ∧ s5.heap.IsGen a g ∧ s5.heap.NoLimit ∧ s5.gens[g]? = some gs ∧
    gs.Goes (model X.prog X.w) X.A.in1.in1 (GR Y pn Qt) (GY Y pn st Qs) n (.send .none) (s5.setGen g .running) ∧ ∀ σ' H' s', Inv Y pn σ' H' s' → Inv X pins σ H' s'
structure GSc (N : List Str) (sc scope : Scope) (own : List (Str × Nat)) : Prop where
  blk : BlkOk N sc scope own
  co : scope.isCoroutine = false
  cell : ∀ y ∈ scope.names, y.2 ≠ .cell
  dot : scope.names.lookup (".0" : Str) = some NameKind.local
theorem gen_make {c P : Addr} {elt tg iter : Expr} {ifs : List Expr} {gpos : Pos} {scope : Scope} {own : List (Str × Nat)} {st : Bool} {wi : TI} {g : TG} {tt : TT} {te : TE} {k : Nat} {Q : VK}
    (hc : X.calm = true) (hN : X.N.Nodup) (hr : Room (k + 1) X.A) (TB : GxR.TabB X.base X.mg c P) (hcode : X.env.code = .ref c) (S : GSc X.N X.env.scope scope own) (hi : PI X tg iter wi)
    (hg : ∀ (A : Around) (s : Shared) (H : Hp) (C : Addr) (code : Value) (fp : List Addr), Room k A → PG (gctx X A s H scope (genEnv scope (cloFrom X.env.cells scope.names []) C code builtinsNs X.env) fp) tg g)
    (ht : ∀ (A : Around) (s : Shared) (H : Hp) (C : Addr) (code : Value) (fp : List Addr), Room k A → PTs (gctx X A s H scope (genEnv scope (cloFrom X.env.cells scope.names []) C code builtinsNs X.env) fp) ifs tt)
    (he : ∀ (A : Around) (s : Shared) (H : Hp) (C : Addr) (code : Value) (fp : List Addr), Room k A → PE (gctx X A s H scope (genEnv scope (cloFrom X.env.cells scope.names []) C code builtinsNs X.env) fp) elt te)
    (hs : ∀ v, genFold iter X.env v = pure v) (I : Inv X pins σ H s) (h : tAG P st wi g tt te (own.map (·.2)) σ H Q) :
    wpAny (model X.prog X.w) X.A (eval (.GeneratorExp elt [⟨tg, iter, ifs, 0⟩] scope gpos) X.env) (Made X pins σ st (Q (.bl (!st))) (Q (.bl st))) X.xe s := by
  have hfree : ∀ y ∈ scope.names, y.2 = .free → ∃ c, X.env.cells.lookup y.1 = some c := fun y hy e => by
    rcases S.blk.free y hy e with z | z
    · exact I.ok.has _ (.inl z)
    · exact I.ok.has _ (.inr z)
  refine wpAny_GeneratorExp_make S.co (closure_ok hfree) S.cell S.dot S.blk.kind (by have := hr.dp; omega) ?_ hs
  refine thn (hi.run pins s σ H _ I h) fun xv s1 hx => thn hx fun itv s2 h2 => ?_
  obtain ⟨it, fp, tn, J, H1, rfl, I2, T, t2, f2, ⟨ps, hP, htr⟩, q⟩ := h2
  have oP : s2.heap.get? P = some { cls := .none, data := .fields ps } := I2.hok P _ hP
  have cd : PySem.W.CodeHd s2.heap c P := TB.code.keeps I2.bk
  refine ⟨I2.nolimit, ?_⟩
  have nP : ∀ b ∈ fp, b ≠ P := fun b hb z => by
    have q := (f2 b hb).1
    rw [z, hP] at q
    cases q
  have rest : ∀ (code : Value) (h3 : Heap) (tk : Nat) (ps' : Array Value), Heap.ExtBut P s2.heap h3 → h3.get? P = some { cls := .none, data := .fields ps' } → (∃ more, ps' = ps ++ more) → TriplesOk ps'.toList →
      wpAny (model X.prog X.w) X.A (builtinsFor X.env.globals X.env.builtins) (fun bi s4 =>
        ∀ h', h'.Ns s4.heap.objs.size (fun y => if y = ".0" then some (.ref it) else none) → Heap.SameBut s4.heap.objs.size (s4.heap.push { cls := .type "frame", data := .dict #[] }) h' →
          Made X pins σ st (Q (.bl (!st))) (Q (.bl st)) (.ref h'.objs.size) { s4 with
            gens := s4.gens.push (.fresh (.compStart (.GeneratorExp elt [⟨tg, iter, ifs, 0⟩] scope gpos) 0 (.ref it) .none (genEnv scope (cloFrom X.env.cells scope.names []) s4.heap.objs.size code bi X.env))),
            toks := s4.toks + 1 + 1 + 1,
            heap := h'.push { cls := .type "generator", data := .fields #[.int s4.gens.size 0, .str "<genexpr>" (s4.toks + 1), .str (X.env.qual ++ "<genexpr>") (s4.toks + 1 + 1)] } }) X.xe { s2 with heap := h3, toks := tk } := by
    intro code h3 tk ps' hx hP3 hmore htr3
    obtain ⟨bm, ob, b1, b2, b3, b4, b5, b6, b7, b8⟩ := TB.bm
    refine wpAny_builtinsFor (m := X.mg) ?_ b1 b2 (hx _ _ b4 (I2.bk _ _ b5)) b6 b7 b8 ?_
    · rw [I2.ok.glob]
      exact (I2.mod.glob.keeps I2.bk).extBut hx TB.gP
    obtain ⟨more, rfl⟩ := hmore
    have I3 : Inv X pins σ (upd H1 P (.tbl (ps ++ more))) { s2 with heap := h3, toks := tk } := GxR.inv_tab (more := more) (h' := h3) (g' := s2.gens) (d' := s2.drawn) (t' := tk) I2 hP hx hP3 I2.bare
    have tab : GxR.Tabbed P H1 (upd H1 P (.tbl (ps ++ more))) := ⟨⟨_, upd_same, htr3⟩, fun b hb => upd_ne hb⟩
    obtain ⟨W, ⟨m0, w0⟩, turn⟩ := q _ tab
    have t3 : tn 0 h3 := T.keep _ _ _ t2 fun b hb o e => hx b o (nP b hb) e
    have f3 : ∀ b ∈ fp, FpOk X pins (upd H1 P (.tbl (ps ++ more))) b ∧ b < h3.objs.size := fun b hb => by
      refine ⟨⟨?_, (f2 b hb).2⟩, ?_⟩
      · rw [upd_ne (nP b hb)]
        exact (f2 b hb).1
      · obtain ⟨o, e, _⟩ := T.obj _ _ t3 b hb
        exact Heap.lt_size e
    generalize upd H1 P (.tbl (ps ++ more)) = H3 at I3 w0 f3
    intro h' hn' hs'
    generalize hs4 : ({ s2 with heap := h3, toks := tk } : Shared) = s4 at I3 hn' hs' ⊢
    have e4 : s4.heap = h3 := by rw [← hs4]
    rw [← e4] at t3 f3
    have hsz : h'.objs.size = s4.heap.objs.size + 1 := by rw [hs'.1, Heap.size_push]
    have hk : ∀ b o, s4.heap.get? b = some o → h'.get? b = some o := fun b o e => by
      rw [hs'.2 b (Nat.ne_of_lt (Heap.lt_size e))]
      exact Heap.get?_push_of_some _ e
    generalize hgo : ({ cls := .type "generator", data := .fields #[.int s4.gens.size 0, .str "<genexpr>" (s4.toks + 1), .str (X.env.qual ++ "<genexpr>") (s4.toks + 1 + 1)] } : Obj) = go
    have isg : ∀ hh : Heap, hh.get? h'.objs.size = some go → hh.IsGen h'.objs.size s4.gens.size := fun hh e => ⟨go, _, _, e, by rw [← hgo], by rw [← hgo], by rw [← hgo]⟩
    have hga : (h'.push go).get? h'.objs.size = some go := Heap.get?_push_size _ (by rw [← hgo]; rfl)
    have rmA : Room k (X.A.in1.in1.deeper (genEnv scope (cloFrom X.env.cells scope.names []) s4.heap.objs.size code builtinsNs X.env)) := by
      refine ⟨hr.hd, ?_, ?_⟩
      · have := hr.dp
        show X.A.depth + 1 + 3 * k + 5 < _
        omega
      · have := hr.un
        show X.A.units + 1 + 1 + 3 + 16 * k + 200 < _
        omega
    have bare : AllBare (s4.gens.push (.fresh (.compStart (.GeneratorExp elt [⟨tg, iter, ifs, 0⟩] scope gpos) 0 (.ref it) .none (genEnv scope (cloFrom X.env.cells scope.names []) s4.heap.objs.size code builtinsNs X.env)))) := I3.bare.push rfl
    have J := gen_start (A := X.A.in1.in1.deeper (genEnv scope (cloFrom X.env.cells scope.names []) s4.heap.objs.size code builtinsNs X.env)) (code := code) (go := go) (tk := s4.toks + 1 + 1 + 1) I3 S.blk hN S.cell f3 hr.hd
      (by show X.A.frames.map _ = _; rw [I3.ok.frames]; rfl) hn' hk (fun v z => by rw [← hgo] at z; cases z) hga hsz bare
    have pg := hg _ s4 H3 s4.heap.objs.size code fp rmA
    have pt := ht _ s4 H3 s4.heap.objs.size code fp rmA
    have pe := he _ s4 H3 s4.heap.objs.size code fp rmA
    have hco : (genEnv scope (cloFrom X.env.cells scope.names []) s4.heap.objs.size code builtinsNs X.env).scope.isCoroutine = false := S.co
    generalize genEnv scope (cloFrom X.env.cells scope.names []) s4.heap.objs.size code builtinsNs X.env = cenv at J pg pt pe rmA bare hco ⊢
    have out : ∀ p ∈ [(h'.objs.size, go)], p.1 ∉ fp := fun p hp z => by
      rw [List.mem_singleton.mp hp] at z
      have := (f3 _ z).2
      have z3 : h'.objs.size < s4.heap.objs.size := this
      omega
    have kp5 : ∀ b o, s4.heap.get? b = some o → (h'.push go).get? b = some o := fun b o e => Heap.get?_push_of_some _ (hk b o e)
    refine ⟨h'.objs.size, gctx X (X.A.in1.in1.deeper cenv) s4 H3 scope cenv fp, [(h'.objs.size, go)], go, s4.gens.size, m0 + 1, _, rfl, rfl, rfl, List.mem_singleton.mpr rfl, isg, isg _ hga, I3.nolimit.keeps kp5, Array.getElem?_push_size .., ⟨rfl, ?_⟩, fun σ' H' s' I' => ?_⟩
    · refine seg_first (fun A Q E hq => T.self A 0 _ Q E (T.keep _ _ _ t3 fun b _ o e => kp5 b o e) hq) ?_
      exact seg_turns hc hco out T pg pt pe turn m0 (m0 + 1) (Nat.lt_succ_self _) 0 _ _ H3 (inv_heap J rfl rfl (allBare_setGen (s := { s4 with gens := _, toks := _, heap := _ }) bare rfl)) (T.keep _ _ _ t3 fun b _ o e => kp5 b o e) (fun b hb => (f3 b hb).1.1) w0
    · exact I3.call' (ch := fp) I'.os I'.base I'.hok I'.bare fun b hb => ⟨(f3 b hb).1.2.2.2.1, (f3 b hb).1.2.1, (f3 b hb).1.2.2.2.2.1, (f3 b hb).1.2.2.2.2.2⟩
  cases hf : codeAmong gpos ps.toList with
  | none =>
    refine wpAny_genexprCodeX hcode (cd.code oP htr) (cd.tab oP) hf fun c' h' tk hx hge hlt hco' _ htab' _ => ?_
    obtain ⟨o1, v1, f1, tf, fl, t1, inF, tx, t0, op, _, _, _, _, _, _, _, _, _, htr', _⟩ := hco'
    exact rest _ h' tk _ hx htab'.2 ⟨_, rfl⟩ htr'
  | some cv =>
    refine wpAny_genexprCode_hit hcode (cd.code oP htr) hf ?_
    exact rest cv s2.heap s2.toks ps (Heap.ExtBut.refl _ _) oP ⟨#[], by simp⟩ htr
/-- THE RULE: all(elt for tg in iter if ..) -/
theorem pe_allG {c P : Addr} {elt tg iter : Expr} {ifs : List Expr} {p pos gpos : Pos} {scope : Scope} {own : List (Str × Nat)} {wi : TI} {g : TG} {tt : TT} {te : TE} {k : Nat}
    (hc : X.calm = true) (hN : X.N.Nodup) (hr : Room (k + 1) X.A) (hgl : Gl X "all") (hm : X.mg "all" = none) (TB : GxR.TabB X.base X.mg c P) (hcode : X.env.code = .ref c) (S : GSc X.N X.env.scope scope own) (hi : PI X tg iter wi)
    (hg : ∀ (A : Around) (s : Shared) (H : Hp) (C : Addr) (code : Value) (fp : List Addr), Room k A → PG (gctx X A s H scope (genEnv scope (cloFrom X.env.cells scope.names []) C code builtinsNs X.env) fp) tg g)
    (ht : ∀ (A : Around) (s : Shared) (H : Hp) (C : Addr) (code : Value) (fp : List Addr), Room k A → PTs (gctx X A s H scope (genEnv scope (cloFrom X.env.cells scope.names []) C code builtinsNs X.env) fp) ifs tt)
    (he : ∀ (A : Around) (s : Shared) (H : Hp) (C : Addr) (code : Value) (fp : List Addr), Room k A → PE (gctx X A s H scope (genEnv scope (cloFrom X.env.cells scope.names []) C code builtinsNs X.env) fp) elt te)
    (hs : ∀ v, genFold iter X.env v = pure v := by intro _; rfl) (hb : bootBuiltins "all" = some (.builtin "all") := by decide +kernel)
    (hse : starEach [.GeneratorExp elt [⟨tg, iter, ifs, 0⟩] scope gpos] X.env = (false, eval (.GeneratorExp elt [⟨tg, iter, ifs, 0⟩] scope gpos) X.env) :: starEach [] X.env := by rfl) :
    PE X (.Call (.Name "all" p) [.GeneratorExp elt [⟨tg, iter, ifs, 0⟩] scope gpos] [] pos) (tAG P false wi g tt te (own.map (·.2))) := by
  refine ⟨fun pins s σ H Q I h => ?_⟩
  refine wpAny_Call_Name_kw (ld_blt I hgl hm hb (PyProof.Rows.callWith_builtin1 ?_ hse (by rfl)))
  rw [hse]
  show wpAny _ _ (spliced ((false, eval (.GeneratorExp elt [⟨tg, iter, ifs, 0⟩] scope gpos) X.env) :: backTo pos (starEach [] X.env))) _ _ s
  refine Calls.spliced_cons (thn (gen_make hc hN hr TB hcode S hi hg ht he hs I h) fun u s5 hu => ?_)
  obtain ⟨a, Y, pn, go, gi, n, gs, rfl, eP, eW, hpa, hgen, isg, lim, hgs, goes, back⟩ := hu
  refine Calls.spliced_nil (PySem.call_function_tree F.kind_all F.plain_all F.entry_all (F.args_all1 _) ?_)
  unfold Builtin.«all»
  refine wpAny_bind (m := oneArg "all" _) (wpAny_pure (wpAny_bind (wpAny_pyIter_gen isg ?_)))
  rw [← eP, ← eW] at goes ⊢
  exact wpAny_pure ⟨plainId_quiet F.plain_all_loop _, all_walk hr.hd (by have := hr.dp; omega) hpa hgen
    (fun σ' H' s' J q => ⟨.bl true, H', back σ' H' s' J, rfl, q⟩) (fun σ' H' s' J q => ⟨.bl false, H', back σ' H' s' J, rfl, q⟩) n s5 gs isg lim hgs goes⟩
/-- THE RULE: any(elt for tg in iter if ..) -/
theorem pe_anyG {c P : Addr} {elt tg iter : Expr} {ifs : List Expr} {p pos gpos : Pos} {scope : Scope} {own : List (Str × Nat)} {wi : TI} {g : TG} {tt : TT} {te : TE} {k : Nat}
    (hc : X.calm = true) (hN : X.N.Nodup) (hr : Room (k + 1) X.A) (hgl : Gl X "any") (hm : X.mg "any" = none) (TB : GxR.TabB X.base X.mg c P) (hcode : X.env.code = .ref c) (S : GSc X.N X.env.scope scope own) (hi : PI X tg iter wi)
    (hg : ∀ (A : Around) (s : Shared) (H : Hp) (C : Addr) (code : Value) (fp : List Addr), Room k A → PG (gctx X A s H scope (genEnv scope (cloFrom X.env.cells scope.names []) C code builtinsNs X.env) fp) tg g)
    (ht : ∀ (A : Around) (s : Shared) (H : Hp) (C : Addr) (code : Value) (fp : List Addr), Room k A → PTs (gctx X A s H scope (genEnv scope (cloFrom X.env.cells scope.names []) C code builtinsNs X.env) fp) ifs tt)
    (he : ∀ (A : Around) (s : Shared) (H : Hp) (C : Addr) (code : Value) (fp : List Addr), Room k A → PE (gctx X A s H scope (genEnv scope (cloFrom X.env.cells scope.names []) C code builtinsNs X.env) fp) elt te)
    (hs : ∀ v, genFold iter X.env v = pure v := by intro _; rfl) (hb : bootBuiltins "any" = some (.builtin "any") := by decide +kernel)
    (hse : starEach [.GeneratorExp elt [⟨tg, iter, ifs, 0⟩] scope gpos] X.env = (false, eval (.GeneratorExp elt [⟨tg, iter, ifs, 0⟩] scope gpos) X.env) :: starEach [] X.env := by rfl) :
    PE X (.Call (.Name "any" p) [.GeneratorExp elt [⟨tg, iter, ifs, 0⟩] scope gpos] [] pos) (tAG P true wi g tt te (own.map (·.2))) := by
  refine ⟨fun pins s σ H Q I h => ?_⟩
  refine wpAny_Call_Name_kw (ld_blt I hgl hm hb (PyProof.Rows.callWith_builtin1 ?_ hse (by rfl)))
  rw [hse]
  show wpAny _ _ (spliced ((false, eval (.GeneratorExp elt [⟨tg, iter, ifs, 0⟩] scope gpos) X.env) :: backTo pos (starEach [] X.env))) _ _ s
  refine Calls.spliced_cons (thn (gen_make hc hN hr TB hcode S hi hg ht he hs I h) fun u s5 hu => ?_)
  obtain ⟨a, Y, pn, go, gi, n, gs, rfl, eP, eW, hpa, hgen, isg, lim, hgs, goes, back⟩ := hu
  refine Calls.spliced_nil (PySem.call_function_tree F.kind_any F.plain_any F.entry_any (F.args_any1 _) ?_)
  unfold Builtin.«any»
  refine wpAny_bind (m := oneArg "any" _) (wpAny_pure (wpAny_bind (wpAny_pyIter_gen isg ?_)))
  rw [← eP, ← eW] at goes ⊢
  exact wpAny_pure ⟨plainId_quiet F.plain_any_loop _, any_walk hr.hd (by have := hr.dp; omega) hpa hgen
    (fun σ' H' s' J q => ⟨.bl false, H', back σ' H' s' J, rfl, q⟩) (fun σ' H' s' J q => ⟨.bl true, H', back σ' H' s' J, rfl, q⟩) n s5 gs isg lim hgs goes⟩
end
section
variable {J : It} {n : Nat} {G : Hp → Prop} {Y : Nat → Hp → V → Hp → Prop}
/-- a walk's turns, by what holds between two of them -/
theorem ag_it (w : Walk J n G Y) {g : TG} {tt : TT} {te : TE} {vs : List Nat} {σ : L2.St} {H2 : Hp} {st : Bool} {Qt Qs : Hp → Prop} (Pv : Nat → Hp → Prop) (h0 : Pv 0 H2) (hG : ∀ i H, i ≤ n → Pv i H → G H)
    (hs : ∀ i x H H', i < n → Pv i H → Y i H x H' → g x (wipe σ vs) H' fun σ2 H2 => wipe σ2 vs = wipe σ vs ∧ tt σ2 H2 fun b H3 =>
      if b = true then te σ2 H3 fun y H4 => ∃ c, y = .bl c ∧ (c = st → Qs H4) ∧ (c ≠ st → Pv (i + 1) H4) else Pv (i + 1) H3) (hd : ∀ H, Pv n H → Qt H) :
    ∃ W : Nat → Nat → Hp → Prop, (∃ m, W 0 m H2) ∧ ∀ i m H', W i m H' → Step J g tt te vs σ st Qt Qs W i m H' := by
  refine ⟨fun i m H => m = n - i ∧ i ≤ n ∧ Pv i H, ⟨n, by simp, Nat.zero_le _, h0⟩, ?_⟩
  rintro i m H ⟨rfl, hi, p⟩
  have q := hG i H hi p
  by_cases hlt : i < n
  · exact .inr ⟨w.goes i H hlt q, Pv (i + 1), fun H' p' => ⟨n - (i + 1), by omega, rfl, hlt, p'⟩, fun x H' y => hs i x H H' hlt p (w.yields i H x H' hlt q y)⟩
  · have e : i = n := by omega
    subst e
    exact .inl ⟨w.stops H q, hd H p⟩
end
/-! ### a def whose code has a table; the end -/
structure FunC (K : PySem.W.Frag) (x qual : Str) (st : Stmt) (f : Addr) (fd : FuncData) (c : Addr) : Prop where
  ex : ∃ (oc : Value) (od : Option Addr) (kV doc pm : Value) (an : Option Addr) (ct : Value) (osl : Array (Option Value)),
    fd = PySem.W.fnOf x qual (defArgs st) (defBody st) (defScope st) .none kV doc pm an (.ref c) ct ∧ K.lookup f = some ⟨oc, od, .func fd, osl⟩ ∧ PySem.W.codeIn K (.ref c) qual = true
  kp : PySem.W.keepIn K (.ref f) = true
theorem FunC.toFun {K : PySem.W.Frag} {x qual : Str} {st : Stmt} {f : Addr} {fd : FuncData} {c : Addr} (F : FunC K x qual st f fd c) : Fun K x qual st f fd := by
  obtain ⟨oc, od, kV, doc, pm, an, ct, osl, h1, h2, h3⟩ := F.ex
  exact ⟨⟨oc, od, kV, doc, pm, an, _, ct, osl, h1, h2, h3⟩, F.kp⟩
theorem FunC.ok {P : Program} {w : World} {K : PySem.W.Frag} {mg : Str → Option Value} {base : Heap} {x qual : Str} {st : Stmt} {f : Addr} {fd : FuncData} {c : Addr} {N ps : List Str} {k : Nat} {sp : Sp} (F : FunC K x qual st f fd c) (S : FnScope N ps (defScope st))
    (len : ∀ vs H Q E, sp vs H Q E → vs.length = ps.length)
    (hbody : ∀ (A : Around) (outer : List Env) (s : Shared) (H : Hp) (vs : List V) (Q : VK) (E : XK), Room k (A.deeper (envOfC qual (defScope st) s.heap.objs.size f (.ref c))) → sp vs H Q E →
      ∃ t, PSs (cxOf CX0 P w K mg base N qual (defScope st) f (.ref c) A outer s H E).nox (defBody st) t ∧ t { nx := fun _ H' => Q .non H', rt := Q } (start N vs) H) : FnOk P w K mg base CX0 (k + 1) f fd ps sp := by
  obtain ⟨oc, od, kV, doc, pm, an, ct, osl, rfl, lk, hcd⟩ := F.ex
  refine fn_of lk hcd S len fun A outer s H vs Q E hr hsp => ?_
  obtain ⟨t, h, q⟩ := hbody A outer s H vs Q E hr hsp
  exact ⟨t, h.nox, q⟩
theorem funC_mk {K : PySem.W.Frag} {x qual : Str} {st : Stmt} {f c : Addr} {oc : Value} {od an : Option Addr} {osl : Array (Option Value)} {kV doc pm cdv ct : Value} (l : K.lookup f = some ⟨oc, od, .func (PySem.W.fnOf x qual (defArgs st) (defBody st) (defScope st) .none kV doc pm an cdv ct), osl⟩)
    (e : cdv = .ref c) (h : PySem.W.codeIn K cdv qual = true) (k : PySem.W.keepIn K (.ref f) = true) : FunC K x qual st f (PySem.W.fnOf x qual (defArgs st) (defBody st) (defScope st) .none kV doc pm an (.ref c) ct) c := by
  subst e
  exact ⟨⟨oc, od, kV, doc, pm, an, ct, osl, rfl, l, h⟩, k⟩
/-- what the top tells of the tables of its defs -/
def TabsIn (q : Program) (K : PySem.W.Frag) (h : Heap) : Prop := ∀ (x : Str) (d : DefRec) (c P : Addr), (recsOf q).find? (fun e => e.name == x) = some d → PySem.W.tabIn K x = some (c, P) →
  PySem.W.CodeHd h c P ∧ h.get? P = some { cls := .none, data := .fields #[] }
theorem walk_tabs {l : PySem.W.OpenLaw} {n k : Nat} {q : Program} {loose : List Str} {XP : (Str → Option Value) → Heap → Prop} {YP : World → Heap → Prop} {d : DefRec} {K : Params → PySem.W.Frag} {CX : World → CXT} {x : Str}
    (hn : l.most = some n) (hn2 : n ≤ sizeLine) (hdf : d.params.defaults = []) (hr : Room k callerA) (hY : ∀ (w : World) (h : Heap), YP w h → (K w.params).In h)
    (F : ∀ (w : World) (mg : Str → Option Value) (fa : Addr) (h : Heap), (K w.params).In h → h.Ns mainGlobals mg → mg d.name = some (.ref fa) → TabsIn q (K w.params) h → LamX.LawAtS l w (K w.params) (CX w) k n x mg fa h)
    (hCX : ∀ (w : World) (H : Hp) (s : Shared) (e : Value) (s' : Shared), CX w [] H s (fun _ _ _ => False) e s' → False) :
    PySem.W.WalkO q loose XP YP l.row.toRowW d [] (fun f vs => PySem.call f vs) := by
  refine Att.attach_callB hn hdf fun w s0 s1 mg mb fa o pm cd doc a vs ns G Y ho hd hcd hmg hobj hints hlen hbits hg => ?_
  have KX := hY w _ Y
  obtain ⟨fd, cs, sp, hT, nT, C, hb, hsp, hF⟩ := F w mg fa _ KX G.T.g hmg fun x d c P h1 h2 => PySem.W.tab_of G.T KX h1 h2
  exact LamX.law_callTs KX G.T.g G.T.b G.T.builtins G.T.nolimit hg hT nT C G.T.bmain hobj hints (Nat.le_trans hlen hn2) hr hF hb (fun H hH hS => hsp H a ns hlen hbits hH hS) fun H e s' => hCX w H s1 e s'
theorem tabIn_of {K : PySem.W.Frag} {x : Str} {f c P : Addr} {oc e1 : Value} {od dd : Option Addr} {fd : FuncData} {sl s2 : Array (Option Value)} {vs : Array Value} (a : PySem.W.nsIn K mainGlobals x = some (some (.ref f)))
    (l : K.lookup f = some ⟨oc, od, .func fd, sl⟩) (e : fd.code = .ref c) (k : K.lookup c = some ⟨e1, dd, .fields vs, s2⟩) (v : vs[11]? = some (.ref P)) : PySem.W.tabIn K x = some (c, P) := by
  unfold PySem.W.tabIn
  rw [a]
  simp only [l, e, k, v]
theorem tabB {base : Heap} {mg : Str → Option Value} {c P : Addr} (h : LamX.TabB base mg c P) : GxR.TabB base mg c P := ⟨h.code, h.bm, h.gP⟩
end GE

set_option Elab.async false
set_option linter.all false
set_option maxRecDepth 100000
set_option maxHeartbeats 2000000
namespace My
open PySem PySem.Spec PyProof.Rows L2
/-! ### tables -/
def Tbs (Ts : List Addr) (H : Hp) : Prop := ∀ P ∈ Ts, GxR.TabG H P
def Tk (Ts : List Addr) (H H' : Hp) : Prop := (∀ b, b ∉ Ts → H' b = H b) ∧ Tbs Ts H'
theorem Tk.refl {Ts : List Addr} {H : Hp} (h : Tbs Ts H) : Tk Ts H H := ⟨fun _ _ => rfl, h⟩
theorem Tk.trans {Ts : List Addr} {H H1 H2 : Hp} (a : Tk Ts H H1) (b : Tk Ts H1 H2) : Tk Ts H H2 := ⟨fun x hx => (b.1 x hx).trans (a.1 x hx), b.2⟩
theorem Tk.of {Ts : List Addr} {H H1 : Hp} {P : Addr} (h : Tbs Ts H) (hP : P ∈ Ts) (t : GxR.Tabbed P H H1) : Tk Ts H H1 := by
  refine ⟨fun b hb => t.2 b fun z => hb (by rw [z]; exact hP), fun b hb => ?_⟩
  by_cases z : b = P
  · rw [z]; exact t.1
  · obtain ⟨ps, e, q⟩ := h b hb
    exact ⟨ps, by rw [t.2 b z]; exact e, q⟩
theorem Tbs.out {Ts : List Addr} {H : Hp} {b : Addr} {o : HO} (h : Tbs Ts H) (e : H b = some o) (n : ∀ ps, o ≠ .tbl ps) : b ∉ Ts := fun hb => by
  obtain ⟨ps, q, _⟩ := h b hb
  rw [e] at q
  exact n ps (Option.some.inj q)
theorem Tk.at {Ts : List Addr} {H H' : Hp} {b : Addr} {o : HO} (t : Tk Ts H H') (h : Tbs Ts H) (e : H b = some o) (n : ∀ ps, o ≠ .tbl ps) : H' b = some o := by
  rw [t.1 b (h.out e n)]; exact e
theorem Tk.tup {Ts : List Addr} {H H' : Hp} {b : Addr} {xs : List V} (t : Tk Ts H H') (h : Tbs Ts H) (e : H b = some (.tup xs)) : H' b = some (.tup xs) := t.at h e fun ps z => by cases z
theorem Tbs.same {Ts : List Addr} {H H' : Hp} (h : Tbs Ts H) (s : Same H H') : Tbs Ts H' := fun b hb => let ⟨ps, e, q⟩ := h b hb; ⟨ps, s _ _ e, q⟩
theorem Tbs.new {Ts : List Addr} {H : Hp} {p : Addr} {o : HO} (h : Tbs Ts H) (hp : H p = none) : Tbs Ts (upd H p o) := h.same (same_upd hp)
theorem Tbs.kp {Ts : List Addr} {H H' : Hp} {t : Addr} {n : Nat} (h : Tbs Ts H) (hT : Tap H t n) (k : Kp t H H') : Tbs Ts H' := fun b hb => by
  obtain ⟨ps, e, q⟩ := h b hb
  refine ⟨ps, k _ _ (fun z => ?_) e, q⟩
  obtain ⟨_, _, _, _, _, e1, _⟩ := hT
  rw [z, e1] at e
  cases e
theorem Tap.tk {Ts : List Addr} {H H' : Hp} {t : Addr} {n : Nat} (hT : Tap H t n) (h : Tbs Ts H) (k : Tk Ts H H') : Tap H' t n := by
  obtain ⟨c, ns, sp, re, ca, h1, h2, h3⟩ := hT
  exact ⟨c, ns, sp, re, ca, k.at h h1 (fun ps z => by cases z), k.at h h2 (fun ps z => by cases z), h3⟩
/-! ### kinds of things -/
def Typed (H : Hp) : V → Prop
  | .non => True
  | .bl _ => True
  | .int _ => True
  | .str _ => True
  | .ref a => (∃ xs, H a = some (.tup xs)) ∨ (∃ xs, H a = some (.lst xs)) ∨ (∃ kvs, H a = some (.dK kvs))
  | _ => False
theorem Typed.of {H H' : Hp} {v : V} (h : Typed H v) (s : ∀ b o, H b = some o → (∀ ps, o ≠ .tbl ps) → v = .ref b → H' b = some o) : Typed H' v := by
  cases v with
  | ref a =>
    rcases h with ⟨xs, h⟩ | ⟨xs, h⟩ | ⟨xs, h⟩
    · exact .inl ⟨xs, s _ _ h (fun ps z => by cases z) rfl⟩
    · exact .inr (.inl ⟨xs, s _ _ h (fun ps z => by cases z) rfl⟩)
    · exact .inr (.inr ⟨xs, s _ _ h (fun ps z => by cases z) rfl⟩)
  | _ => exact h
theorem Typed.same {H H' : Hp} {v : V} (h : Typed H v) (s : Same H H') : Typed H' v := h.of fun b o e _ _ => s b o e
theorem Typed.tk {Ts : List Addr} {H H' : Hp} {v : V} (h : Typed H v) (t : Tk Ts H H') (hb : Tbs Ts H) : Typed H' v := h.of fun b o e n _ => t.at hb e n
/-- whether a thing is of a built-in kind -/
def kindB (H : Hp) (n : String) : V → Bool
  | .non => false
  | .bl _ => n == "bool" || n == "int"
  | .int _ => n == "int"
  | .str _ => n == "str"
  | .ref a => match H a with
    | some (.tup _) => n == "tuple"
    | some (.lst _) => n == "list"
    | some (.dK _) => n == "dict"
    | _ => false
  | _ => false
theorem ty_kind {K : PySem.W.Frag} {H : Hp} {v : V} {n : String} (hn : n = "int" ∨ n = "bool" ∨ n = "str" ∨ n = "tuple") (h : Typed H v) : ∃ t, TyX K H v t ∧ PySem.W.kitOne K t (.type n) = some (kindB H n v) := by
  cases v with
  | non => rcases hn with rfl | rfl | rfl | rfl <;> exact ⟨_, .base .non, kit_ty (r := false) (by decide +kernel)⟩
  | bl b =>
    rcases hn with rfl | rfl | rfl | rfl
    · exact ⟨_, .base (.bl b), kit_ty (r := true) (by decide +kernel)⟩
    · exact ⟨_, .base (.bl b), kit_ty (r := true) (by decide +kernel)⟩
    · exact ⟨_, .base (.bl b), kit_ty (r := false) (by decide +kernel)⟩
    · exact ⟨_, .base (.bl b), kit_ty (r := false) (by decide +kernel)⟩
  | int i =>
    rcases hn with rfl | rfl | rfl | rfl
    · exact ⟨_, .base (.int i), kit_ty (r := true) (by decide +kernel)⟩
    · exact ⟨_, .base (.int i), kit_ty (r := false) (by decide +kernel)⟩
    · exact ⟨_, .base (.int i), kit_ty (r := false) (by decide +kernel)⟩
    · exact ⟨_, .base (.int i), kit_ty (r := false) (by decide +kernel)⟩
  | str x =>
    rcases hn with rfl | rfl | rfl | rfl
    · exact ⟨_, .base (.str x), kit_ty (r := false) (by decide +kernel)⟩
    · exact ⟨_, .base (.str x), kit_ty (r := false) (by decide +kernel)⟩
    · exact ⟨_, .base (.str x), kit_ty (r := true) (by decide +kernel)⟩
    · exact ⟨_, .base (.str x), kit_ty (r := false) (by decide +kernel)⟩
  | ref a =>
    rcases h with ⟨xs, h⟩ | ⟨xs, h⟩ | ⟨xs, h⟩
    · refine ⟨_, .base (.tup h), ?_⟩
      have e : kindB H n (.ref a) = (n == "tuple") := by simp only [kindB, h]
      rw [e]
      rcases hn with rfl | rfl | rfl | rfl <;> exact kit_ty (by decide +kernel)
    · refine ⟨_, .base (.lst h), ?_⟩
      have e : kindB H n (.ref a) = (n == "list") := by simp only [kindB, h]
      rw [e]
      rcases hn with rfl | rfl | rfl | rfl <;> exact kit_ty (by decide +kernel)
    · refine ⟨_, .base (.dK h), ?_⟩
      have e : kindB H n (.ref a) = (n == "dict") := by simp only [kindB, h]
      rw [e]
      rcases hn with rfl | rfl | rfl | rfl <;> exact kit_ty (by decide +kernel)
  | _ => exact h.elim
def isN : V → Bool
  | .int _ => true
  | _ => false
theorem isN_int {v : V} (h : isN v = true) : ∃ i, v = .int i := by
  cases v <;> first | exact ⟨_, rfl⟩ | exact Bool.noConfusion (show false = true from h)
theorem isN_kind {H : Hp} {v : V} (h : Typed H v) : isN v = (kindB H "int" v && !kindB H "bool" v) := by
  cases v with
  | ref a => rcases h with ⟨xs, h⟩ | ⟨xs, h⟩ | ⟨xs, h⟩ <;> simp [isN, kindB, h]
  | bl b => simp [isN, kindB]
  | int i => simp [isN, kindB]
  | _ => simp [isN, kindB]
def inW (v : V) (a b : Int) : Bool := match v with
  | .int i => decide (a ≤ i) && decide (i ≤ b)
  | _ => false
theorem inW_not {v : V} {a b : Int} (h : ¬ isN v = true) : inW v a b = false := by
  cases v <;> first | rfl | exact absurd rfl h
def spNum : Sp := fun vs H Q _ => ∃ v, vs = [v] ∧ Typed H v ∧ Q (.bl (isN v)) H
def spWithin : Sp := fun vs H Q _ => ∃ v a b, vs = [v, .int a, .int b] ∧ Typed H v ∧ Q (.bl (inW v a b)) H
/-- each is below the next -/
def risB : List Int → Bool
  | a :: b :: r => decide (a < b) && risB (b :: r)
  | _ => true
theorem ris_iff : ∀ ws : List Int, risB ws = true ↔ ∀ (k : Nat) (x y : Int), ws[k]? = some x → ws[k + 1]? = some y → x < y
  | [] => by simp [risB]
  | [a] => by simp [risB]
  | a :: b :: r => by
    rw [risB, Bool.and_eq_true, decide_eq_true_eq, ris_iff (b :: r)]
    constructor
    · rintro ⟨h, t⟩ k x y h1 h2
      cases k with
      | zero =>
        have e1 : a = x := Option.some.inj h1
        have e2 : b = y := Option.some.inj h2
        rw [← e1, ← e2]; exact h
      | succ k => exact t k x y h1 h2
    · intro t
      exact ⟨t 0 a b rfl rfl, fun k x y h1 h2 => t (k + 1) x y h1 h2⟩
/-! ### homes and names -/
def unI : V → Int
  | .int i => i
  | _ => 0
def homeV (xs : List V) : Bool := xs.all (fun x => inW x 0 6) && risB (xs.map unI)
def homeB (H : Hp) : V → Bool
  | .ref a => match H a with
    | some (.tup xs) => homeV xs
    | _ => false
  | _ => false
theorem map_unI : ∀ {xs : List V}, (∀ x ∈ xs, inW x 0 6 = true) → xs = (xs.map unI).map V.int
  | [], _ => rfl
  | x :: r, h => by
    have hx := h x List.mem_cons_self
    obtain ⟨i, rfl⟩ : ∃ i, x = .int i := by
      cases x <;> first | exact ⟨_, rfl⟩ | exact Bool.noConfusion (show false = true from hx)
    rw [List.map_cons, List.map_cons, ← map_unI fun y hy => h y (List.mem_cons_of_mem _ hy)]
    rfl
/-- a thing, and what is in it where it is a tuple -/
def Deep (H : Hp) (v : V) : Prop := Typed H v ∧ ∀ a xs, v = .ref a → H a = some (.tup xs) → xs.length ≤ 1000 ∧ ∀ x ∈ xs, Typed H x
theorem kind_tup {H : Hp} {v : V} (h : Typed H v) (k : kindB H "tuple" v = true) : ∃ a xs, v = .ref a ∧ H a = some (.tup xs) := by
  cases v with
  | ref a =>
    rcases h with ⟨xs, e⟩ | ⟨xs, e⟩ | ⟨xs, e⟩
    · exact ⟨a, xs, rfl, e⟩
    · simp [kindB, e] at k
    · simp [kindB, e] at k
  | _ => simp [kindB] at k
theorem not_tup {H : Hp} {v : V} (k : ¬ kindB H "tuple" v = true) : homeB H v = false := by
  cases v with
  | ref a =>
    show (match H a with | some (.tup xs) => homeV xs | _ => false) = false
    cases e : H a with
    | none => rfl
    | some o =>
      cases o with
      | tup xs => exact absurd (by simp [kindB, e]) k
      | _ => rfl
  | _ => rfl
def signOk (c : Nat) : Bool := decide (97 ≤ c) && decide (c ≤ 122)
theorem le_a (c : Nat) : (!decide (([c] : List Nat) < [97])) = decide (97 ≤ c) := by
  by_cases h : 97 ≤ c
  · simp [List.cons_lt_cons_iff, h]
  · simp [List.cons_lt_cons_iff, h]; omega
theorem le_z (c : Nat) : (!decide (([122] : List Nat) < [c])) = decide (c ≤ 122) := by
  by_cases h : c ≤ 122
  · simp [List.cons_lt_cons_iff, h]
  · simp [List.cons_lt_cons_iff, h]; omega
def nameB : V → Bool
  | .str z => (decide (1 ≤ z.length) && decide (z.length ≤ 8)) && z.cps.toList.all signOk
  | _ => false
/-- a text of few plain signs -/
def Plain (z : Str) : Prop := z.length ≤ 100 ∧ ∀ c ∈ z.cps.toList, c < 128
def PlainV : V → Prop
  | .str z => Plain z
  | _ => True
theorem kind_str {H : Hp} {v : V} (h : Typed H v) (k : kindB H "str" v = true) : ∃ z, v = .str z := by
  cases v with
  | str z => exact ⟨z, rfl⟩
  | ref a => rcases h with ⟨xs, e⟩ | ⟨xs, e⟩ | ⟨xs, e⟩ <;> simp [kindB, e] at k
  | _ => simp [kindB] at k
theorem not_str {H : Hp} {v : V} (k : ¬ kindB H "str" v = true) : nameB v = false := by
  cases v with
  | str z => exact absurd (by simp [kindB]) k
  | _ => rfl
theorem all_get {α : Type} {l : List α} {f : α → Bool} (h : ∀ (k : Nat) (x : α), l[k]? = some x → f x = true) : l.all f = true := by
  rw [List.all_eq_true]
  intro x hx
  obtain ⟨k, hk, e⟩ := List.getElem_of_mem hx
  exact h k x (by rw [List.getElem?_eq_getElem hk, e])
theorem all_not {α : Type} {l : List α} {f : α → Bool} {k : Nat} {x : α} (h : l[k]? = some x) (e : f x = false) : l.all f = false := by
  cases z : l.all f
  · rfl
  · rw [List.all_eq_true] at z
    rw [z x (List.mem_of_getElem? h)] at e
    cases e
/-! ### lists of signs compared -/
def sg (c : Nat) : Str := ⟨#[c]⟩
theorem dp_signs {K : PySem.W.Frag} {H : Hp} : ∀ cs : List Nat, DpAll K H (cs.map fun c => V.str (sg c)) (cs.map fun c => PyData.str (sg c))
  | [] => .nil
  | c :: r => .cons (.str _) (dp_signs r)
theorem lay_signs : ∀ {cs : List Nat}, (∀ c ∈ cs, c < 128) → PyData.canLayAll0 (cs.map fun c => PyData.str (sg c)) = true
  | [], _ => by simp [PyData.canLayAll0]
  | c :: r, h => by
    have h1 := h c List.mem_cons_self
    have h2 := lay_signs fun d hd => h d (List.mem_cons_of_mem _ hd)
    rw [List.map_cons, PyData.canLayAll0, h2, PyData.canLay0, Bool.and_true]
    simp [sg, PyData.strOk]
    omega
theorem depth_signs : ∀ cs : List Nat, PyData.depthAll (cs.map fun c => PyData.str (sg c)) = 0
  | [] => by simp [PyData.depthAll]
  | c :: r => by
    rw [List.map_cons, PyData.depthAll, depth_signs r]
    simp [PyData.depth]
theorem shaped_signs {cs : List Nat} (h : ∀ c ∈ cs, c < 128) : SeqAt.shaped (.list (cs.map fun c => PyData.str (sg c))) = true := by
  unfold SeqAt.shaped
  rw [Bool.and_eq_true, PyData.canLay0, PyData.depth, depth_signs]
  exact ⟨lay_signs h, by decide⟩
theorem eqv_signs (cs : List Nat) : PyData.eqv (.list (cs.map fun c => PyData.str (sg c))) (.list []) = cs.isEmpty := by
  cases cs with
  | nil => simp [PyData.eqv, PyData.eqvAll]
  | cons c r => simp [PyData.eqv, PyData.eqvAll]
def homeFrom (f : Int) : List V → Bool
  | [] => true
  | .int i :: r => if i ≤ f ∨ 6 < i then false else homeFrom i r
  | _ :: _ => false
theorem homeFrom_eq : ∀ (xs : List V) (f : Int), -1 ≤ f → homeFrom f xs = (xs.all (fun x => inW x 0 6) && risB (f :: xs.map unI))
  | [], f, _ => rfl
  | x :: r, f, hf => by
    rw [List.all_cons, List.map_cons]
    cases x with
    | int i =>
      rw [homeFrom, risB]
      by_cases h : i ≤ f ∨ 6 < i
      · rw [if_pos h]
        rcases h with h | h
        · have : decide (f < unI (.int i)) = false := decide_eq_false (show ¬ f < i by omega)
          rw [this]
          simp
        · have : inW (.int i) 0 6 = false := by
            show (decide (0 ≤ i) && decide (i ≤ 6)) = false
            rw [decide_eq_false (show ¬ i ≤ 6 by omega), Bool.and_false]
          rw [this]
          simp
      · rw [if_neg h, homeFrom_eq r i (by omega)]
        have h1 : inW (.int i) 0 6 = true := by
          show (decide (0 ≤ i) && decide (i ≤ 6)) = true
          rw [decide_eq_true (show 0 ≤ i by omega), decide_eq_true (show i ≤ 6 by omega)]
          rfl
        have h2 : decide (f < unI (.int i)) = true := decide_eq_true (show f < i by omega)
        rw [h1, h2, Bool.true_and, Bool.true_and]
        rfl
    | _ => rfl
theorem homeV_from (xs : List V) : homeV xs = homeFrom (-1) xs := by
  rw [homeFrom_eq xs (-1) (by omega), homeV]
  cases xs with
  | nil => rfl
  | cons x r =>
    rw [List.all_cons, List.map_cons, risB]
    cases h : inW x 0 6
    · simp
    · have : decide ((-1 : Int) < unI x) = true := by
        cases x <;> first | exact Bool.noConfusion (show false = true from h) | skip
        rename_i i
        have h : (decide (0 ≤ i) && decide (i ≤ 6)) = true := h
        rw [Bool.and_eq_true, decide_eq_true_eq] at h
        exact decide_eq_true (show -1 < i by omega)
      simp [this]
theorem letters_eq : (Str.ofString "abcdefghijklmnopqrstuvwxyz").cps.toList = List.range' 97 26 := by decide +kernel
theorem in_letters (c : Nat) : decide (c ∈ (Str.ofString "abcdefghijklmnopqrstuvwxyz").cps.toList) = signOk c := by
  rw [letters_eq, signOk, ← Bool.decide_and]
  refine decide_eq_decide.mpr ?_
  rw [List.mem_range'_1]
  omega
theorem take_filter {α : Type} {l : List α} {i : Nat} {c : α} (f : α → Bool) (h : l[i]? = some c) : (l.take (i + 1)).filter f = (l.take i).filter f ++ (if f c = true then [c] else []) := by
  rw [List.take_add_one, h, List.filter_append]
  congr 1
  by_cases e : f c = true
  · simp [e]
  · simp [e]
theorem filter_empty {l : List Nat} : (l.filter fun c => !signOk c).isEmpty = l.all signOk := by
  induction l with
  | nil => rfl
  | cons c r ih =>
    rw [List.filter_cons, List.all_cons]
    cases e : signOk c
    · simp
    · simpa using ih
/-! ### plain texts -/
theorem Plain.app {a b : Str} {n m : Nat} (ha : a.length ≤ n) (hb : b.length ≤ m) (h : n + m ≤ 100) (ca : ∀ c ∈ a.cps.toList, c < 128) (cb : ∀ c ∈ b.cps.toList, c < 128) : Plain (a ++ b) := by
  refine ⟨?_, fun c hc => ?_⟩
  · rw [PySem.Str.length_append]; omega
  · rw [PySem.Str.cps_append, Array.toList_append] at hc
    rcases List.mem_append.mp hc with z | z
    · exact ca c z
    · exact cb c z
theorem app_chars {a b : Str} (ca : ∀ c ∈ a.cps.toList, c < 128) (cb : ∀ c ∈ b.cps.toList, c < 128) : ∀ c ∈ (a ++ b).cps.toList, c < 128 := fun c hc => by
  rw [PySem.Str.cps_append, Array.toList_append] at hc
  rcases List.mem_append.mp hc with z | z
  · exact ca c z
  · exact cb c z
theorem cut_chars {z : Str} (h : ∀ c ∈ z.cps.toList, c < 128) (lo hi : Option Int) : ∀ c ∈ (cutS z lo hi).cps.toList, c < 128 := fun c hc => by
  unfold cutS at hc
  rw [List.toList_toArray] at hc
  exact h c (List.mem_of_mem_drop (List.mem_of_mem_take hc))
theorem one_sign {c : Nat} (h : c < 128) : ∀ d ∈ (⟨#[c]⟩ : Str).cps.toList, d < 128 := fun d hd => by
  have hd : d ∈ [c] := hd
  rw [List.mem_singleton.mp hd]
  exact h
/-! ### tuples put together, cut -/
theorem cat_in {K : PySem.W.Frag} {a b : Addr} {xs ys : List V} {H : Hp} {Q : VK} (ha : H a = some (.tup xs)) (hb : H b = some (.tup ys)) (hl : xs.length + ys.length ≤ 1000)
    (k : ∀ r H', Same H H' → H' r = some (.tup (xs ++ ys)) → Q (.ref r) H') : rCatA K (.ref a) (.ref b) H Q := by
  refine ⟨a, b, xs, ys, rfl, rfl, .inl (.inl ha), .inl (.inl hb), sz hl, fun e => ?_, fun _ e => ?_, fun _ _ p np => ?_⟩
  · subst e
    exact k b H (Same.refl _) hb
  · subst e
    exact k a H (Same.refl _) (by rw [List.append_nil]; exact ha)
  · exact k p _ (same_upd np) upd_same
theorem cut_all (xs : List V) {lo hi : Option Int} (h1 : HT.sIx xs.length 0 lo = 0) (h2 : HT.sIx xs.length xs.length hi = xs.length) : cutV xs lo hi = xs := by
  unfold cutV
  rw [h1, h2, List.drop_zero, Nat.sub_zero, List.take_length]
theorem sl_in {K : PySem.W.Frag} {a : Addr} {xs : List V} {lo hi : Option Int} {H : Hp} {Q : VK} (ha : H a = some (.tup xs)) (k : ∀ r H', Same H H' → H' r = some (.tup (cutV xs lo hi)) → Q (.ref r) H') : rSlA K (.ref a) lo hi H Q := by
  refine ⟨a, xs, rfl, .inl (.inl ha), fun e => k a H (Same.refl _) ?_, fun _ p np => k p _ (same_upd np) upd_same⟩
  rw [cut_all xs e.1 e.2]
  exact ha
theorem cut_mem {xs : List V} {lo hi : Option Int} {x : V} (h : x ∈ cutV xs lo hi) : x ∈ xs := List.mem_of_mem_drop (List.mem_of_mem_take h)
theorem cut_len (xs : List V) (lo hi : Option Int) : (cutV xs lo hi).length ≤ xs.length := by
  unfold cutV
  rw [List.length_take, List.length_drop]
  omega
theorem deep_tup {H : Hp} {r : Addr} {xs : List V} (e : H r = some (.tup xs)) (hl : xs.length ≤ 1000) (hx : ∀ x ∈ xs, Typed H x) : Deep H (.ref r) := by
  refine ⟨.inl ⟨xs, e⟩, fun a ys h1 h2 => ?_⟩
  cases h1
  rw [e] at h2
  cases h2
  exact ⟨hl, hx⟩
theorem deep_flat {H : Hp} {v : V} (h : Typed H v) (n : ∀ a, v ≠ .ref a) : Deep H v := ⟨h, fun a _ e => absurd e (n a)⟩
theorem deep_lst {H : Hp} {r : Addr} {xs : List V} (e : H r = some (.lst xs)) : Deep H (.ref r) := ⟨.inr (.inl ⟨xs, e⟩), fun a ys h1 h2 => by
  cases h1
  rw [e] at h2
  cases h2⟩
theorem deep_dic {H : Hp} {r : Addr} {kvs : List (Key × V)} (e : H r = some (.dK kvs)) : Deep H (.ref r) := ⟨.inr (.inr ⟨kvs, e⟩), fun a ys h1 h2 => by
  cases h1
  rw [e] at h2
  cases h2⟩
theorem Deep.of {H H' : Hp} {v : V} (h : Deep H v) (s : ∀ b o, H b = some o → (∀ ps, o ≠ .tbl ps) → H' b = some o) : Deep H' v := by
  refine ⟨h.1.of fun b o e n _ => s b o e n, fun a xs e1 e2 => ?_⟩
  subst e1
  rcases h.1 with ⟨ys, e⟩ | ⟨ys, e⟩ | ⟨ys, e⟩
  · have e3 := s a _ e fun ps z => by cases z
    rw [e2] at e3
    cases e3
    exact ⟨(h.2 a _ rfl e).1, fun x hx => ((h.2 a _ rfl e).2 x hx).of fun b o e n _ => s b o e n⟩
  · have e3 := s a _ e fun ps z => by cases z
    rw [e2] at e3
    cases e3
  · have e3 := s a _ e fun ps z => by cases z
    rw [e2] at e3
    cases e3
theorem ty_ints {H : Hp} {ws : List Int} : ∀ x ∈ ws.map V.int, Typed H x := fun x hx => by
  obtain ⟨i, _, rfl⟩ := List.mem_map.mp hx
  exact True.intro
theorem dp_ints {K : PySem.W.Frag} {H : Hp} : ∀ ns : List Int, DpAll K H (ns.map V.int) (ns.map PyData.int)
  | [] => .nil
  | n :: r => .cons (.int n) (dp_ints r)
theorem shaped_tints (ns : List Int) : SeqAt.shaped (.tuple (ns.map PyData.int)) = true := by
  have h1 := PySem.W.depthAll_ints ns
  unfold SeqAt.shaped
  rw [Bool.and_eq_true]
  refine ⟨by simp only [PyData.canLay0]; exact PySem.W.canLayAll0_ints ns, decide_eq_true ?_⟩
  simp only [PyData.depth]
  omega
theorem eqv_tints (ns : List Int) : PyData.eqv (.tuple (ns.map PyData.int)) (.tuple []) = ns.isEmpty := by
  cases ns with
  | nil => simp [PyData.eqv, PyData.eqvAll]
  | cons n r => simp [PyData.eqv, PyData.eqvAll]
theorem atI_int {α : Type} {xs : List α} {i : Int} {v : α} (h0 : 0 ≤ i) (h : xs[i.toNat]? = some v) : atI xs i = some v := by
  obtain ⟨j, rfl⟩ := Int.eq_ofNat_of_zero_le h0
  exact atI_nat h
theorem np_in {σ : L2.St} {H : Hp} {Q : Option Int → Hp → Prop} (h : Q none H) : tNoPart σ H Q := h
/-- a tuple that the top has written -/
def KT (K : PySem.W.Frag) (a : Addr) (xs : List V) : Prop := ∃ (o : Obj) (its : Array Value) (n : Nat), K.lookup a = some o ∧ o.cls = .type "tuple" ∧ o.data = .seq its n ∧ its.size ≤ sizeLine ∧ Vals xs its.toList
end My

set_option Elab.async false
set_option linter.all false
set_option maxRecDepth 100000
set_option maxHeartbeats 2000000
/-! x in a tuple of texts, whatever x is -/
namespace My
open PySem PySem.Spec PyProof.Rows L2 PySem.SeqAt
theorem str_declines_dict (b : Str) (u : Tok) (l : Addr) (o : Obj) (es : Array DictEntry) (n : Nat) (hd : o.data = .dict es n) :
    Meets (Builtin.«str.__eq__» ⟨[.str b u, .ref l], []⟩) (fun _ R s => s.heap.get? l = some o ∧ R (.ok (.ret .notImplemented)) s) := by
  obtain ⟨cls, dd, data, sl⟩ := o
  simp only at hd
  subst hd
  refine .of_wp fun prog w A R s h => ?_
  obtain ⟨hp, g, d, tk, os⟩ := s
  obtain ⟨hl, h⟩ := h
  wp_walk using wpAny_loadPart' hl, wpAny_load hl
  exact ⟨_, rfl, h⟩
theorem dict_declines_str (b : Str) (u : Tok) (l : Addr) (o : Obj) (es : Array DictEntry) (n : Nat) (hc : o.cls = .type "dict") (hd : o.data = .dict es n) :
    Meets (Builtin.«dict.__eq__» ⟨[.ref l, .str b u], []⟩) (fun _ R s => s.heap.get? l = some o ∧ R (.ok (.ret .notImplemented)) s) := by
  obtain ⟨cls, dd, data, sl⟩ := o
  simp only at hd hc
  subst hd hc
  refine .of_wp fun prog w A R s h => ?_
  obtain ⟨hp, g, d, tk, os⟩ := s
  obtain ⟨hl, h⟩ := h
  wp_walk using wpAny_loadPart' hl, wpAny_load hl
  refine wpAny_of_eq (show isSubtype (.type "str") (.type "dict") = pure false by rw [isSubtype_type]; kernel_rfl) ?_
  rw [if_pos (by decide)]
  exact wpAny_bind (wpAny_rule (wpAny_pure ⟨_, rfl, h⟩))
section
variable {A : Around} {s : Shared}
theorem eq_str_dict {l : Addr} {o : Obj} {es : Array DictEntry} {n : Nat} (b : Str) (u : Tok) (ho : s.heap.get? l = some o) (hc : o.cls = .type "dict") (hd : o.data = .dict es n) (hu : A.units < cLine) : EqAt A s (.str b u) (.ref l) false := fun prog w E Q h => by
  unfold eqBool
  refine wpAny_holding (wpAny_ite_split (fun hab => absurd (eq_of_beq hab) nofun) fun _ => ?_)
  refine wpAny_bind (rc_eq_decline_or (k := false) (typeIs_str s b u) ⟨_, ho, hc⟩ (by decide) F.sub_dict_str F.slot_str_eq F.slot_dict_eq_refl
    (fun _ hq => call_meets F.slot_str_eq (typeIs_str s b u) F.entry_str_eq (F.args_str_eq_2 _ _) (str_declines_dict b u l o es n hd) ⟨ho, hq⟩)
    (fun _ hq => call_meets F.slot_dict_eq_refl ⟨_, ho, hc⟩ F.entry_dict_eq (F.args_dict_eq_2 _ _) (dict_declines_str b u l o es n hc hd) ⟨ho, hq⟩)
    (fun _ hq => wpAny_of_eq (rfl : isSame (.str b u) (.ref l) = pure false) hq) (.inr hu) (wpAny_truthy_bool h))
end
def strIn (zs : List Str) : V → Bool
  | .str z => zs.any (fun y => y == z)
  | _ => false
def eqS (x : V) : Value → Bool
  | .str y _ => (match x with | .str z => y == z | _ => false)
  | _ => false
section
variable {X : Cx}
theorem eqAt_typed {pins : List (Addr × Obj)} {σ : L2.St} {H : Hp} {s : Shared} {x : V} {v : Value} {A : Around} (I : Inv X pins σ H s) (hx : Typed H x) (rx : RelV x v) (hu : A.units < cLine) (y : Str) (t : Tok) : EqAt A s (.str y t) v (eqS x (.str y t)) := by
  cases x with
  | non => cases rx; exact EqAt.str_none y t
  | bl b => cases rx; exact EqAt.str_bool y t b
  | int i => obtain ⟨u, rfl⟩ := rx; exact EqAt.str_int y t i u
  | str z => obtain ⟨u, rfl⟩ := rx; exact EqAt.str_str y t z u
  | ref a =>
    obtain rfl : v = Value.ref a := rx
    rcases hx with ⟨xs, e⟩ | ⟨xs, e⟩ | ⟨kvs, e⟩
    · obtain ⟨_, its, _, p⟩ := (show ObjOk X.prog X.w H s.heap a (.tup xs) from I.hok a _ e)
      exact EqAt.str_tuple y t p hu
    · obtain ⟨_, its, n, _, p⟩ := (show ObjOk X.prog X.w H s.heap a (.lst xs) from I.hok a _ e)
      exact EqAt.str_list (items := its.toArray) y t ⟨_, p, rfl, n, rfl⟩ hu
    · obtain ⟨_, _, ws, _, o, es, ep, ho, hex, hd, _⟩ := (show ObjOk X.prog X.w H s.heap a (.dK kvs) from I.hok a _ e)
      exact eq_str_dict y t ho hex.1 hd hu
  | _ => exact hx.elim
theorem any_eqS {x : V} : ∀ {zs : List Str} {us : List Value}, Vals (zs.map V.str) us → us.any (eqS x) = strIn zs x
  | [], _, .nil => by cases x <;> rfl
  | z :: zs, _, .cons r t => by
    obtain ⟨k, rfl⟩ := (show ∃ k, _ = Value.str z k from r)
    rw [List.any_cons, any_eqS t]
    cases x with
    | str y => simp [eqS, strIn]
    | _ => simp [eqS, strIn]
def rInS (K : PySem.W.Frag) (neg : Bool) : R2 := fun x y H Q => ∃ (p : Addr) (zs : List Str), y = .ref p ∧ SqT K H p (zs.map V.str) ∧ Typed H x ∧ Q (.bl (if neg then !strIn zs x else strIn zs x)) H
theorem op_notIn_strs (hu : X.A.units + 1 < cLine) : OpR X (compareOp .NotIn) (rInS X.K true) := by
  intro pins s σ H x y v u Q I rx ry h
  obtain ⟨p, zs, rfl, hq, hx, q⟩ := h
  cases ry
  obtain ⟨its, r, pl, hz⟩ := I.tuple hq
  refine notIn_tupleAt (eqS x) pl (fun w hw => ?_) ⟨.bl _, H, I, rfl, ?_⟩
  · have hw : w ∈ its := by simpa using hw
    obtain ⟨z, t, rfl⟩ : ∃ z t, w = Value.str z t := by
      clear q hx rx pl hz
      have key : ∀ {zs : List Str} {us : List Value}, Vals (zs.map V.str) us → w ∈ us → ∃ z t, w = Value.str z t := by
        intro zs
        induction zs with
        | nil => intro us r hw; cases r; cases hw
        | cons z zs ih =>
          intro us r hw
          cases r with
          | cons r t =>
            rcases List.mem_cons.mp hw with e | e
            · obtain ⟨k, e2⟩ := (show ∃ k, _ = Value.str z k from r)
              exact ⟨z, k, e.trans e2⟩
            · exact ih t e
      exact key r hw
    exact eqAt_typed I hx rx hu z t
  · rw [show its.toArray.any (eqS x) = its.any (eqS x) by simp, any_eqS r]
    exact q
end
end My

set_option Elab.async false
set_option linter.all false
set_option maxRecDepth 100000
set_option maxHeartbeats 2000000
/-! PAGES: their forms, told by lists; heaps that grow beside tables -/
namespace My
open PySem PySem.Spec PyProof.Rows L2
/-! ### heaps that grow -/
def Gk (Ts : List Addr) (H H' : Hp) : Prop := (∀ b o, H b = some o → (∀ ps, o ≠ .tbl ps) → H' b = some o) ∧ Tbs Ts H'
theorem Gk.refl {Ts : List Addr} {H : Hp} (h : Tbs Ts H) : Gk Ts H H := ⟨fun _ _ e _ => e, h⟩
theorem Gk.trans {Ts : List Addr} {H H1 H2 : Hp} (a : Gk Ts H H1) (b : Gk Ts H1 H2) : Gk Ts H H2 := ⟨fun x o e n => b.1 x o (a.1 x o e n) n, b.2⟩
theorem Tk.gk {Ts : List Addr} {H H' : Hp} (t : Tk Ts H H') (h : Tbs Ts H) : Gk Ts H H' := ⟨fun _ _ e n => t.at h e n, t.2⟩
theorem Gk.of_same {Ts : List Addr} {H H' : Hp} (s : Same H H') (h : Tbs Ts H) : Gk Ts H H' := ⟨fun _ _ e _ => s _ _ e, h.same s⟩
theorem Gk.new {Ts : List Addr} {H : Hp} {p : Addr} {o : HO} (h : Tbs Ts H) (hp : H p = none) : Gk Ts H (upd H p o) := .of_same (same_upd hp) h
theorem Gk.tup {Ts : List Addr} {H H' : Hp} {b : Addr} {xs : List V} (t : Gk Ts H H') (e : H b = some (.tup xs)) : H' b = some (.tup xs) := t.1 _ _ e fun ps z => by cases z
theorem Deep.gk {Ts : List Addr} {H H' : Hp} {v : V} (h : Deep H v) (g : Gk Ts H H') : Deep H' v := h.of g.1
theorem Typed.gk {Ts : List Addr} {H H' : Hp} {v : V} (h : Typed H v) (g : Gk Ts H H') : Typed H' v := h.of fun b o e n _ => g.1 b o e n
theorem Tap.gk {Ts : List Addr} {H H' : Hp} {t : Addr} {n : Nat} (hT : Tap H t n) (k : Gk Ts H H') : Tap H' t n := by
  obtain ⟨c, ns, sp, re, ca, h1, h2, h3⟩ := hT
  exact ⟨c, ns, sp, re, ca, k.1 _ _ h1 (fun ps z => by cases z), k.1 _ _ h2 (fun ps z => by cases z), h3⟩
theorem homeB_gk {Ts : List Addr} {H H' : Hp} {v : V} (h : Typed H v) (g : Gk Ts H H') : homeB H' v = homeB H v := by
  cases v with
  | ref a =>
    rcases h with ⟨xs, e⟩ | ⟨xs, e⟩ | ⟨xs, e⟩
    · simp only [homeB, e, g.1 _ _ e (fun ps z => by cases z)]
    · simp only [homeB, e, g.1 _ _ e (fun ps z => by cases z)]
    · simp only [homeB, e, g.1 _ _ e (fun ps z => by cases z)]
  | _ => rfl
/-! ### the walk of a zip of two tuples -/
theorem walk_zipT {K : PySem.W.Frag} {a b : Addr} {xs ys : List V} {n : Nat} (hn : n = min xs.length ys.length) : Walk (RZ.ItzT K a b) n (fun H => SqT K H a xs ∧ SqT K H b ys) (YPair (fun i => xs[i]?) (fun i => ys[i]?)) := by
  subst hn
  refine ⟨fun i _ hi q => ?_, fun _ q => ⟨xs, ys, q.1, q.2, by omega⟩, fun i H v H' _ q y => ?_⟩
  · have h1 : i < xs.length := by omega
    have h2 : i < ys.length := by omega
    exact ⟨xs, ys, xs[i], ys[i], q.1, q.2, by simp [h1], by simp [h2]⟩
  · obtain ⟨T, x, z, h1, h2, h3, h4, h5⟩ := y
    exact ⟨T, x, z, h1, h2, h3, h4 xs q.1, h5 ys q.2⟩
/-! ### forms -/
def kinds : List Str := ["house", "part", "join", "home", "mourn", "ahead", "card", "visit"]
def formsOf (k : Str) : Option (List Str) :=
  if k = "house" then some ["name", "home"] else if k = "part" then some ["name", "name", "home"] else if k = "join" then some ["name", "name"]
  else if k = "home" then some ["name", "home"] else if k = "mourn" then some ["name", "many"] else if k = "ahead" then some ["name", "name"]
  else if k = "card" then some ["name", "name"] else if k = "visit" then some ["name", "name"] else none
def fitB (H : Hp) (f : Str) (v : V) : Bool := if f = "name" then nameB v else if f = "home" then homeB H v else inW v 1 60
theorem fitB_gk {Ts : List Addr} {H H' : Hp} {f : Str} {v : V} (h : Typed H v) (g : Gk Ts H H') : fitB H' f v = fitB H f v := by
  unfold fitB
  rw [homeB_gk h g]
/-- all parts fit their forms -/
def fitsB (H : Hp) (fs : List Str) (r : List V) : Bool := (fs.zip r).all fun p => fitB H p.1 p.2
/-- the parts whose form is a name -/
def namesB (fs : List Str) (r : List V) : List V := ((fs.zip r).filter fun p => decide (p.1 = ("name" : Str))).map (·.2)
def formV (H : Hp) : List V → Bool
  | .str k :: d :: r => match formsOf k with
    | some fs => inW d 0 9999 && (decide (r.length = fs.length) && fitsB H fs r)
    | none => false
  | _ => false
def formB (H : Hp) : V → Bool
  | .ref a => match H a with
    | some (.tup xs) => formV H xs
    | _ => false
  | _ => false
def namesV : List V → List V
  | .str k :: _ :: r => namesB ((formsOf k).getD []) r
  | _ => []
def unlike : List V → Bool
  | [_] => true
  | a :: b :: _ => !decide (a = b)
  | _ => true
def pageB (H : Hp) : V → Bool
  | .ref a => match H a with
    | some (.tup xs) => formV H xs && unlike (namesV xs)
    | _ => false
  | _ => false
/-- a thing, what is in it where it is a tuple, and in these -/
def Pgd (H : Hp) (v : V) : Prop := Typed H v ∧ ∀ a xs, v = .ref a → H a = some (.tup xs) → xs.length ≤ 100 ∧ ∀ x ∈ xs, Deep H x ∧ PlainV x
theorem not_tupF {H : Hp} {v : V} (k : ¬ kindB H "tuple" v = true) : formB H v = false ∧ pageB H v = false := by
  cases v with
  | ref a =>
    constructor
    · show (match H a with | some (.tup xs) => formV H xs | _ => false) = false
      cases e : H a with
      | none => rfl
      | some o =>
        cases o with
        | tup xs => exact absurd (by simp [kindB, e]) k
        | _ => rfl
    · show (match H a with | some (.tup xs) => formV H xs && unlike (namesV xs) | _ => false) = false
      cases e : H a with
      | none => rfl
      | some o =>
        cases o with
        | tup xs => exact absurd (by simp [kindB, e]) k
        | _ => rfl
  | _ => exact ⟨rfl, rfl⟩
theorem form_short {H : Hp} {xs : List V} (h : xs.length < 2) : formV H xs = false := by
  match xs, h with
  | [], _ => rfl
  | [x], _ => cases x <;> rfl
theorem kinds_iff {k : Str} : kinds.any (fun y => y == k) = (formsOf k).isSome := by
  unfold kinds formsOf
  by_cases h1 : k = "house"
  · subst h1; decide
  by_cases h2 : k = "part"
  · subst h2; decide
  by_cases h3 : k = "join"
  · subst h3; decide
  by_cases h4 : k = "home"
  · subst h4; decide
  by_cases h5 : k = "mourn"
  · subst h5; decide
  by_cases h6 : k = "ahead"
  · subst h6; decide
  by_cases h7 : k = "card"
  · subst h7; decide
  by_cases h8 : k = "visit"
  · subst h8; decide
  have f : ∀ {a : Str}, ¬ k = a → (a == k) = false := fun h => beq_eq_false_iff_ne.mpr fun z => h z.symm
  simp only [List.any_cons, List.any_nil, f h1, f h2, f h3, f h4, f h5, f h6, f h7, f h8, if_neg h1, if_neg h2, if_neg h3, if_neg h4, if_neg h5, if_neg h6, if_neg h7, if_neg h8]
  rfl
theorem form_kind {H : Hp} {x d : V} {r : List V} (h : strIn kinds x = false) : formV H (x :: d :: r) = false := by
  cases x with
  | str k =>
    have h : kinds.any (fun y => y == k) = false := h
    rw [kinds_iff] at h
    show (match formsOf k with | some fs => _ | none => false) = false
    cases e : formsOf k with
    | none => rfl
    | some fs => rw [e] at h; cases h
  | _ => rfl
theorem kind_in {x : V} (h : strIn kinds x = true) : ∃ k fs, x = .str k ∧ formsOf k = some fs := by
  cases x with
  | str k =>
    have h : kinds.any (fun y => y == k) = true := h
    rw [kinds_iff] at h
    cases e : formsOf k with
    | none => rw [e] at h; cases h
    | some fs => exact ⟨k, fs, rfl, e⟩
  | _ => cases h
theorem forms_len {k : Str} {fs : List Str} (h : formsOf k = some fs) : 2 ≤ fs.length ∧ fs.length ≤ 3 := by
  unfold formsOf at h
  repeat (split at h; · cases h; decide)
  cases h
theorem cut2 (x d : V) (r : List V) : cutV (x :: d :: r) (some 2) none = r := by
  unfold cutV
  rw [show HT.sIx (x :: d :: r).length 0 (some 2) = min 2 (x :: d :: r).length from HT.sIx_nat _ _ 2, HT.sIx_none]
  have : min 2 (x :: d :: r).length = 2 := by simp
  rw [this]
  simp
theorem Pgd.of {H H' : Hp} {v : V} (h : Pgd H v) (s : ∀ b o, H b = some o → (∀ ps, o ≠ .tbl ps) → H' b = some o) : Pgd H' v := by
  refine ⟨h.1.of fun b o e n _ => s b o e n, fun a xs e1 e2 => ?_⟩
  subst e1
  rcases h.1 with ⟨ys, e⟩ | ⟨ys, e⟩ | ⟨ys, e⟩
  · have e3 := s a _ e fun ps z => by cases z
    rw [e2] at e3
    cases e3
    exact ⟨(h.2 a _ rfl e).1, fun x hx => ⟨((h.2 a _ rfl e).2 x hx).1.of s, ((h.2 a _ rfl e).2 x hx).2⟩⟩
  · have e3 := s a _ e fun ps z => by cases z
    rw [e2] at e3
    cases e3
  · have e3 := s a _ e fun ps z => by cases z
    rw [e2] at e3
    cases e3
theorem Pgd.gk {Ts : List Addr} {H H' : Hp} {v : V} (h : Pgd H v) (g : Gk Ts H H') : Pgd H' v := h.of g.1
theorem fits_get {H : Hp} {fs : List Str} {r : List V} (h : ∀ (k : Nat) (f : Str) (x : V), fs[k]? = some f → r[k]? = some x → fitB H f x = true) : fitsB H fs r = true :=
  all_get fun k p e => by
    rw [List.getElem?_zip_eq_some] at e
    exact h k p.1 p.2 e.1 e.2
theorem fits_not {H : Hp} {fs : List Str} {r : List V} {k : Nat} {f : Str} {x : V} (h1 : fs[k]? = some f) (h2 : r[k]? = some x) (e : fitB H f x = false) : fitsB H fs r = false :=
  all_not (k := k) (x := (f, x)) (List.getElem?_zip_eq_some.mpr ⟨h1, h2⟩) e
theorem str_at {fs : List Str} {i : Nat} {x : V} (h : (fs.map V.str)[i]? = some x) : ∃ f, x = .str f ∧ fs[i]? = some f := by
  rw [List.getElem?_map] at h
  cases e : fs[i]? with
  | none => rw [e] at h; cases h
  | some f => rw [e] at h; cases h; exact ⟨f, rfl, rfl⟩
theorem names_take {fs : List Str} {r : List V} {i : Nat} {f : Str} {x : V} (h1 : fs[i]? = some f) (h2 : r[i]? = some x) :
    ((((fs.zip r).take (i + 1)).filter fun p => decide (p.1 = ("name" : Str))).map (·.2)) = ((((fs.zip r).take i).filter fun p => decide (p.1 = ("name" : Str))).map (·.2)) ++ (if f = "name" then [x] else []) := by
  rw [take_filter (c := (f, x)) _ (List.getElem?_zip_eq_some.mpr ⟨h1, h2⟩), List.map_append]
  congr 1
  by_cases e : f = "name"
  · subst e; simp
  · simp [e]
theorem sz' {n : Nat} (h : n ≤ 3) : n < sizeLine := small1000 (by omega)
theorem page_form {H : Hp} {v : V} (h : formB H v = false) : pageB H v = false := by
  cases v with
  | ref a =>
    have h : (match H a with | some (.tup xs) => formV H xs | _ => false) = false := h
    show (match H a with | some (.tup xs) => formV H xs && unlike (namesV xs) | _ => false) = false
    cases e : H a with
    | none => rfl
    | some o =>
      rw [e] at h
      cases o with
      | tup xs =>
        have h : formV H xs = false := h
        show (formV H xs && _) = false
        rw [h, Bool.false_and]
      | _ => rfl
  | _ => rfl
theorem form_inv {H : Hp} {v : V} (h : formB H v = true) : ∃ a k d r fs, v = .ref a ∧ H a = some (.tup (.str k :: d :: r)) ∧ formsOf k = some fs ∧ r.length = fs.length ∧ fitsB H fs r = true := by
  cases v with
  | ref a =>
    have h : (match H a with | some (.tup xs) => formV H xs | _ => false) = true := h
    cases e : H a with
    | none => rw [e] at h; cases h
    | some o =>
      rw [e] at h
      cases o with
      | tup xs =>
        have h : formV H xs = true := h
        match xs, h with
        | .str k :: d :: r, h =>
          have h : (match formsOf k with | some fs => inW d 0 9999 && (decide (r.length = fs.length) && fitsB H fs r) | none => false) = true := h
          cases e2 : formsOf k with
          | none => rw [e2] at h; cases h
          | some fs =>
            rw [e2] at h
            have h : (inW d 0 9999 && (decide (r.length = fs.length) && fitsB H fs r)) = true := h
            rw [Bool.and_eq_true, Bool.and_eq_true, decide_eq_true_eq] at h
            exact ⟨a, k, d, r, fs, rfl, e, e2, h.2.1, h.2.2⟩
      | _ => cases h
  | _ => cases h
theorem forms_cases {k : Str} {fs : List Str} (h : formsOf k = some fs) : fs = [("name" : Str), "home"] ∨ fs = [("name" : Str), "name", "home"] ∨ fs = [("name" : Str), "name"] ∨ fs = [("name" : Str), "many"] := by
  unfold formsOf at h
  repeat' split at h
  all_goals first | (cases h; simp; done) | cases h
theorem fit_name {H : Hp} {v : V} (h : fitB H "name" v = true) : nameB v = true := h
theorem name_str {v : V} (h : nameB v = true) : ∃ z, v = .str z := by
  cases v <;> first | exact ⟨_, rfl⟩ | cases h
theorem names_cases {H : Hp} {k : Str} {fs : List Str} {r : List V} (h : formsOf k = some fs) (hl : r.length = fs.length) (hf : fitsB H fs r = true) : (∃ x, namesB fs r = [.str x]) ∨ (∃ x y, namesB fs r = [.str x, .str y]) := by
  rcases forms_cases h with rfl | rfl | rfl | rfl
  · match r, hl with
    | [x, y], _ =>
      have hf : (fitB H "name" x && (fitB H "home" y && true)) = true := hf
      rw [Bool.and_eq_true] at hf
      obtain ⟨z, rfl⟩ := name_str (fit_name hf.1)
      exact .inl ⟨z, rfl⟩
  · match r, hl with
    | [x, y, u], _ =>
      have hf : (fitB H "name" x && (fitB H "name" y && (fitB H "home" u && true))) = true := hf
      rw [Bool.and_eq_true, Bool.and_eq_true] at hf
      obtain ⟨z, rfl⟩ := name_str (fit_name hf.1)
      obtain ⟨z2, rfl⟩ := name_str (fit_name hf.2.1)
      exact .inr ⟨z, z2, rfl⟩
  · match r, hl with
    | [x, y], _ =>
      have hf : (fitB H "name" x && (fitB H "name" y && true)) = true := hf
      rw [Bool.and_eq_true, Bool.and_eq_true] at hf
      obtain ⟨z, rfl⟩ := name_str (fit_name hf.1)
      obtain ⟨z2, rfl⟩ := name_str (fit_name hf.2.1)
      exact .inr ⟨z, z2, rfl⟩
  · match r, hl with
    | [x, y], _ =>
      have hf : (fitB H "name" x && (fitB H "many" y && true)) = true := hf
      rw [Bool.and_eq_true] at hf
      obtain ⟨z, rfl⟩ := name_str (fit_name hf.1)
      exact .inl ⟨z, rfl⟩
end My

set_option Elab.async false
set_option linter.all false
set_option maxRecDepth 100000
set_option maxHeartbeats 2000000
/-! Promises of defs that are called while nothing is being shown (no repr is under way): the text that repr tells is then the thing's own. -/
namespace GU
open PySem PySem.Spec PyProof.Rows L2
/-- as FnOk, where no repr is under way -/
structure FnG (P : Program) (w : World) (K : PySem.W.Frag) (mg : Str → Option Value) (base : Heap) (CX : CXT) (k : Nat) (f : Addr) (fd : FuncData) (ps : List Str) (sp : Sp) : Prop where
  len : ∀ vs H Q E, sp vs H Q E → vs.length = ps.length
  go : ∀ (A : Around), A.guards = some [] → ∀ (outer : List Env) (s : Shared) (H : Hp) (args : Args) (us : List Value) (vs : List V) (Q : VK) (E : XK),
    Room k A → Env0 P w K mg base A outer s H → BindsTo s fd args (ps.zip us) → Vals vs us → sp vs H Q E → codeAny (model P w) A (.call (.ref f) args) (CR CX outer P w H s Q E) s
section
variable {P : Program} {w : World} {K : PySem.W.Frag} {mg : Str → Option Value} {base : Heap} {CX : CXT} {k : Nat} {f : Addr} {fd : FuncData} {ps : List Str} {sp : Sp}
theorem FnG.of (F : FnOk P w K mg base CX k f fd ps sp) : FnG P w K mg base CX k f fd ps sp :=
  ⟨F.len, fun A _ outer s H args us vs Q E => F.run A outer s H args us vs Q E⟩
/-- a def by its body -/
theorem fnG_of {N : List Str} {name qual : Str} {params : Arguments} {body : List Stmt} {scope : Scope} {dV kV doc pm cdv ct oc : Value} {an od : Option Addr} {osl : Array (Option Value)}
    (look : K.lookup f = some ⟨oc, od, .func (PySem.W.fnOf name qual params body scope dV kV doc pm an cdv ct), osl⟩) (code : PySem.W.codeIn K cdv qual = true) (S : FnScope N ps scope)
    (len : ∀ vs H Q E, sp vs H Q E → vs.length = ps.length)
    (hbody : ∀ (A : Around) (outer : List Env) (s : Shared) (H : Hp) (vs : List V) (Q : VK) (E : XK), A.guards = some [] → Room k (A.deeper (envOfC qual scope s.heap.objs.size f cdv)) → sp vs H Q E →
      ∃ t, PSs (cxOf CX P w K mg base N qual scope f cdv A outer s H E) body t ∧ t { nx := fun _ H' => Q .non H', rt := Q } (start N vs) H) :
    FnG P w K mg base CX (k + 1) f (PySem.W.fnOf name qual params body scope dV kV doc pm an cdv ct) ps sp := by
  refine ⟨len, ?_⟩
  intro A gd outer s H args us vs Q E room env bind rel want
  obtain ⟨t, runs, reads⟩ := hbody A outer s H vs Q E gd (room.deeper _) want
  have stays : ∀ b o, base.get? b = some o → s.heap.get? b = some o := fun b o e => (env.bs b o e).1
  have inK := env.mod.kin.keeps stays
  have kinds : ∀ y ∈ ps.zip us, scope.names.lookup y.1 = some .local ∨ (scope.names.lookup y.1 = some .cell ∧ ((cellsFrom (s.heap.objs.size + 1) scope.names []).lookup y.1).isSome = true) := by
    rintro ⟨n, v⟩ hy
    refine (S.par n (List.of_mem_zip hy).1).imp id fun c => ⟨c, PySem.W.cellsFrom_some _ _ _ (.inl c)⟩
  refine codeAny_call_function room.depth (inK _ _ look) rfl S.co S.gen rfl (PySem.W.codeRec_of inK code) (bind _ _ _ _ ?_)
  refine wpAny_newFunctionEnv_cells S.kind kinds ?_
  rintro env2 rfl s1 x
  refine ⟨(env.mod.nolimit.keeps stays).keeps x.toInCall.keep, codeAny_func ?_⟩
  refine wpAny_mono (runs.run [] s1 (start N vs) H _ (inv_start S room.hd env (len _ _ _ _ want) rel x) reads) ?_ fun _ _ h => h
  intro fl s' hs
  cases fl with
  | brk => exact let ⟨_, _, _, q⟩ := hs; q.elim
  | cont => exact let ⟨_, _, _, q⟩ := hs; q.elim
  | next => exact let ⟨_, H', J, q⟩ := hs; ⟨V.non, H', J.os, J.bare, J.base, J.hok, rfl, q⟩
  | ret u => exact let ⟨v, _, H', J, rv, q⟩ := hs; ⟨v, H', J.os, J.bare, J.base, J.hok, rv, q⟩
end
section
variable {P : Program} {w : World} {K : PySem.W.Frag} {mg : Str → Option Value} {base : Heap} {k : Nat} {f : Addr} {fd : FuncData} {ps N : List Str} {sp : Sp} {x qual : Str} {st : Stmt}
theorem okG (F : Fun K x qual st f fd) (S : FnScope N ps (defScope st)) (len : ∀ vs H Q E, sp vs H Q E → vs.length = ps.length)
    (hbody : ∀ (cdv : Value) (A : Around) (outer : List Env) (s : Shared) (H : Hp) (vs : List V) (Q : VK) (E : XK), A.guards = some [] → Room k (A.deeper (envOfC qual (defScope st) s.heap.objs.size f cdv)) → sp vs H Q E →
      ∃ t, PSs (cxOf CX0 P w K mg base N qual (defScope st) f cdv A outer s H E).nox (defBody st) t ∧ t { nx := fun _ H' => Q .non H', rt := Q } (start N vs) H) : FnG P w K mg base CX0 (k + 1) f fd ps sp := by
  obtain ⟨oc, od, kV, doc, pm, an, cdv, ct, osl, rfl, lk, hcd⟩ := F.ex
  refine fnG_of lk hcd S len fun A outer s H vs Q E gd hr hsp => ?_
  obtain ⟨t, h, q⟩ := hbody cdv A outer s H vs Q E gd hr hsp
  exact ⟨t, h.nox, q⟩
theorem okGC {c : Addr} (F : GE.FunC K x qual st f fd c) (S : FnScope N ps (defScope st)) (len : ∀ vs H Q E, sp vs H Q E → vs.length = ps.length)
    (hbody : ∀ (A : Around) (outer : List Env) (s : Shared) (H : Hp) (vs : List V) (Q : VK) (E : XK), A.guards = some [] → Room k (A.deeper (envOfC qual (defScope st) s.heap.objs.size f (.ref c))) → sp vs H Q E →
      ∃ t, PSs (cxOf CX0 P w K mg base N qual (defScope st) f (.ref c) A outer s H E).nox (defBody st) t ∧ t { nx := fun _ H' => Q .non H', rt := Q } (start N vs) H) : FnG P w K mg base CX0 (k + 1) f fd ps sp := by
  obtain ⟨oc, od, kV, doc, pm, an, ct, osl, rfl, lk, hcd⟩ := F.ex
  refine fnG_of lk hcd S len fun A outer s H vs Q E gd hr hsp => ?_
  obtain ⟨t, h, q⟩ := hbody A outer s H vs Q E gd hr hsp
  exact ⟨t, h.nox, q⟩
end
section
variable {X : Cx} {CX : CXT} {k : Nat} {f : Addr} {fd : FuncData} {ps : List Str} {sp : Sp} {dvs : List V} {ds : List Value} {E : XK} {x : Str} {p pos : Pos} {e : Expr} {es : List Expr} {t : TA}
/-- f(..) -/
theorem pe_callG (F : FnG X.prog X.w X.K X.mg X.base CX k f fd ps sp) (gd : X.A.guards = some []) (hr : Room k X.A) (hg : Gl X x) (hm : X.mg x = some (.ref f)) (hk : PySem.W.keepIn X.K (.ref f) = true) (hb : Binds X.K fd ps ds) (hd : Vals dvs ds) (hx : Passes CX X E)
    (ha : PA X (e :: es) t) (hdb : (x == ("__debug__" : Str)) = false := by decide) (he : starEach (e :: es) X.env = (false, eval e X.env) :: starEach es X.env := by rfl) (hpl : (backTo pos (starEach es X.env)).any (·.1) = false := by rfl) :
    PE X (.Call (.Name x p) (e :: es) [] pos) (tCall sp dvs E t) := by
  constructor
  intro pins s σ H Q I h
  have args := ha.run pos pins s σ H _ I h
  refine wpAny_Call_Name_kw (ld_glob I hg hm (PySem.W.callWith_K (h₀ := X.base) I.ok.mod.kin hk (thn args ?_) he hpl) hdb)
  rintro us s1 ⟨vs, H1, J, r, q⟩
  refine ⟨J.kIn, wpAny_call (codeAny_mono (F.go X.A gd X.stack s1 H1 ⟨us, []⟩ (us ++ ds) (vs ++ dvs) Q E hr J.env0 (hb s1 us J.kIn ?_) (r.append hd) q) ?_)⟩
  · rw [← (r.append hd).length]
    exact F.len _ _ _ _ q
  · intro res s2 hq
    match res, hq with
    | .error e, hq => exact hx pins σ H1 s1 e s2 J hq
    | .ok (.ret u), hq => exact J.after hq
end
end GU
/-! ### repr of things -/
namespace GU
open PySem PySem.Spec PyProof.Rows L2
mutual
def Sh : PyData → Prop
  | .none => True
  | .bool _ => True
  | .int i => i.natAbs.log2 < 1920
  | .str x => ∀ c ∈ x.cps.toList, c < 16 ^ 8
  | .list xs => ShAll xs
  | .tuple xs => ShAll xs
  | .dict _ => False
def ShAll : List PyData → Prop
  | [] => True
  | x :: xs => Sh x ∧ ShAll xs
end
mutual
def cost : PyData → Nat
  | .none => 4
  | .bool _ => 5
  | .int _ => 1921
  | .str x => 10 * x.length + 4
  | .list xs => costAll xs + 3
  | .tuple xs => costAll xs + 3
  | .dict _ => 0
def costAll : List PyData → Nat
  | [] => 0
  | x :: xs => cost x + 2 + costAll xs
end
mutual
theorem sh_ok : ∀ {d : PyData}, Sh d → d.showable = true ∧ d.hasDict = false ∧ d.shown.length ≤ cost d
  | .none, _ => ⟨rfl, rfl, by decide +kernel⟩
  | .bool b, _ => ⟨rfl, rfl, by cases b <;> decide +kernel⟩
  | .int i, h => ⟨decide_eq_true h, rfl, int_text_len_1921 h⟩
  | .str x, h => ⟨rfl, rfl, Nat.le_trans (StrLaws.reprText_len x h) (Nat.add_le_add_left (by decide) _)⟩
  | .list xs, h => by
    obtain ⟨a, b, c⟩ := shAll_ok (xs := xs) h
    refine ⟨by rw [PyData.showable]; exact a, by rw [PyData.hasDict]; exact b, ?_⟩
    rw [PyData.shown, cost]
    exact Nat.le_trans (listText_len_le _) (by omega)
  | .tuple xs, h => by
    obtain ⟨a, b, c⟩ := shAll_ok (xs := xs) h
    refine ⟨by rw [PyData.showable]; exact a, by rw [PyData.hasDict]; exact b, ?_⟩
    rw [PyData.shown, cost]
    exact Nat.le_trans (tupleText_len_le _) (by omega)
  | .dict _, h => h.elim
theorem shAll_ok : ∀ {xs : List PyData}, ShAll xs → PyData.showableAll xs = true ∧ PyData.hasDictAll xs = false ∧ ((PyData.shownAll xs).map (·.length)).sum + 2 * (PyData.shownAll xs).length ≤ costAll xs
  | [], _ => ⟨rfl, rfl, Nat.le_refl _⟩
  | x :: xs, h => by
    obtain ⟨a1, b1, c1⟩ := sh_ok h.1
    obtain ⟨a2, b2, c2⟩ := shAll_ok h.2
    refine ⟨by rw [PyData.showableAll, a1, a2]; rfl, by rw [PyData.hasDictAll, b1, b2]; rfl, ?_⟩
    rw [PyData.shownAll, costAll, List.map_cons, List.sum_cons, List.length_cons]
    omega
end
section
variable {X : Cx} {k : Nat}
/-- repr of any thing of numbers, truths, texts, None, lists and tuples -/
theorem call_reprD (gd : X.A.guards = some []) (hr : Room k X.A) : CallR X (.builtin "repr") (fun xs H Q => ∃ v d, xs = [v] ∧ Dp X.K H v d ∧ Sh d ∧ d.depth ≤ 50 ∧ cost d ≤ sizeLine ∧ Q (.str d.shown) H) := by
  intro pins s σ H xs us Q I r h
  obtain ⟨v, d, rfl, dp, sh, deep, fits, q⟩ := h
  obtain ⟨u, rfl, ru⟩ := vals1 r
  obtain ⟨a, b, c⟩ := sh_ok sh
  have hu := hr.un
  cases dp with
  | non => cases ru; exact PySem.P.repr_of_none ⟨.str _, H, I.tok _, ⟨_, rfl⟩, q⟩
  | bl x => cases ru; exact PySem.P.repr_of_bool ⟨.str _, H, I.tok _, ⟨_, rfl⟩, q⟩
  | int i =>
    obtain ⟨t, rfl⟩ := ru
    exact PySem.P.repr_of_int sh ⟨.str _, H, I.tok _, ⟨_, rfl⟩, q⟩
  | str x =>
    obtain ⟨t, rfl⟩ := ru
    exact PySem.P.repr_of_str ⟨.str _, H, I.tok _, ⟨_, rfl⟩, q⟩ (Nat.le_trans c fits)
  | lst h1 h2 =>
    obtain ⟨as, rd⟩ := Dp.reads I _ _ _ (.lst h1 h2) ru
    cases ru
    exact repr_of_reads' rd a (PyData.noDict_hsm b) gd (by omega) (fun _ _ e => e) (fun h' u tk kp => ⟨.str _, H, I.turnedL (ch := []) (h' := h') (t' := tk) (fun b o _ e => kp b o e) (fun b hb => by cases hb), ⟨_, rfl⟩, q⟩) (Nat.le_trans c fits)
  | tup h1 h2 =>
    obtain ⟨as, rd⟩ := Dp.reads I _ _ _ (.tup h1 h2) ru
    cases ru
    exact repr_of_reads' rd a (PyData.noDict_hsm b) gd (by omega) (fun _ _ e => e) (fun h' u tk kp => ⟨.str _, H, I.turnedL (ch := []) (h' := h') (t' := tk) (fun b o _ e => kp b o e) (fun b hb => by cases hb), ⟨_, rfl⟩, q⟩) (Nat.le_trans c fits)
end
end GU

set_option Elab.async false
set_option linter.all false
set_option maxRecDepth 100000
set_option maxHeartbeats 2000000
/-! Numbers, texts, None and tuples of these, to any depth, as data (NestedKey): what stays, ==, in, <. -/
namespace My
open PySem PySem.Spec PyProof.Rows L2 PySem.SeqAt
mutual
inductive Nk (H : Hp) : V → NestedKey → Prop
  | non : Nk H .non .none
  | int (i : Int) : Nk H (.int i) (.num i)
  | str (z : Str) : Nk H (.str z) (.text z)
  | tup {a : Addr} {xs : List V} {ks : List NestedKey} : H a = some (.tup xs) → NkAll H xs ks → Nk H (.ref a) (.tup ks)
inductive NkAll (H : Hp) : List V → List NestedKey → Prop
  | nil : NkAll H [] []
  | cons {x : V} {k : NestedKey} {xs : List V} {ks : List NestedKey} : Nk H x k → NkAll H xs ks → NkAll H (x :: xs) (k :: ks)
end
/-- all tuples stay -/
def Tups (H H' : Hp) : Prop := ∀ b xs, H b = some (.tup xs) → H' b = some (.tup xs)
theorem Tups.refl (H : Hp) : Tups H H := fun _ _ e => e
theorem Tups.trans {H H1 H2 : Hp} (a : Tups H H1) (b : Tups H1 H2) : Tups H H2 := fun c xs e => b c xs (a c xs e)
theorem Tups.same {H H' : Hp} (s : Same H H') : Tups H H' := fun b xs e => s b _ e
theorem Tups.gk {Ts : List Addr} {H H' : Hp} (g : Gk Ts H H') : Tups H H' := fun b xs e => g.tup e
theorem Tups.kp {t : Addr} {H H' : Hp} {n : Nat} (hT : Tap H t n) (k : Kp t H H') : Tups H H' := fun b xs e => k b _ (fun z => by
  obtain ⟨_, _, _, _, _, e1, _⟩ := hT
  rw [z, e1] at e
  cases e) e
mutual
theorem Nk.at {H H' : Hp} (t : Tups H H') : ∀ {k : NestedKey} {v : V}, Nk H v k → Nk H' v k
  | .none, _, .non => .non
  | .num _, _, .int i => .int i
  | .text _, _, .str z => .str z
  | .tup _, _, .tup e h => .tup (t _ _ e) (NkAll.at t h)
theorem NkAll.at {H H' : Hp} (t : Tups H H') : ∀ {ks : List NestedKey} {xs : List V}, NkAll H xs ks → NkAll H' xs ks
  | [], _, .nil => .nil
  | _ :: _, _, .cons h r => .cons (h.at t) (r.at t)
end
mutual
theorem Nk.inj {H : Hp} : ∀ {k k' : NestedKey} {v : V}, Nk H v k → Nk H v k' → k = k'
  | .none, _, _, .non, h => by cases h; rfl
  | .num _, _, _, .int i, h => by cases h; rfl
  | .text _, _, _, .str z, h => by cases h; rfl
  | .tup _, _, _, .tup e a, h => by
    cases h with
    | tup e2 b =>
      rw [e] at e2
      cases e2
      rw [NkAll.inj a b]
theorem NkAll.inj {H : Hp} : ∀ {ks ks' : List NestedKey} {xs : List V}, NkAll H xs ks → NkAll H xs ks' → ks = ks'
  | [], _, _, .nil, h => by cases h; rfl
  | _ :: _, _, _, .cons a r, h => by
    cases h with
    | cons b t => rw [Nk.inj a b, NkAll.inj r t]
end
mutual
theorem Nk.dp {K : PySem.W.Frag} {H : Hp} : ∀ {k : NestedKey} {v : V}, Nk H v k → Dp K H v k.data
  | .none, _, .non => .non
  | .num _, _, .int i => .int i
  | .text _, _, .str z => .str z
  | .tup _, _, .tup e h => .tup (.inl (.inl e)) (NkAll.dp h)
theorem NkAll.dp {K : PySem.W.Frag} {H : Hp} : ∀ {ks : List NestedKey} {xs : List V}, NkAll H xs ks → DpAll K H xs (NestedKey.datas ks)
  | [], _, .nil => .nil
  | _ :: _, _, .cons h r => .cons h.dp r.dp
end
theorem NkAll.length {H : Hp} : ∀ {ks : List NestedKey} {xs : List V}, NkAll H xs ks → xs.length = ks.length
  | [], _, .nil => rfl
  | _ :: _, _, .cons _ r => congrArg (· + 1) r.length
theorem NkAll.get {H : Hp} : ∀ {ks : List NestedKey} {xs : List V} {i : Nat} {x : V}, NkAll H xs ks → xs[i]? = some x → ∃ k, ks[i]? = some k ∧ Nk H x k
  | [], _, _, _, .nil, e => by simp at e
  | k :: _, _, 0, _, .cons h _, e => ⟨k, rfl, by cases e; exact h⟩
  | _ :: _, _, i + 1, _, .cons _ r, e => r.get (i := i) (by simpa using e)
theorem NkAll.get' {H : Hp} : ∀ {ks : List NestedKey} {xs : List V} {i : Nat} {k : NestedKey}, NkAll H xs ks → ks[i]? = some k → ∃ x, xs[i]? = some x ∧ Nk H x k
  | [], _, _, _, .nil, e => by simp at e
  | _ :: _, x :: _, 0, _, .cons h _, e => ⟨x, rfl, by cases e; exact h⟩
  | _ :: _, _, i + 1, _, .cons _ r, e => r.get' (i := i) (by simpa using e)
theorem NkAll.app {H : Hp} : ∀ {ks ls : List NestedKey} {xs ys : List V}, NkAll H xs ks → NkAll H ys ls → NkAll H (xs ++ ys) (ks ++ ls)
  | [], _, _, _, .nil, h => h
  | _ :: _, _, _, _, .cons a r, h => .cons a (r.app h)
section
variable {X : Cx} {pins : List (Addr × Obj)} {σ : L2.St} {H : Hp} {s : Shared}
mutual
theorem Nk.is (I : Inv X pins σ H s) : ∀ {k : NestedKey} {v : V} {u : Value}, Nk H v k → RelV v u → NestedIs s.heap k u
  | .none, _, _, .non, r => by cases r; exact .none
  | .num _, _, _, .int i, r => by obtain ⟨t, rfl⟩ := r; exact .int i t
  | .text _, _, _, .str z, r => by obtain ⟨t, rfl⟩ := r; exact .text z t
  | .tup _, _, _, .tup e h, r => by
    cases r
    obtain ⟨_, its, rv, ⟨o, ho, hc, n, hd⟩⟩ := I.hok _ _ e
    exact .tup ho hc hd (NkAll.is I h (by simpa using rv))
theorem NkAll.is (I : Inv X pins σ H s) : ∀ {ks : List NestedKey} {xs : List V} {us : List Value}, NkAll H xs ks → Vals xs us → NestedAll s.heap ks us
  | [], _, _, .nil, r => by cases r; exact .nil
  | _ :: _, _, _, .cons a h, r => by
    cases r with
    | cons r1 r2 => exact .cons (a.is I r1) (h.is I r2)
end
end
/-! ### in -/
open Classical in
noncomputable def eqK (h : Heap) (k : NestedKey) (y : Value) : Bool := decide (NestedIs h k y)
theorem eqK_is {h : Heap} {k k' : NestedKey} {y : Value} (hy : NestedIs h k' y) : eqK h k y = decide (k' = k) := by
  unfold eqK
  by_cases e : k' = k
  · subst e
    rw [@decide_eq_true _ (Classical.propDecidable _) hy, decide_eq_true rfl]
  · rw [decide_eq_false e]
    exact @decide_eq_false _ (Classical.propDecidable _) fun z => e (NestedIs.inj _ _ _ hy z)
theorem any_eqK {h : Heap} {k : NestedKey} : ∀ {ks : List NestedKey} {us : List Value}, NestedAll h ks us → us.any (eqK h k) = decide (k ∈ ks)
  | [], _, .nil => rfl
  | k' :: ks, _, .cons a r => by
    rw [List.any_cons, any_eqK r, eqK_is a, Bool.eq_iff_iff]
    simp only [Bool.or_eq_true, decide_eq_true_eq, List.mem_cons]
    exact or_congr ⟨Eq.symm, Eq.symm⟩ Iff.rfl
theorem all_is {h : Heap} : ∀ {ks : List NestedKey} {us : List Value} {y : Value}, NestedAll h ks us → y ∈ us → ∃ k, k ∈ ks ∧ NestedIs h k y
  | [], _, _, .nil, e => by cases e
  | k :: _, _, _, .cons a r, e => by
    rcases List.mem_cons.mp e with e | e
    · exact ⟨k, .head _, e ▸ a⟩
    · obtain ⟨k2, h2, h3⟩ := all_is r e
      exact ⟨k2, .tail _ h2, h3⟩
def rInN (K : PySem.W.Frag) (neg : Bool) : R2 := fun x y H Q => ∃ (p : Addr) (xs : List V) (k : NestedKey) (ks : List NestedKey), y = .ref p ∧ (SqL K H p xs ∨ SqT K H p xs) ∧ Nk H x k ∧ NkAll H xs ks ∧ k.depth ≤ 50 ∧
  Q (.bl (if neg then !decide (k ∈ ks) else decide (k ∈ ks))) H
section
variable {X : Cx}
theorem in_run {pins : List (Addr × Obj)} {σ : L2.St} {H : Hp} {s : Shared} {its : List Value} {xs : List V} {ks : List NestedKey} {k : NestedKey} {x : V} {v : Value} (I : Inv X pins σ H s) (hu : X.A.units + 64 < cLine) (r : Vals xs its) (hx : Nk H x k) (rx : RelV x v) (hk : NkAll H xs ks) (hd : k.depth ≤ 50) :
    its.toArray.any (eqK s.heap k) = decide (k ∈ ks) ∧ ∀ y, y ∈ its.toArray → EqAt X.A.in1 s y v (eqK s.heap k y) := by
  have ha := hk.is I r
  refine ⟨by rw [show its.toArray.any (eqK s.heap k) = its.any (eqK s.heap k) by simp, any_eqK ha], fun y hy => ?_⟩
  obtain ⟨k', _, h'⟩ := all_is ha (by simpa using hy)
  rw [eqK_is h', NestedKey.decide_eq]
  exact eqAt_key k' k X.A.in1 s y v h' (hx.is I rx) (by show X.A.units + 1 + _ < _; omega)
theorem op_notInN (hu : X.A.units + 64 < cLine) : OpR X (compareOp .NotIn) (rInN X.K true) := by
  intro pins s σ H x y v u Q I rx ry h
  obtain ⟨p, xs, k, ks, rfl, hq, hx, hk, hd, q⟩ := h
  cases ry
  rcases hq with hq | hq
  · obtain ⟨its, r, pl, hz⟩ := I.list hq
    obtain ⟨e1, e2⟩ := in_run I hu r hx rx hk hd
    refine notIn_listAt (eqK s.heap k) pl.isList e2 ⟨.bl _, H, I, rfl, ?_⟩
    rw [e1]
    exact q
  · obtain ⟨its, r, pl, hz⟩ := I.tuple hq
    obtain ⟨e1, e2⟩ := in_run I hu r hx rx hk hd
    refine notIn_tupleAt (eqK s.heap k) pl e2 ⟨.bl _, H, I, rfl, ?_⟩
    rw [e1]
    exact q
theorem op_inN (hu : X.A.units + 64 < cLine) : OpR X (compareOp .In) (rInN X.K false) := by
  intro pins s σ H x y v u Q I rx ry h
  obtain ⟨p, xs, k, ks, rfl, hq, hx, hk, hd, q⟩ := h
  cases ry
  rcases hq with hq | hq
  · obtain ⟨its, r, pl, hz⟩ := I.list hq
    obtain ⟨e1, e2⟩ := in_run I hu r hx rx hk hd
    refine in_listAt (eqK s.heap k) pl.isList e2 ⟨.bl _, H, I, rfl, ?_⟩
    rw [e1]
    exact q
  · obtain ⟨its, r, pl, hz⟩ := I.tuple hq
    obtain ⟨e1, e2⟩ := in_run I hu r hx rx hk hd
    refine in_tupleAt (eqK s.heap k) pl e2 ⟨.bl _, H, I, rfl, ?_⟩
    rw [e1]
    exact q
end
end My

set_option Elab.async false
set_option linter.all false
set_option maxRecDepth 100000
set_option maxHeartbeats 2000000
/-! x < y of numbers, texts and tuples of these: the first place that differs decides, what stands behind it may be of any kinds. -/
namespace My
open PySem PySem.Spec PyProof.Rows L2 PySem.SeqAt
mutual
/-- what Python's x < y tells, where it tells anything -/
def ltK : NestedKey → NestedKey → Option Bool
  | .num a, .num b => some (decide (a < b))
  | .text x, .text y => some (decide (x.cps.toList < y.cps.toList))
  | .tup xs, .tup ys => ltAll xs ys
  | _, _ => none
def ltAll : List NestedKey → List NestedKey → Option Bool
  | [], [] => some false
  | [], _ :: _ => some true
  | _ :: _, [] => some false
  | x :: xs, y :: ys => if x = y then ltAll xs ys else ltK x y
end
mutual
/-- a value that is such a thing (a truth is none) -/
inductive Ns (h : Heap) : NestedKey → Value → Prop
  | none : Ns h .none .none
  | int (i : Int) (t : Tok) : Ns h (.num i) (.int i t)
  | text (x : Str) (t : Tok) : Ns h (.text x) (.str x t)
  | tup {a : Addr} {o : Obj} {vs : Array Value} {n : Nat} {ks : List NestedKey} : h.get? a = some o → o.cls = .type "tuple" → o.data = .seq vs n → NsAll h ks vs.toList → Ns h (.tup ks) (.ref a)
inductive NsAll (h : Heap) : List NestedKey → List Value → Prop
  | nil : NsAll h [] []
  | cons {k : NestedKey} {v : Value} {ks : List NestedKey} {vs : List Value} : Ns h k v → NsAll h ks vs → NsAll h (k :: ks) (v :: vs)
end
mutual
theorem Ns.is {h : Heap} : ∀ {k : NestedKey} {v : Value}, Ns h k v → NestedIs h k v
  | .none, _, .none => .none
  | .num _, _, .int i t => .int i t
  | .text _, _, .text x t => .text x t
  | .tup _, _, .tup e c d r => .tup e c d (NsAll.is r)
theorem NsAll.is {h : Heap} : ∀ {ks : List NestedKey} {vs : List Value}, NsAll h ks vs → NestedAll h ks vs
  | [], _, .nil => .nil
  | _ :: _, _, .cons a r => .cons a.is r.is
end
section
variable {X : Cx} {pins : List (Addr × Obj)} {σ : L2.St} {H : Hp} {s : Shared}
mutual
theorem Nk.ns (I : Inv X pins σ H s) : ∀ {k : NestedKey} {v : V} {u : Value}, Nk H v k → RelV v u → Ns s.heap k u
  | .none, _, _, .non, r => by cases r; exact .none
  | .num _, _, _, .int i, r => by obtain ⟨t, rfl⟩ := r; exact .int i t
  | .text _, _, _, .str z, r => by obtain ⟨t, rfl⟩ := r; exact .text z t
  | .tup _, _, _, .tup e h, r => by
    cases r
    obtain ⟨_, its, rv, ⟨o, ho, hc, n, hd⟩⟩ := I.hok _ _ e
    exact .tup ho hc hd (NkAll.ns I h (by simpa using rv))
theorem NkAll.ns (I : Inv X pins σ H s) : ∀ {ks : List NestedKey} {xs : List V} {us : List Value}, NkAll H xs ks → Vals xs us → NsAll s.heap ks us
  | [], _, _, .nil, r => by cases r; exact .nil
  | _ :: _, _, _, .cons a h, r => by
    cases r with
    | cons r1 r2 => exact .cons (a.ns I r1) (h.ns I r2)
end
end
theorem depth_mem : ∀ {xs : List NestedKey} {x : NestedKey}, x ∈ xs → x.depth ≤ NestedKey.depthAll xs
  | _ :: _, _, .head _ => by rw [NestedKey.depthAll]; omega
  | _ :: _, _, .tail _ h => by have := depth_mem h; rw [NestedKey.depthAll]; omega
section
open AutoSeq1 (wpAny_loadPart')
open MeetsSeq MeetsSeq2 MeetsSeq3 SeqRoads2
theorem tuple_ltK (l b : Addr) (items items2 : Array Value) (n n2 : Nat) (dd dd2 : Option Addr) (sl sl2 : Array (Option Value)) (xs ys : List NestedKey) (k : Bool) :
    Meets (Builtin.«tuple.__lt__» ⟨[.ref l, .ref b], []⟩) (fun A R s => s.heap.get? l = some ⟨.type "tuple", dd, .seq items n, sl⟩ ∧ s.heap.get? b = some ⟨.type "tuple", dd2, .seq items2 n2, sl2⟩ ∧
      NsAll s.heap xs items.toList ∧ NsAll s.heap ys items2.toList ∧ ltAll xs ys = some k ∧
      (∀ x ∈ xs, ∀ y u v, Ns s.heap x u → Ns s.heap y v → EqAt A.in1 s u v (decide (x = y))) ∧
      (∀ x ∈ xs, ∀ y u v c, Ns s.heap x u → Ns s.heap y v → ltK x y = some c → RcLt A.in1 s u v c) ∧ R (.ok (.ret (.bool k))) s) := by
  refine .of_wp fun prog w A R s h => ?_
  obtain ⟨hp, g, d, tk, os⟩ := s
  obtain ⟨hl, hb, h1, h2, hk, heq, hlt, h⟩ := h
  have f2 := AutoSeq1.sub_tuple_tuple
  wp_walk using wpAny_loadPart' hl, wpAny_loadPart' hb, wpAny_forIn_list _ (fun rest c s' => c.1 = none ∧ s' = ⟨hp, g, d, tk, os⟩ ∧ ∃ xs' ys' us vs, rest = List.zip us vs ∧ NsAll hp xs' us ∧ NsAll hp ys' vs ∧ (∀ x ∈ xs', x ∈ xs) ∧
    ltAll xs' ys' = some k ∧ us.length + items2.size = vs.length + items.size) _
  case turn =>
    rintro ⟨u, v⟩ rest c s' ⟨hc, rfl, xs', ys', us, vs, hz, a1, a2, sub, hk', hn⟩
    cases a1 with
    | nil => simp at hz
    | @cons x _ xs2 us2 p1 q1 =>
      cases a2 with
      | nil => simp at hz
      | @cons y _ ys2 vs2 p2 q2 =>
        rw [List.zip_cons_cons] at hz
        cases hz
        refine wpAny_bind (heq x (sub x (.head _)) y _ _ p1 p2 prog w _ _ ?_)
        by_cases e : x = y
        · rw [ltAll, if_pos e] at hk'
          rw [decide_eq_true e]
          wp_walk
          exact ⟨rfl, rfl, xs2, ys2, us2, vs2, rfl, q1, q2, fun z hz => sub z (.tail _ hz), hk', by simp only [List.length_cons] at hn; omega⟩
        · rw [ltAll, if_neg e] at hk'
          rw [decide_eq_false e, if_pos (by decide)]
          dsimp only
          refine wpAny_bind (wpAny_rule ?_)
          refine wpAny_bind (hlt x (sub x (.head _)) y _ _ k p1 p2 hk' prog w _ _ ?_)
          wp_walk
          exact ⟨_, rfl, h⟩
  case fin =>
    rintro ⟨c1, c2⟩ s' ⟨hc, rfl, xs', ys', us, vs, hz, a1, a2, sub, hk', hn⟩
    simp only at hc
    subst hc
    have fin : decide (items.size < items2.size) = k := by
      cases a1 with
      | nil =>
        cases a2 with
        | nil =>
          rw [ltAll] at hk'
          cases hk'
          simp only [List.length_nil] at hn
          exact decide_eq_false (by omega)
        | cons _ _ =>
          rw [ltAll] at hk'
          cases hk'
          simp only [List.length_nil, List.length_cons] at hn
          exact decide_eq_true (by omega)
      | cons _ _ =>
        cases a2 with
        | nil =>
          rw [ltAll] at hk'
          cases hk'
          simp only [List.length_nil, List.length_cons] at hn
          exact decide_eq_false (by omega)
        | cons _ _ => simp at hz
    wp_walk
    refine ⟨_, rfl, ?_⟩
    rw [← fin] at h
    simpa [Builtin.Tuple.tupleCompareSizes] using h
  case h => exact ⟨rfl, rfl, xs, ys, _, _, rfl, h1, h2, fun _ h => h, hk, by simp; omega⟩
theorem rcLt_num {A : Around} {s : Shared} {i j : Int} {t u : Tok} {k : Bool} (e : ltK (.num i) (.num j) = some k) : RcLt A s (.int i t) (.int j u) k := by
  rw [ltK] at e
  cases e
  exact fun prog w E Q h => PyProof.Rows.lt_int h
theorem rcLt_text {A : Around} {s : Shared} {x y : Str} {t u : Tok} {k : Bool} (e : ltK (.text x) (.text y) = some k) : RcLt A s (.str x t) (.str y u) k := by
  rw [ltK] at e
  cases e
  exact fun prog w E Q h => PySem.P.lt_str h
theorem rcLt_tup {A : Around} {s : Shared} {l b : Addr} {o o2 : Obj} {items items2 : Array Value} {n n2 : Nat} {xs ys : List NestedKey} {k : Bool} (ho : s.heap.get? l = some o) (hc : o.cls = .type "tuple") (hd : o.data = .seq items n) (r : NsAll s.heap xs items.toList)
    (ho2 : s.heap.get? b = some o2) (hc2 : o2.cls = .type "tuple") (hd2 : o2.data = .seq items2 n2) (r2 : NsAll s.heap ys items2.toList) (e : ltAll xs ys = some k) (hu : A.units + (NestedKey.depthAll xs + 1) < cLine)
    (ih : ∀ x ∈ xs, ∀ y u v c, Ns s.heap x u → Ns s.heap y v → ltK x y = some c → RcLt A.in1 s u v c) : RcLt A s (.ref l) (.ref b) k := fun prog w E Q h => by
  obtain ⟨cls, dd, data, sl⟩ := o
  obtain ⟨cls2, dd2, data2, sl2⟩ := o2
  simp only at hc hd hc2 hd2
  subst hc hd hc2 hd2
  refine richCompare_meets_room (op := .Lt) ⟨_, ho, rfl⟩ ⟨_, ho2, rfl⟩ F.slot_tuple_lt F.entry_tuple_lt (F.args_tuple_lt_2 _ _) (tuple_ltK l b items items2 n n2 dd dd2 sl sl2 xs ys k)
    ⟨ho, ho2, r, r2, e, fun x hx y u v p q => ?_, ih, (fun x => nomatch x), h⟩ (by omega)
  rw [NestedKey.decide_eq]
  have := depth_mem hx
  exact eqAt_key x y A.in1 s u v p.is q.is (by show A.units + 1 + min x.depth y.depth < cLine; omega)
end
end My

set_option Elab.async false
set_option linter.all false
set_option maxRecDepth 100000
set_option maxHeartbeats 2000000
namespace My
open PySem PySem.Spec PyProof.Rows L2 PySem.SeqAt
theorem depth_tup (xs : List NestedKey) : (NestedKey.tup xs).depth = NestedKey.depthAll xs + 1 := by rw [NestedKey.depth]
theorem rcLtN : ∀ (n : Nat) {x y : NestedKey} {A : Around} {s : Shared} {a b : Value} {k : Bool}, x.depth ≤ n → Ns s.heap x a → Ns s.heap y b → ltK x y = some k → A.units + n < cLine → RcLt A s a b k := by
  intro n
  induction n with
  | zero =>
    intro x y A s a b k hd p q e hu
    cases p with
    | none => cases q <;> simp [ltK] at e
    | int i t => cases q with
      | int j u => exact rcLt_num e
      | _ => simp [ltK] at e
    | text i t => cases q with
      | text j u => exact rcLt_text e
      | _ => simp [ltK] at e
    | tup _ _ _ _ => rw [depth_tup] at hd; omega
  | succ n ih =>
    intro x y A s a b k hd p q e hu
    cases p with
    | none => cases q <;> simp [ltK] at e
    | int i t => cases q with
      | int j u => exact rcLt_num e
      | _ => simp [ltK] at e
    | text i t => cases q with
      | text j u => exact rcLt_text e
      | _ => simp [ltK] at e
    | tup ho hc hdd r => cases q with
      | tup ho2 hc2 hd2 r2 =>
        rw [ltK] at e
        rw [depth_tup] at hd
        refine rcLt_tup ho hc hdd r ho2 hc2 hd2 r2 e (by omega) fun x hx y u v c p q ec => ?_
        have := depth_mem hx
        exact ih (by omega) p q ec (by show A.units + 1 + n < cLine; omega)
      | _ => simp [ltK] at e
def rLtN : R2 := fun x y H Q => ∃ (a b : NestedKey) (k : Bool), Nk H x a ∧ Nk H y b ∧ a.depth ≤ 50 ∧ ltK a b = some k ∧ Q (.bl k) H
theorem op_ltN {X : Cx} (hu : X.A.units + 64 < cLine) : OpR X (compareOp .Lt) rLtN := by
  intro pins s σ H x y v u Q I rx ry h
  obtain ⟨a, b, k, ha, hb, hd, e, q⟩ := h
  exact rcLtN 50 hd (ha.ns I rx) (hb.ns I ry) e (by omega) X.prog X.w _ _ ⟨.bl _, H, I, rfl, q⟩
end My

set_option Elab.async false
set_option linter.all false
set_option maxRecDepth 100000
set_option maxHeartbeats 2000000
/-! Sorting by keys that are tuples with a number first, the first place that differs decides. -/
namespace My
open PySem PySem.Spec PyProof.Rows L2 PySem.SeqAt PySem.W
abbrev toks (k : NestedKey) : List (Int ⊕ List Nat) := keyToks k.data
abbrev toksAll (ks : List NestedKey) : List (Int ⊕ List Nat) := keyToksAll (NestedKey.datas ks)
abbrev lexT (a b : List (Int ⊕ List Nat)) : Bool := PyProof.Rows.lexLt itemOrd a b
theorem toks_num (i : Int) : toks (.num i) = [.inl i] := by unfold toks; rw [NestedKey.data, keyToks]
theorem toks_text (x : Str) : toks (.text x) = [.inr x.cps.toList] := by unfold toks; rw [NestedKey.data, keyToks]
theorem toks_tup (ks : List NestedKey) : toks (.tup ks) = toksAll ks := by unfold toks toksAll; rw [NestedKey.data, keyToks]
theorem toksAll_nil : toksAll [] = [.inl 0] := by unfold toksAll; rw [NestedKey.datas, keyToksAll]
theorem toksAll_cons (k : NestedKey) (ks : List NestedKey) : toksAll (k :: ks) = .inl 1 :: (toks k ++ toksAll ks) := by unfold toks toksAll; rw [NestedKey.datas, keyToksAll]
theorem lexT_int {i j : Int} (ne : i ≠ j) (l m : List (Int ⊕ List Nat)) : lexT (.inl i :: l) (.inl j :: m) = decide (i < j) := by
  unfold lexT
  rw [lex_diff (O := itemOrd) (by intro z; cases z; exact ne rfl)]
  rfl
theorem lexT_str {x y : Str} (ne : x ≠ y) (l m : List (Int ⊕ List Nat)) : lexT (.inr x.cps.toList :: l) (.inr y.cps.toList :: m) = decide (x.cps.toList < y.cps.toList) := by
  have h1 := lex_atom (p := .inr x.cps.toList) (q := .inr y.cps.toList) (fun z => ne (str_of_cps (Sum.inr.inj z))) l m
  have h2 := dataLt_str x y
  unfold dataLt at h2
  simp only [keyToks] at h2
  exact h1.trans h2
mutual
theorem lex_key : ∀ (x y : NestedKey) (c : Bool) (l m : List (Int ⊕ List Nat)), x ≠ y → ltK x y = some c → lexT (toks x ++ l) (toks y ++ m) = c
  | .num i, .num j, c, l, m, ne, e => by
    rw [ltK] at e
    cases e
    rw [toks_num, toks_num]
    exact lexT_int (fun z => ne (by rw [z])) _ _
  | .text x, .text y, c, l, m, ne, e => by
    rw [ltK] at e
    cases e
    rw [toks_text, toks_text]
    exact lexT_str (fun z => ne (by rw [z])) _ _
  | .tup xs, .tup ys, c, l, m, ne, e => by
    rw [ltK] at e
    rw [toks_tup, toks_tup]
    exact lex_keys xs ys c l m (fun z => ne (by rw [z])) e
  | .none, y, c, l, m, ne, e => by cases y <;> simp [ltK] at e
  | .num i, .none, c, l, m, ne, e => by simp [ltK] at e
  | .num i, .text _, c, l, m, ne, e => by simp [ltK] at e
  | .num i, .tup _, c, l, m, ne, e => by simp [ltK] at e
  | .text i, .none, c, l, m, ne, e => by simp [ltK] at e
  | .text i, .num _, c, l, m, ne, e => by simp [ltK] at e
  | .text i, .tup _, c, l, m, ne, e => by simp [ltK] at e
  | .tup i, .none, c, l, m, ne, e => by simp [ltK] at e
  | .tup i, .num _, c, l, m, ne, e => by simp [ltK] at e
  | .tup i, .text _, c, l, m, ne, e => by simp [ltK] at e
theorem lex_keys : ∀ (xs ys : List NestedKey) (c : Bool) (l m : List (Int ⊕ List Nat)), xs ≠ ys → ltAll xs ys = some c → lexT (toksAll xs ++ l) (toksAll ys ++ m) = c
  | [], [], c, l, m, ne, e => absurd rfl ne
  | [], y :: ys, c, l, m, ne, e => by
    rw [ltAll] at e
    cases e
    rw [toksAll_nil, toksAll_cons]
    exact lexT_int (by decide) _ _
  | x :: xs, [], c, l, m, ne, e => by
    rw [ltAll] at e
    cases e
    rw [toksAll_nil, toksAll_cons]
    exact lexT_int (by decide) _ _
  | x :: xs, y :: ys, c, l, m, ne, e => by
    rw [ltAll] at e
    rw [toksAll_cons, toksAll_cons]
    show lexT (.inl 1 :: (toks x ++ toksAll xs ++ l)) (.inl 1 :: (toks y ++ toksAll ys ++ m)) = c
    unfold lexT
    rw [lex_self (O := itemOrd), List.append_assoc, List.append_assoc]
    by_cases h : x = y
    · rw [if_pos h] at e
      subst h
      rw [lex_pre]
      exact lex_keys xs ys c l m (fun z => ne (by rw [z])) e
    · rw [if_neg h] at e
      exact lex_key x y c _ _ h e
end
theorem ltAll_self : ∀ xs : List NestedKey, ltAll xs xs = some false
  | [] => by rw [ltAll]
  | x :: xs => by rw [ltAll, if_pos rfl, ltAll_self xs]
theorem lex_tup {xs ys : List NestedKey} {c : Bool} (e : ltAll xs ys = some c) : lexT (toks (.tup xs)) (toks (.tup ys)) = c := by
  rw [toks_tup, toks_tup]
  by_cases h : xs = ys
  · subst h
    rw [ltAll_self] at e
    cases e
    exact lex_irrefl _
  · have := lex_keys xs ys c [] [] h e
    rwa [List.append_nil, List.append_nil] at this
open Classical in
/-- the kind of keys that such things make in a heap -/
noncomputable def nkKind (h : Heap) (ks : List NestedKey) : PyProof.Rows.KeyKind where
  toKeyOrd := listOrd itemOrd
  keyOf v := if q : ∃ k, k ∈ ks ∧ Ns h k v then some (toks q.choose) else none
  dflt := ([] : List (Int ⊕ List Nat))
theorem nk_some {h : Heap} {ks : List NestedKey} {k : NestedKey} {v : Value} (hk : k ∈ ks) (hv : Ns h k v) : (nkKind h ks).keyOf v = some (toks k) := by
  have q : ∃ k, k ∈ ks ∧ Ns h k v := ⟨k, hk, hv⟩
  have e : (nkKind h ks).keyOf v = some (toks q.choose) := dif_pos q
  rw [e, NestedIs.inj _ _ _ q.choose_spec.2.is hv.is]
theorem nk_inv {h : Heap} {ks : List NestedKey} {v : Value} {t : List (Int ⊕ List Nat)} (e : (nkKind h ks).keyOf v = some t) : ∃ k, k ∈ ks ∧ Ns h k v ∧ t = toks k := by
  by_cases q : ∃ k, k ∈ ks ∧ Ns h k v
  · have e2 : (nkKind h ks).keyOf v = some (toks q.choose) := dif_pos q
    rw [e2] at e
    exact ⟨_, q.choose_spec.1, q.choose_spec.2, (Option.some.inj e).symm⟩
  · have e2 : (nkKind h ks).keyOf v = none := dif_neg q
    rw [e2] at e
    cases e
end My

set_option Elab.async false
set_option linter.all false
set_option maxRecDepth 100000
set_option maxHeartbeats 2000000
namespace My
open PySem PySem.Spec PyProof.Rows L2 PySem.SeqAt PySem.W
section
variable {prog : Program} {w : World} {A : Around} {E : Value → Shared → Prop} {s : Shared}
theorem one_ltN {f : Bool} {x y : NestedKey} {a b : Value} {c : Bool} {n : Nat} {Q : Bool → Shared → Prop} (hf : f = true → ∃ i, x = .num i) (p : Ns s.heap x a) (q : Ns s.heap y b) (e : ltK x y = some c) (hd : x.depth ≤ n) (hu : A.units + n < cLine) (hq : Q c s) :
    wpAny (model prog w) A (oneLt' f a b) Q E s := by
  cases f with
  | false =>
    rw [oneLt'_eq]
    simp only [Bool.false_eq_true, if_false]
    exact wpAny_bind (rcLtN n hd p q e hu prog w E _ (wpAny_truthy_bool hq))
  | true =>
    obtain ⟨i, rfl⟩ := hf rfl
    cases p
    cases q with
    | int j u =>
      rw [ltK] at e
      cases e
      exact oneLt_int hq
    | _ => simp [ltK] at e
theorem katLexN {b fin : Bool} {n : Nat} {Q : Bool → Shared → Prop} : ∀ (xs ys : List NestedKey) (i : Nat) (us vs : List Value) (c : Bool), NsAll s.heap xs us → NsAll s.heap ys vs → ltAll xs ys = some c → (∀ x ∈ xs, x.depth ≤ n) → A.units + n < cLine →
    (b = true → i = 0 → ∀ x r, xs = x :: r → ∃ j, x = .num j) → fin = decide (us.length < vs.length) → Q c s → KatLex prog w A b fin Q (us.zip vs) i s
  | [], [], i, _, _, c, .nil, .nil, e, _, _, _, hf, hq => by
    rw [ltAll] at e
    cases e
    subst hf
    exact kat_nil hq
  | [], y :: ys, i, _, _, c, .nil, .cons q qs, e, _, _, _, hf, hq => by
    rw [ltAll] at e
    cases e
    subst hf
    exact kat_nil (by simpa using hq)
  | x :: xs, [], i, _, _, c, .cons p ps, .nil, e, _, _, _, hf, hq => by
    rw [ltAll] at e
    cases e
    subst hf
    exact kat_nil (by simpa using hq)
  | x :: xs, y :: ys, i, _, _, c, .cons p ps, .cons q qs, e, hd, hu, hb, hf, hq => by
    rw [List.zip_cons_cons]
    have dx := hd x (.head _)
    refine kat_cons (eqAt_key x y A s _ _ p.is q.is (by omega) prog w _ _ ?_)
    rw [← NestedKey.decide_eq]
    rw [ltAll] at e
    by_cases h : x = y
    · rw [if_pos h] at e
      rw [decide_eq_true h]
      exact kat_yes (katLexN xs ys (i + 1) _ _ c ps qs e (fun z hz => hd z (.tail _ hz)) hu (fun _ hi => absurd hi (Nat.succ_ne_zero i)) (by rw [hf]; simp) hq)
    · rw [if_neg h] at e
      rw [decide_eq_false h]
      refine kat_no (one_ltN (n := n) (fun hb2 => ?_) p q e dx hu hq)
      rw [Bool.and_eq_true, beq_iff_eq] at hb2
      exact hb hb2.1 hb2.2 x xs rfl
theorem each_tups {h : Heap} : ∀ {vs : List Value} {ks : List NestedKey}, EachIs (fun v k => Ns h k v) vs ks → (∀ k ∈ ks, ∃ i r, k = .tup (.num i :: r)) → ∃ fs, KatTups h vs fs ∧ fs.length = vs.length ∧ ∀ f ∈ fs, ∃ i t, f = Value.int i t
  | _, _, .nil, _ => ⟨[], KatTups.nil, rfl, fun f hf => by cases hf⟩
  | _, _, .cons (b := k) p t, hk => by
    obtain ⟨fs, h1, h2, h3⟩ := each_tups t fun k hk2 => hk k (.tail _ hk2)
    obtain ⟨i, r, rfl⟩ := hk k (.head _)
    cases p with
    | @tup a o vs n _ ho hc hd hr =>
      cases q : vs.toList with
      | nil => rw [q] at hr; cases hr
      | cons f fr =>
        rw [q] at hr
        cases hr with
        | cons p1 p2 =>
          obtain ⟨u, rfl⟩ : ∃ u, f = Value.int i u := by cases p1; exact ⟨_, rfl⟩
          refine ⟨_ :: fs, KatTups.cons ho hc hd (by rw [← Array.getElem?_toList, q]; rfl) h1, by rw [List.length_cons, List.length_cons, h2], fun g hg => ?_⟩
          rcases List.mem_cons.mp hg with rfl | hg
          · exact ⟨_, _, rfl⟩
          · exact h3 g hg
theorem sortsN {vs : List Value} {ks : List NestedKey} {n : Nat} (e : EachIs (fun v k => Ns s.heap k v) vs ks) (hh : ∀ k ∈ ks, ∃ i r, k = .tup (.num i :: r)) (hc : ∀ k ∈ ks, ∀ k' ∈ ks, ∃ c, ltK k k' = some c) (hd : ∀ k ∈ ks, k.depth ≤ n) (hu : A.units + n < cLine) :
    SortsAt prog w A s (nkKind s.heap ks) vs := by
  refine ⟨fun v hv => ?_, tuples' ((Value.type "int") != Value.type "tuple"), ?_, fun h2 E Q hq => ?_⟩
  · obtain ⟨k, hk, p⟩ := e.left v hv
    exact ⟨_, nk_some hk p⟩
  · intro E x y a b Q ha hb hq
    obtain ⟨k, hk, p, rfl⟩ := nk_inv ha
    obtain ⟨k', hk', p', rfl⟩ := nk_inv hb
    obtain ⟨c, ec⟩ := hc k hk k' hk'
    have dk := hd k hk
    obtain ⟨i, r, rfl⟩ := hh k hk
    obtain ⟨i', r', rfl⟩ := hh k' hk'
    rw [depth_tup] at dk
    rw [ltK] at ec
    have hq : Q (lexT (toks (.tup (.num i :: r))) (toks (.tup (.num i' :: r')))) s := hq
    rw [lex_tup ec] at hq
    cases p with
    | tup h1 h2 h3 h4 =>
      cases p' with
      | tup k1 k2 k3 k4 =>
        refine kat_lt h1 h3 k1 k3 (katLexN (n := n) _ _ 0 _ _ c h4 k4 ec (fun x hx => ?_) hu (fun _ _ x r ex => ?_) (by simp) hq)
        · have := depth_mem hx
          omega
        · obtain ⟨rfl, rfl⟩ := List.cons.inj ex
          exact ⟨_, rfl⟩
  · obtain ⟨fs, t1, t2, t3⟩ := each_tups e hh
    refine kat_kind (T := Value.type "int") t1 (by omega) (fun f hf => ?_) (beq_self_eq_true _) hq
    obtain ⟨i, t, rfl⟩ := t3 f hf
    exact looks_reads (Reads.int i t)
end
end My

set_option Elab.async false
set_option linter.all false
set_option maxRecDepth 100000
set_option maxHeartbeats 2000000
/-! sorted(.., key=f), f a def of the text that tells a tuple of each item. -/
namespace My
open PySem PySem.Spec PyProof.Rows L2 PySem.SeqAt PySem.W
/-- a key's promise: F of the item's data, all else stays -/
def spKey (F : NestedKey → NestedKey) (C : NestedKey → Prop) : Sp := fun vs H Q _ => ∃ x k, vs = [x] ∧ Nk H x k ∧ C k ∧ ∀ v H', Same H H' → Nk H' v (F k) → Q v H'
/-- items with their data, by their keys -/
def leF (F : NestedKey → NestedKey) : V × NestedKey → V × NestedKey → Bool := sortLe (listOrd itemOrd) false fun b => toks (F b.2)
theorem zip_each : ∀ {xs : List V} {ks : List NestedKey} {vs : List Value}, Vals xs vs → xs.length = ks.length → EachIs (fun (v : Value) (b : V × NestedKey) => RelV b.1 v) vs (xs.zip ks)
  | [], [], _, .nil, _ => .nil
  | _ :: _, k :: ks, _, .cons r t, h => .cons r (zip_each t (by simpa using h))
theorem each_vals : ∀ {vs : List Value} {bs : List (V × NestedKey)}, EachIs (fun (v : Value) (b : V × NestedKey) => RelV b.1 v) vs bs → Vals (bs.map Prod.fst) vs
  | _, _, .nil => .nil
  | _, _, .cons r t => .cons r (each_vals t)
theorem each_snd {R : Value → NestedKey → Prop} : ∀ {vs : List Value} {xs : List V} {ks : List NestedKey}, EachIs R vs ks → xs.length = ks.length → EachIs (fun v (b : V × NestedKey) => R v b.2) vs (xs.zip ks)
  | _, [], [], .nil, _ => .nil
  | _, x :: xs, _ :: _, .cons r t, h => .cons r (each_snd t (by simpa using h))
section
variable {X : Cx} {pins : List (Addr × Obj)} {σ : L2.St} {H : Hp} {s : Shared} {f a : Addr} {fd : FuncData} {ps : List Str} {j n : Nat} {F : NestedKey → NestedKey} {C : NestedKey → Prop}
theorem Room.in2 {A : Around} (r : Room (j + 1) A) : Room j A.in1.in1 := ⟨r.hd, by have := r.dp; show A.depth + 3 * j + 5 < _; omega, by have := r.un; show A.units + 1 + 1 + 16 * j + 200 < _; omega⟩
/-- one call of the key, some objects of the sort's own pinned -/
theorem key_call (G : FnOk X.prog X.w X.K X.mg X.base CX0 j f fd ps (spKey F C)) (hr : Room (j + 1) X.A) (hb : Binds X.K fd ps []) (I : Inv X pins σ H s) {x : V} {v : Value} {k : NestedKey} (rv : RelV x v) (hx : Nk H x k) (hC : C k) {Q : Value → Shared → Prop} {E : Value → Shared → Prop}
    (h : ∀ u s' y H', Inv X pins σ H' s' → RelV y u → Same H H' → Nk H' y (F k) → Q u s') : wpAny (model X.prog X.w) X.A.in1.in1 (call (.ref f) [v]) Q E s := by
  have sp : spKey F C [x] H (fun y H' => Same H H' ∧ Nk H' y (F k)) E0 := ⟨x, k, rfl, hx, hC, fun y H' s1 n1 => ⟨s1, n1⟩⟩
  have hl : ([v] ++ ([] : List Value)).length = ps.length := by
    have := G.len _ _ _ _ sp
    simpa using this
  refine wpAny_call (codeAny_mono (G.run X.A.in1.in1 X.stack s H ⟨[v], []⟩ [v] [x] _ E0 (Room.in2 hr) I.env0.in1.in1 (hb s [v] I.kIn hl) (.cons rv .nil) sp) fun r s' hq => ?_)
  match r, hq with
  | .error e, hq => exact hq.elim
  | .ok (.ret u), hq =>
    obtain ⟨y, H', I', ry, s1, n1⟩ := I.after hq
    exact h u s' y H' I' ry s1 n1
end
end My

set_option Elab.async false
set_option linter.all false
set_option maxRecDepth 100000
set_option maxHeartbeats 2000000
namespace My
open PySem PySem.Spec PyProof.Rows L2 PySem.SeqAt PySem.W
theorem each_snocN {R : Value → NestedKey → Prop} {v : Value} {k : NestedKey} (h : R v k) : ∀ {vs : List Value} {ks : List NestedKey}, EachIs R vs ks → EachIs R (vs ++ [v]) (ks ++ [k])
  | _, _, .nil => .cons h .nil
  | _, _, .cons a t => .cons a (each_snocN h t)
section
variable {X : Cx} {pins : List (Addr × Obj)} {σ : L2.St} {H : Hp} {s : Shared} {f a : Addr} {fd : FuncData} {ps : List Str} {j n : Nat} {F : NestedKey → NestedKey} {C : NestedKey → Prop}
/-- a key's value, as it is known to the sort -/
def IsKey (H : Hp) (v : Value) (k : NestedKey) : Prop := ∃ x, Nk H x k ∧ RelV x v
theorem IsKey.at {H H' : Hp} {v : Value} {k : NestedKey} (h : IsKey H v k) (t : Tups H H') : IsKey H' v k := let ⟨x, a, b⟩ := h; ⟨x, a.at t, b⟩
theorem sort_key {xs : List V} {vs : List Value} {ks : List NestedKey} {P : PySem.Fin → Shared → Prop} {E : Value → Shared → Prop} (G : FnOk X.prog X.w X.K X.mg X.base CX0 j f fd ps (spKey F C)) (hr : Room (j + 1) X.A) (hb : Binds X.K fd ps [])
    (I : Inv X pins σ H s) (fa : FpOk X pins H a) (ho : s.heap.get? a = some (seqObj "list" vs.toArray n)) (rv : Vals xs vs) (hk : NkAll H xs ks) (hC : ∀ k ∈ ks, C k) (hh : ∀ k ∈ ks, ∃ i r, F k = .tup (.num i :: r))
    (hc : ∀ k ∈ ks, ∀ k' ∈ ks, ∃ c, ltK (F k) (F k') = some c) (hd : ∀ k ∈ ks, (F k).depth ≤ 50) (hz : vs.length ≤ sizeLine)
    (h : ∀ H' s', Same H H' → H' a = none → Inv X pins σ (upd H' a (.lst (((xs.zip ks).mergeSort (leF F)).map Prod.fst))) s' → P (.done (.ret .none)) s') :
    wpAny (model X.prog X.w) X.A.in1.in1 (ksk_tree a (.ref f) false) P E s := by
  have lk : xs.length = ks.length := hk.length
  have lv : xs.length = vs.length := rv.length
  unfold ksk_tree
  refine wpAny_bind (listItems_at ho rfl ?_)
  refine wpAny_bind (listUpdate_at ho rfl ?_ (by rw [List.size_toArray]; exact hz) (Nat.zero_le _))
  obtain ⟨e1, ho1⟩ : ∃ e1, (s.heap.update a (Obj.mapSeq fun _ => (#[] : Array Value))).get? a = some (seqObj "list" #[] e1) := ⟨_, get?_update_seq ho fun _ => #[]⟩
  have s1 := Heap.SameBut.update s.heap a (Obj.mapSeq fun _ => (#[] : Array Value))
  have I1 : Inv X pins σ H { s with heap := s.heap.update a (Obj.mapSeq fun _ => (#[] : Array Value)) } := I.turnedL (ch := [a]) (t' := s.toks) (fun b o hb e => (s1.2 b (fun z => hb (by simp [z]))).trans e) (fun b hb => by rw [List.mem_singleton.mp hb]; exact fa)
  generalize s.heap.update a (Obj.mapSeq fun _ => (#[] : Array Value)) = h1 at ho1 I1 ⊢
  refine wpAny_bind (seqEpoch_at ho1 rfl ?_)
  refine wpAny_bind (wpAny_newTuple ?_ (by show vs.length ≤ _; exact hz))
  refine wpAny_bind (wpAny_newList ?_ (Nat.zero_le _))
  refine wpAny_holding ?_
  show wpAny _ _ (ksk_rest a (.ref f) false vs.toArray e1 (.ref _)) _ _ { s with heap := (h1.push (seqObj "tuple" vs.toArray 0)).push (seqObj "list" #[] 0) }
  have I2 : Inv X pins σ H { s with heap := h1.push (seqObj "tuple" vs.toArray 0) } := I1.kept (t' := s.toks) fun b u e => Heap.get?_push_of_some _ e
  have I3 : Inv X pins σ H { s with heap := (h1.push (seqObj "tuple" vs.toArray 0)).push (seqObj "list" #[] 0) } := I2.kept (t' := s.toks) fun b u e => Heap.get?_push_of_some _ e
  have ho3 : ((h1.push (seqObj "tuple" vs.toArray 0)).push (seqObj "list" #[] 0)).get? a = some (seqObj "list" #[] e1) := Heap.get?_push_of_some _ (Heap.get?_push_of_some _ ho1)
  have hk3 : ((h1.push (seqObj "tuple" vs.toArray 0)).push (seqObj "list" #[] 0)).get? (h1.push (seqObj "tuple" vs.toArray 0)).objs.size = some (seqObj "list" #[] 0) := Heap.get?_push_size _ rfl
  have fk : FpOk X pins H (h1.push (seqObj "tuple" vs.toArray 0)).objs.size := I2.fpOk (Nat.le_refl _) (I2.hok.fresh (Nat.le_refl _))
  have hka : (h1.push (seqObj "tuple" vs.toArray 0)).objs.size ≠ a := fun z => by
    have := Heap.lt_size (Heap.get?_push_of_some (seqObj "tuple" vs.toArray 0) ho1)
    rw [← z] at this
    exact Nat.lt_irrefl _ this
  generalize (h1.push (seqObj "tuple" vs.toArray 0)).push (seqObj "list" #[] 0) = h3 at I3 ho3 hk3 ⊢
  generalize (h1.push (seqObj "tuple" vs.toArray 0)).objs.size = kS at hk3 fk hka ⊢
  clear I1 I2 ho1 s1
  unfold ksk_rest
  refine wpAny_bind (wpAny_rule ?_)
  rw [List.forIn_toArray]
  refine wpAny_bind (ksk_fold (fun i s' => ∃ H' kA e, Inv X pins σ H' s' ∧ Same H H' ∧ H' a = none ∧ H' kS = none ∧ s'.heap.get? kS = some (seqObj "list" kA e) ∧ s'.heap.get? a = some (seqObj "list" #[] e1) ∧ EachIs (IsKey H') kA.toList ((ks.map F).take i)) vs 0 _
    ⟨H, #[], 0, I3, Same.refl _, fa.1, fk.1, hk3, ho3, by rw [List.take_zero]; exact EachIs.nil⟩ ?step ?done)
  case step =>
    rintro i v s' hv ⟨H', kA, e, I', sm, na, nk, gk, ga, ek⟩
    simp only [Nat.zero_add] at ek ⊢
    have hi : i < vs.length := (List.getElem?_eq_some_iff.mp hv).1
    have hxi : xs[i]? = some xs[i] := List.getElem?_eq_getElem (by omega)
    obtain ⟨k, hki, nkx⟩ := hk.get hxi
    obtain ⟨v2, hv2, rx⟩ := rv.get hxi
    obtain rfl : v2 = v := Option.some.inj (hv2.symm.trans hv)
    have szA : kA.size ≤ vs.length := by
      have h1 := ek.length
      rw [Array.length_toList, List.length_take, List.length_map] at h1
      omega
    have Ip := I'.pinned (fp := [a, kS]) (fun b hb => by
      rcases List.mem_cons.mp hb with rfl | hb
      · exact ⟨na, fa.2⟩
      · rw [List.mem_singleton.mp hb]; exact ⟨nk, fk.2⟩) (fun b hb => by
      rcases List.mem_cons.mp hb with rfl | hb
      · exact ⟨_, ga, fun v z => by cases z⟩
      · rw [List.mem_singleton.mp hb]; exact ⟨_, gk, fun v z => by cases z⟩)
    refine wpAny_bind (wpAny_attempt (key_call G hr hb Ip rx (nkx.at (.same sm)) (hC k (List.mem_of_getElem? hki)) fun u s2 y H2 I2 ry sm2 ny => ?_))
    have pa := I2.pin (a, seqObj "list" #[] e1) (List.mem_append_right _ (List.mem_append_right _ (mem_pinsAt (by simp) ga)))
    have pk := I2.pin (kS, seqObj "list" kA e) (List.mem_append_right _ (List.mem_append_right _ (mem_pinsAt (by simp) gk)))
    have I2 := I2.unpinned
    try dsimp only
    have s3 := Heap.SameBut.update s2.heap kS (Obj.mapSeq (·.push u))
    obtain ⟨c2, hc2⟩ : ∃ c2, (s2.heap.update kS (Obj.mapSeq (·.push u))).get? kS = some (seqObj "list" (kA.push u) c2) := ⟨_, get?_update_seq pk.1 (·.push u)⟩
    refine wpAny_bind (listUpdate_at pk.1 rfl ?_ (Nat.le_trans szA hz) (by rw [Array.size_push]; omega))
    refine wpAny_pure ⟨rfl, H2, kA.push u, c2, ?_, sm.trans sm2, pa.2.1, pk.2.1, hc2, (s3.2 a hka.symm).trans pa.1, ?_⟩
    · exact I2.turnedL (ch := [kS]) (t' := s2.toks) (fun b o hb e => (s3.2 b (fun z => hb (by simp [z]))).trans e) (fun b hb => by rw [List.mem_singleton.mp hb]; exact ⟨pk.2.1, fk.2⟩)
    · have e2 : (ks.map F).take (i + 1) = (ks.map F).take i ++ [F k] := by
        rw [List.take_add_one, List.getElem?_map, hki]
        rfl
      rw [e2, Array.toList_push]
      exact each_snocN ⟨y, ny, ry⟩ (ek.mono fun v k q => q.at (.same sm2))
  case done =>
    rintro s' ⟨H', kA, e, I', sm, na, nk, gk, ga, ek⟩
    rw [List.take_of_length_le (by rw [List.length_map]; omega)] at ek
    have szA : kA.size = vs.length := by
      have h1 := ek.length
      rw [Array.length_toList, List.length_map] at h1
      omega
    refine wpAny_bind (listItems_at gk rfl ?_)
    have en : EachIs (fun v k => Ns s'.heap k v) kA.toList (ks.map F) := ek.mono fun v k q => let ⟨x, a, b⟩ := q; a.ns I' b
    have mem : ∀ {k : NestedKey}, k ∈ ks.map F → ∃ k0, k0 ∈ ks ∧ F k0 = k := fun h => List.mem_map.mp h
    have S : SortsAt X.prog X.w X.A.in1.in1 s' (nkKind s'.heap (ks.map F)) kA.toList := sortsN (n := 50) en
      (fun k hk => by obtain ⟨k0, h0, rfl⟩ := mem hk; exact hh k0 h0)
      (fun k hk k' hk' => by obtain ⟨k0, h0, rfl⟩ := mem hk; obtain ⟨k1, h1, rfl⟩ := mem hk'; exact hc k0 h0 k1 h1)
      (fun k hk => by obtain ⟨k0, h0, rfl⟩ := mem hk; exact hd k0 h0) (by have := hr.un; show X.A.units + 1 + 1 + 50 < cLine; omega)
    have hid : (hideAll s'.heap [kS]).get? kS = none := hideAll_none _ (by simp)
    have kp : KeepsBut a (hideAll s'.heap [kS]) s'.heap := fun b o _ q => of_hideAll _ q
    refine keyH_end (κ := nkKind s'.heap (ks.map F)) (b := false) (vs := vs) (h₁ := hideAll s'.heap [kS]) kp hid gk ga hka S szA hz fun h4 tk c k4 n4 => ?_
    have out := sortVals_each (κ := nkKind s'.heap (ks.map F)) (rev := false) (R := fun (v : Value) (b : V × NestedKey) => RelV b.1 v) (ks := kA.toList) (vs := vs) (bs := xs.zip ks) (fun b => toks (F b.2)) (zip_each rv lk) (by
      have e3 : EachIs (fun v k => (nkKind s'.heap (ks.map F)).keyOf v = some (toks (F k))) kA.toList ks := each_of_map F ((each_mem en).mono fun v k q => nk_some q.2 q.1)
      exact each_snd e3 lk)
    have keep : ∀ b o, b ∉ [a, kS] → s'.heap.get? b = some o → h4.get? b = some o := fun b o nb q => k4 b o (fun z => nb (by simp [z])) (hideAll_get _ q fun z => nb (by simp [List.mem_singleton.mp z]))
    have I4 : Inv X pins σ H' { s' with heap := hideAll s'.heap [], toks := s'.toks } := I'
    refine h H' _ sm na ?_
    have rel : Vals (((xs.zip ks).mergeSort (leF F)).map Prod.fst) (sortVals (nkKind s'.heap (ks.map F)) false kA.toList vs) := each_vals out
    have lo : (((xs.zip ks).mergeSort (leF F)).map Prod.fst).length ≤ sizeLine := by
      rw [List.length_map, List.length_mergeSort, List.length_zip]
      omega
    have I5 : Inv X pins σ H' { s' with heap := h4, toks := tk } := by
      refine I'.turnedL (ch := [a, kS]) (t' := tk) keep fun b hb => ?_
      rcases List.mem_cons.mp hb with rfl | hb
      · exact ⟨na, fa.2⟩
      · rw [List.mem_singleton.mp hb]; exact ⟨nk, fk.2⟩
    exact I5.take (t' := tk) (fun b ob _ e => e) ⟨na, fa.2⟩ ⟨lo, _, c, rel, n4⟩
end
end My

set_option Elab.async false
set_option linter.all false
set_option maxRecDepth 100000
set_option maxHeartbeats 2000000
/-! Dicts whose keys are tuples of numbers, texts and such tuples, all values True. -/
namespace My
open PySem PySem.Spec PyProof.Rows L2 PySem.SeqAt PySem.W
def tri (xs : List (NestedKey × Addr)) : List (NestedKey × Addr × Value) := xs.map fun p => (p.1, p.2, Value.bool true)
def NDraw (P : Program) (w : World) (d : Addr) (xs : List (NestedKey × Addr)) (h : Heap) : Prop :=
  ∃ o es ep, h.get? d = some o ∧ o.ExactDict ∧ o.data = .dict es ep ∧ es.toList = (tri xs).map (entryOfKey (nestedKind P w)) ∧ ((tri xs).map (·.1)).Nodup ∧ (d == sysModules) = false
/-- such a dict -/
def ND (P : Program) (w : World) (d : Addr) (xs : List (NestedKey × Addr)) : HO := .ext (NDraw P w d xs)
/-- such a dict (of none, too), its keys there -/
def NdAt (P : Program) (w : World) (H : Hp) (d : Addr) (xs : List (NestedKey × Addr)) : Prop := (H d = some (ND P w d xs) ∨ (xs = [] ∧ H d = some (.dK []))) ∧ ∀ p ∈ xs, Nk H (.ref p.2) p.1 ∧ p.1.depth ≤ 8
def putN (xs : List (NestedKey × Addr)) (k : NestedKey) (a : Addr) : List (NestedKey × Addr) := if k ∈ xs.map (·.1) then xs else xs ++ [(k, a)]
theorem tri_keys (xs : List (NestedKey × Addr)) : (tri xs).map (·.1) = xs.map (·.1) := by
  unfold tri
  rw [List.map_map]
  rfl
theorem atKey_some {xs : List (NestedKey × Addr)} {k : NestedKey} : (atKey (tri xs) k).isSome = decide (k ∈ xs.map (·.1)) := by
  induction xs with
  | nil => rfl
  | cons p xs ih =>
    unfold tri atKey at *
    rw [List.map_cons, List.find?_cons]
    by_cases e : p.1 = k
    · subst e
      simp
    · have e2 : ¬ k = p.1 := fun z => e z.symm
      simp only [decide_eq_false e]
      rw [ih, List.map_cons]
      simp [List.mem_cons, e2]
theorem stored_tri (xs : List (NestedKey × Addr)) (k : NestedKey) (a : Addr) : storedH (tri xs) k a (.bool true) = tri (putN xs k a) := by
  unfold storedH putN
  rw [atKey_some]
  by_cases e : k ∈ xs.map (·.1)
  · rw [decide_eq_true e, if_pos rfl, if_pos e]
    unfold tri
    rw [List.map_map]
    refine List.map_congr_left fun p _ => ?_
    show putAt k (Value.bool true) (p.1, p.2, Value.bool true) = _
    unfold putAt
    split <;> rfl
  · rw [decide_eq_false e, if_neg Bool.false_ne_true, if_neg e]
    unfold tri
    rw [List.map_append]
    rfl
section
variable {X : Cx} {pins : List (Addr × Obj)} {σ : L2.St} {H : Hp} {s : Shared} {d : Addr} {xs : List (NestedKey × Addr)}
theorem nd_full (I : Inv X pins σ H s) (h : NdAt X.prog X.w H d xs) : s.heap.DictOfH (nestedKind X.prog X.w) d (tri xs) ∧ (d == sysModules) = false := by
  have keys : ∀ x ∈ tri xs, (nestedKind X.prog X.w).is s.heap x.1 x.2.1 := fun x hx => by
    obtain ⟨p, hp, rfl⟩ := List.mem_map.mp hx
    exact ⟨(h.2 p hp).1.is I rfl, (h.2 p hp).2⟩
  rcases h.1 with e | ⟨rfl, e⟩
  · obtain ⟨⟨o, es, ep, h1, h2, h3, h4, h5, h6⟩, _⟩ := (show ObjOk X.prog X.w H s.heap d (ND X.prog X.w d xs) from I.hok d _ e)
    exact ⟨⟨o, es, ep, h1, h2, h3, h4, keys, h5⟩, h6⟩
  · obtain ⟨z, hd, vs, rel, o, es, ep, h1, h2, h3, h4⟩ := (show ObjOk X.prog X.w H s.heap d (.dK []) from I.hok d _ e)
    cases rel
    have e0 : es.toList = [] := by
      have := h4.2.1
      cases q : es.toList with
      | nil => rfl
      | cons a b => rw [q] at this; cases this
    exact ⟨⟨o, es, ep, h1, h2, h3, e0, keys, List.nodup_nil⟩, hd⟩
theorem nd_new {P : Program} {w : World} {H : Hp} {h : Heap} (m : h.DictOfH (nestedKind P w) d (tri xs)) (hd : (d == sysModules) = false) : ObjOk P w H h d (ND P w d xs) := by
  obtain ⟨o, es, ep, h1, h2, h3, h4, _, h5⟩ := m
  refine ⟨⟨o, es, ep, h1, h2, h3, h4, h5, hd⟩, ⟨o, h1⟩, ?_⟩
  rintro g1 g2 ⟨o, es, ep, k1, k2⟩ up
  exact ⟨o, es, ep, up o k1, k2⟩
theorem nd_mut {P : Program} {w : World} {H : Hp} (h : NdAt P w H d xs) : Mut (H d) := by
  rcases h.1 with e | ⟨_, e⟩ <;> rw [e] <;> trivial
/-- behind d[k] = True -/
theorem nd_put {P : Program} {w : World} {H : Hp} {a : Addr} {k : NestedKey} (h : NdAt P w H d xs) (hk : Nk H (.ref a) k) (hd : k.depth ≤ 8) (nd : ∀ ys, H d ≠ some (.tup ys)) : NdAt P w (upd H d (ND P w d (putN xs k a))) d (putN xs k a) := by
  have t : Tups H (upd H d (ND P w d (putN xs k a))) := fun b ys e => by
    rw [upd_ne (fun z => nd ys (by rw [← z]; exact e))]
    exact e
  refine ⟨.inl upd_same, fun p hp => ?_⟩
  unfold putN at hp
  split at hp
  · exact ⟨(h.2 p hp).1.at t, (h.2 p hp).2⟩
  · rcases List.mem_append.mp hp with hp | hp
    · exact ⟨(h.2 p hp).1.at t, (h.2 p hp).2⟩
    · rw [List.mem_singleton.mp hp]
      exact ⟨hk.at t, hd⟩
theorem nd_ntup {P : Program} {w : World} {H : Hp} (h : NdAt P w H d xs) : ∀ ys, H d ≠ some (.tup ys) := fun ys z => by
  rcases h.1 with e | ⟨_, e⟩
  · rw [e] at z; cases z
  · rw [e] at z; cases z
theorem nd_dictSet {A : Around} {a : Addr} {k : NestedKey} {E : Value → Shared → Prop} {Q : Unit → Shared → Prop} (hu : A.units + 8 < cLine) (I : Inv X pins σ H s) (h : NdAt X.prog X.w H d xs) (hk : Nk H (.ref a) k) (hd : k.depth ≤ 8) (hz : xs.length < sizeLine)
    (q : ∀ s', Inv X pins σ (upd H d (ND X.prog X.w d (putN xs k a))) s' → Q () s') : wpAny (model X.prog X.w) A (dictSet d (.ref a) (.bool true)) Q E s := by
  obtain ⟨m, hs⟩ := nd_full I h
  refine wpAny_dictSet_heap (knd := nestedKind X.prog X.w) (hsz := by unfold tri; rw [List.length_map]; omega) hu ⟨hk.is I rfl, hd⟩ m fun h' m' sb => q _ ?_
  rw [stored_tri] at m'
  have he : ∃ o, h'.get? d = some o := let ⟨o, _, _, g, _⟩ := m'; ⟨o, g⟩
  exact d_write I (nd_mut h) sb he (nd_new m' hs)
theorem nd_setItem {A : Around} {a : Addr} {k : NestedKey} {E : Value → Shared → Prop} {Q : Unit → Shared → Prop} (hu : A.units + 9 < cLine) (I : Inv X pins σ H s) (h : NdAt X.prog X.w H d xs) (hk : Nk H (.ref a) k) (hd : k.depth ≤ 8) (hz : xs.length < sizeLine)
    (q : ∀ s', Inv X pins σ (upd H d (ND X.prog X.w d (putN xs k a))) s' → Q () s') : wpAny (model X.prog X.w) A (setItem (.ref d) (.ref a) (.bool true)) Q E s := by
  obtain ⟨m, hs⟩ := nd_full I h
  refine wpAny_setItem_heap (knd := nestedKind X.prog X.w) (hsz := by unfold tri; rw [List.length_map]; omega) (by show A.units + 1 + 8 < cLine; omega) ⟨hk.is I rfl, hd⟩ m fun h' m' sb => q _ ?_
  rw [stored_tri] at m'
  have he : ∃ o, h'.get? d = some o := let ⟨o, _, _, g, _⟩ := m'; ⟨o, g⟩
  exact d_write I (nd_mut h) sb he (nd_new m' hs)
end
section
variable {X : Cx} {o i value : Expr} {td ty tv : TE} {pos pos' : Pos}
/-- d[k] = True -/
def sDPutN (P : Program) (w : World) (td ty tv : TE) : TS := fun D σ H => tv σ H fun v H1 => td σ H1 fun x H2 => ty σ H2 fun y H3 => ∃ d a k xs, v = .bl true ∧ x = .ref d ∧ y = .ref a ∧ NdAt P w H3 d xs ∧ Nk H3 (.ref a) k ∧ k.depth ≤ 8 ∧ xs.length < sizeLine ∧ D.nx σ (upd H3 d (ND P w d (putN xs k a)))
theorem ps_dputN (hu : X.A.units + 64 < cLine) (ho : PE X o td) (hi : PE X i ty) (hv : PE X value tv) (hs : swapsWith value (some (.Subscript o i pos')) pos.line X.env = pure false) : PS X (.Assign [.Subscript o i pos'] value pos) (sDPutN X.prog X.w td ty tv) := by
  constructor
  intro pins s σ H D I h
  refine wpAny_Assign_Subscript (thn (hv.run pins s σ H _ I h) ?_) hs
  rintro r s1 ⟨v, H1, I1, rv, q1⟩
  refine thn (ho.run pins s1 σ H1 _ I1 q1) ?_
  rintro u s2 ⟨x, H2, I2, rx, q2⟩
  refine thn (hi.run pins s2 σ H2 _ I2 q2) ?_
  rintro iv s3 ⟨y, H3, I3, ry, d, a, k, xs, rfl, rfl, rfl, hn, hk, hd, hz, q3⟩
  cases rv
  cases rx
  cases ry
  exact nd_setItem (by omega) I3 hn hk hd hz fun s4 I4 => ⟨σ, _, I4, q3⟩
/-- k in d, k not in d -/
def rInD (P : Program) (w : World) (neg : Bool) : R2 := fun x y H Q => ∃ d a k xs, x = .ref a ∧ y = .ref d ∧ NdAt P w H d xs ∧ Nk H (.ref a) k ∧ k.depth ≤ 8 ∧ Q (.bl (if neg then !decide (k ∈ xs.map (·.1)) else decide (k ∈ xs.map (·.1)))) H
theorem op_inD (hu : X.A.units + 64 < cLine) : OpR X (compareOp .In) (rInD X.prog X.w false) := by
  intro pins s σ H x y v u Q I rx ry h
  obtain ⟨d, a, k, xs, rfl, rfl, hn, hk, hd, q⟩ := h
  cases rx
  cases ry
  obtain ⟨m, hs⟩ := nd_full I hn
  refine wpAny_in_heap (knd := nestedKind X.prog X.w) (by show X.A.units + 1 + 8 < cLine; omega) ⟨hk.is I rfl, hd⟩ hs m ⟨.bl _, H, I.tok _, rfl, ?_⟩
  rw [atKey_some]
  exact q
theorem op_notInD (hu : X.A.units + 64 < cLine) : OpR X (compareOp .NotIn) (rInD X.prog X.w true) := by
  intro pins s σ H x y v u Q I rx ry h
  obtain ⟨d, a, k, xs, rfl, rfl, hn, hk, hd, q⟩ := h
  cases rx
  cases ry
  obtain ⟨m, hs⟩ := nd_full I hn
  refine notIn_keyed (knd := nestedKind X.prog X.w) (by show X.A.units + 1 + 8 < cLine; omega) ⟨hk.is I rfl, hd⟩ hs ⟨_, m, rfl⟩ ⟨.bl _, H, I.tok _, rfl, ?_⟩
  rw [valueAt_pairsH, Option.isSome_map, atKey_some]
  exact q
end
end My

set_option Elab.async false
set_option linter.all false
set_option maxRecDepth 100000
set_option maxHeartbeats 2000000
namespace My
open PySem PySem.Spec PyProof.Rows L2 PySem.SeqAt PySem.W
theorem kdl_rawD {prog : Program} {w : World} {d : Addr} {es : Array DictEntry} {ep : Nat} (lo : (d == sysModules) = false) : KdlSrc prog w "dict" d d es.size (fun i v => ∃ hi : i < es.size, v = es[i].key) (fun h => h.DictRaw d es ep) where
  type := fun _ hm => hm.typeIs
  there := fun h hm => let ⟨o, ho, _⟩ := hm; ⟨Heap.lt_size ho, Heap.lt_size ho⟩
  keep := fun _ _ hm hk => hm.at fun o e => hk d (.inl rfl) o e
  notList := by decide
  notTuple := by decide
  hint := fun _ _ _ _ hm hq => kdl_hint_dict hm.typeIs hq
  iter := fun _ s hh hm => by
    obtain ⟨o, ho, _⟩ := id hm
    exact ⟨_, _, (fun _ _ hq => wpAny_pyIter_dict_raw lo hm hq), Walks.rawKeys hh _ d (Nat.ne_of_lt (Heap.lt_size ho)) es ep, ⟨⟨_, Heap.get?_push_size _ rfl, rfl, rfl⟩, hm.at fun o e => Heap.get?_push_of_some _ e⟩⟩
/-- what sorted tells of such a dict's keys -/
def sortD (F : NestedKey → NestedKey) (xs : List (NestedKey × Addr)) : List V := (((xs.map fun p => V.ref p.2).zip (xs.map (·.1))).mergeSort (leF F)).map Prod.fst
theorem vals_refs : ∀ {xs : List (NestedKey × Addr)} {us : List Value}, us.length = xs.length → (∀ (j : Nat) (v : Value), us[j]? = some v → ∃ p : NestedKey × Addr, xs[j]? = some p ∧ v = Value.ref p.2) → Vals (xs.map fun p => V.ref p.2) us
  | [], [], _, _ => .nil
  | p :: xs, u :: us, hl, h => by
    refine .cons ?_ (vals_refs (by simpa using hl) fun j v e => h (j + 1) v (by simpa using e))
    obtain ⟨q, e, e2⟩ := h 0 u rfl
    cases e
    exact e2
theorem nk_refs {H : Hp} : ∀ {xs : List (NestedKey × Addr)}, (∀ p ∈ xs, Nk H (.ref p.2) p.1) → NkAll H (xs.map fun p => V.ref p.2) (xs.map (·.1))
  | [], _ => .nil
  | p :: xs, h => .cons (h p (.head _)) (nk_refs fun q hq => h q (.tail _ hq))
section
variable {X : Cx} {f : Addr} {fd : FuncData} {ps : List Str} {j : Nat} {F : NestedKey → NestedKey} {C : NestedKey → Prop}
def rSortD (P : Program) (w : World) (f : Addr) (F : NestedKey → NestedKey) (C : NestedKey → Prop) : List V → List V → Hp → VK → Prop := fun vs zs H Q => ∃ (d : Addr) (xs : List (NestedKey × Addr)), vs = [.ref d] ∧ zs = [.ref f] ∧ NdAt P w H d xs ∧ (∀ p ∈ xs, C p.1) ∧
  (∀ p ∈ xs, ∃ i r, F p.1 = .tup (.num i :: r)) ∧ (∀ p ∈ xs, ∀ q ∈ xs, ∃ c, ltK (F p.1) (F q.1) = some c) ∧ (∀ p ∈ xs, (F p.1).depth ≤ 50) ∧ xs.length ≤ sizeLine ∧ ∀ H' p, Same H H' → H' p = none → H p = none → Q (.ref p) (upd H' p (.lst (sortD F xs)))
theorem cr_sortD (hcalm : X.calm = true) (G : FnOk X.prog X.w X.K X.mg X.base CX0 j f fd ps (spKey F C)) (hr : Room (j + 1) X.A) (hb : Binds X.K fd ps []) : CallRK X (.builtin "sorted") [Str.ofString "key"] (rSortD X.prog X.w f F C) := by
  intro pins s σ H vs zs us ws Q I r1 r2 h
  obtain ⟨d, xs, rfl, rfl, hn, hC, hh, hc, hd, hz, q⟩ := h
  obtain ⟨u, rfl, ru⟩ := vals1 r1
  obtain ⟨u2, rfl, ru2⟩ := vals1 r2
  cases ru
  cases ru2
  obtain ⟨m, lo⟩ := nd_full I hn
  obtain ⟨o, es, ep, g1, g2, g3, g4, g5, g6⟩ := m
  have hes : es.size = xs.length := by rw [← Array.length_toList, g4, List.length_map]; unfold tri; rw [List.length_map]
  show wpAny _ _ (call (.builtin "sorted") [.ref d] [(Str.ofString "key", .ref f)]) _ _ _
  refine call_function_entry_kw kind_sorted plain_sorted entry_sorted (ksk_s1 _ _) ?_
  unfold Builtin.«sorted»
  refine wpAny_bind (m := checkCount "sorted" 1 1 _) (wpAny_pure ?_)
  refine wpAny_bind (kdu_collect (A := X.A.in1) (kdl_rawD (es := es) (ep := ep) lo) (I.ok.hd hcalm) ⟨o, g1, g2, g3⟩ (by omega) fun h' tk acc hk hacc => ?_)
  have rv : Vals (xs.map fun p => V.ref p.2) acc.toList := vals_refs (by rw [Array.length_toList, hacc.1, hes]) fun i v e => by
    obtain ⟨hi, rfl⟩ := hacc.2 i v (by rw [← Array.getElem?_toList]; exact e)
    have hx : i < xs.length := by omega
    refine ⟨xs[i], List.getElem?_eq_getElem hx, ?_⟩
    have e2 : es[i]? = some es[i] := Array.getElem?_eq_getElem hi
    rw [← Array.getElem?_toList, g4, List.getElem?_map] at e2
    unfold tri at e2
    rw [List.getElem?_map, List.getElem?_eq_getElem hx] at e2
    rw [← Option.some.inj e2]
    rfl
  have la : acc.toList.length ≤ sizeLine := by rw [Array.length_toList, hacc.1]; omega
  have I1 : L2.Inv X pins σ H { s with heap := h', toks := tk } := I.kept hk
  refine wpAny_bind (wpAny_newList ?_ la)
  show wpAny _ _ _ _ _ { s with heap := h'.push (seqObj "list" acc.toList.toArray 0), toks := tk }
  have I2 : L2.Inv X pins σ H { s with heap := h'.push (seqObj "list" acc.toList.toArray 0), toks := tk } := I1.kept (t' := tk) fun b u e => Heap.get?_push_of_some _ e
  have hoL : (h'.push (seqObj "list" acc.toList.toArray 0)).get? h'.objs.size = some (seqObj "list" acc.toList.toArray 0) := Heap.get?_push_size _ rfl
  have fresh : H h'.objs.size = none := I1.hok.fresh (Nat.le_refl _)
  have fp : FpOk X pins H h'.objs.size := I1.fpOk (Nat.le_refl _) fresh
  refine wpAny_bind (wpAny_holding (wpAny_call_entry_kw slot_list_sort ⟨_, hoL, rfl⟩ entry_list_sort ?_ (ksk_l1 _ _)))
  rw [ksk_t1]
  have mem : ∀ {k : NestedKey}, k ∈ xs.map (·.1) → ∃ p, p ∈ xs ∧ p.1 = k := fun h => List.mem_map.mp h
  refine sort_key (X := X) (pins := pins) (σ := σ) (H := H) (s := { s with heap := h'.push (seqObj "list" acc.toList.toArray 0), toks := tk }) G hr hb I2 fp hoL rv (nk_refs fun p hp => (hn.2 p hp).1)
    (fun k hk => by obtain ⟨p, hp, rfl⟩ := mem hk; exact hC p hp) (fun k hk => by obtain ⟨p, hp, rfl⟩ := mem hk; exact hh p hp)
    (fun k hk k' hk' => by obtain ⟨p, hp, rfl⟩ := mem hk; obtain ⟨p2, hp2, rfl⟩ := mem hk'; exact hc p hp p2 hp2) (fun k hk => by obtain ⟨p, hp, rfl⟩ := mem hk; exact hd p hp) la fun H' s' sm nh I3 => ?_
  exact ⟨_, rfl, wpAny_pure ⟨_, rfl, .ref h'.objs.size, _, I3, rfl, q H' _ sm nh fresh⟩⟩
end
end My

set_option Elab.async false
set_option linter.all false
set_option maxRecDepth 100000
set_option maxHeartbeats 2000000
/-! {k: True for .. in ..}, k a tuple of numbers, texts and such tuples. -/
namespace My
open PySem PySem.Spec PyProof.Rows L2 PySem.SeqAt PySem.W
section
variable {X : Cx}
def DcStep (P : Program) (w : World) (J : It) (g : TG) (tt : TT) (tk tv : TE) (vs : List Nat) (σ : L2.St) (D : Addr) (Qd : Hp → Prop) (W : Nat → Nat → Hp → Prop) (i m : Nat) (H : Hp) : Prop :=
  (J.stop i H ∧ Qd H) ∨ (J.go i H ∧ ∃ Nx : Hp → Prop, (∀ H', Nx H' → ∃ m', m' < m ∧ W (i + 1) m' H') ∧ ∀ x H', J.yld i H x H' →
    g x (wipe σ vs) H' fun σ2 H2 => wipe σ2 vs = wipe σ vs ∧ tt σ2 H2 fun b H3 => if b = true then tk σ2 H3 fun y H4 => tv σ2 H4 fun z H5 =>
      ∃ a k xs, y = .ref a ∧ z = .bl true ∧ NdAt P w H5 D xs ∧ Nk H5 (.ref a) k ∧ k.depth ≤ 8 ∧ xs.length < sizeLine ∧ Nx (upd H5 D (ND P w D (putN xs k a))) else Nx H3)
def tDcN (P : Program) (w : World) (wi : TI) (g : TG) (tt : TT) (tk tv : TE) (vs : List Nat) : TE := fun σ H Q => wi σ H fun J H1 => ∀ D, H1 D = none →
  ∃ W : Nat → Nat → Hp → Prop, (∃ m, W 0 m (upd H1 D (.dK []))) ∧ ∀ i m H', W i m H' → DcStep P w J g tt tk tv vs σ D (fun H2 => Q (.ref D) H2) W i m H'
abbrev Blk (X : Cx) (scope : Scope) (s : Shared) (H : Hp) (C : Addr) (cl : List (Str × Addr)) (fp : List Addr) : Cx := X.blk s H scope (compEnvC scope cl C X.env) fp
theorem dcN_core {pins : List (Addr × Obj)} {s : Shared} {σ : L2.St} {H : Hp} {Q : VK} {kx vx tg iter : Expr} {ifs : List Expr} {scope : Scope} {own : List (Str × Nat)} {pos pos' : Pos} {wi : TI} {g : TG} {tt : TT} {tk tv : TE} {use : Option (Value → Sem Unit)} {Qf : Value → Shared → Prop}
    (hu : X.A.units + 64 < cLine) (calm : X.calm = true) (nd : X.N.Nodup) (I : L2.Inv X pins σ H s) (hi : PI X tg iter wi) (ok : BlkOk X.N X.env.scope scope own)
    (hg : ∀ s H C cl fp, PG (Blk X scope s H C cl fp) tg g) (ht : ∀ s H C cl fp, PTs (Blk X scope s H C cl fp) ifs tt) (hk : ∀ s H C cl fp, PE (Blk X scope s H C cl fp) kx tk) (hv : ∀ s H C cl fp, PE (Blk X scope s H C cl fp) vx tv)
    (fold : ∀ x, foldedSetIterable iter X.env x = pure x) (h : tDcN X.prog X.w wi g tt tk tv (own.map (·.2)) σ H Q)
    (back : ∀ D C s' m H', L2.Inv X pins σ H' s' → Q (.ref D) H' → s'.heap.Ns C m → FpOk X pins H' C → compPost (model X.prog X.w) X.A X.xe use Qf (.ref D) C (.ok .next) s') :
    wpAny (model X.prog X.w) X.A (comprehension (.DictComp kx vx [⟨tg, iter, ifs, 0⟩] scope pos) scope X.env pos' newDict false (eval iter X.env) use) Qf X.xe s := by
  have free : ∀ y ∈ scope.names, y.2 = .free → ∃ c, X.env.cells.lookup y.1 = some c := by
    intro y hy e
    exact (ok.free y hy e).elim (fun k => I.ok.has _ (.inl k)) fun k => I.ok.has _ (.inr k)
  refine wpAny_comprehension_free (use := use) rfl fold (closure_ok free) ok.kind (fun y hy e => by rw [ok.uniq y hy, e]) (thn (hi.run pins s σ H _ I h) fun xv s1 hx => thn hx ?_)
  rintro itv s2 ⟨it, fp, tn, J, H2, rfl, I2, T, st2, f2, q⟩
  refine wpAny_newObj_type (newEnv_comp ?_)
  obtain ⟨D, hD⟩ : ∃ D, D = s2.heap.objs.size := ⟨_, rfl⟩
  rw [← hD]
  have fresh : H2 D = none := I2.hok.fresh (Nat.le_of_eq hD.symm)
  obtain ⟨W, ⟨m0, w0⟩, turn⟩ := q D fresh
  obtain ⟨s3, hs3⟩ : ∃ s3 : Shared, s3 = { s2 with heap := s2.heap.push { cls := .type "dict", data := .dict #[] } } := ⟨_, rfl⟩
  have I3 : L2.Inv X pins σ (upd H2 D (.dK [])) s3 := by
    rw [hs3]
    refine I2.laid (t' := s2.toks) (fun b o e => Heap.get?_push_of_some _ e) (Nat.le_of_eq hD.symm) ?_
    rw [hD]
    exact dk_empty s2.heap I2.big
  have h3 : s3.heap = s2.heap.push { cls := .type "dict", data := .dict #[] } := by rw [hs3]
  have old : ∀ b ∈ fp, b < s2.heap.objs.size := fun b hb => let ⟨o, e, _⟩ := T.obj _ _ st2 b hb; Heap.lt_size e
  have f3 : ∀ b ∈ fp, FpOk X pins (upd H2 D (.dK [])) b ∧ b < s3.heap.objs.size := by
    intro b hb
    have lt := old b hb
    refine ⟨⟨?_, (f2 b hb).2⟩, by rw [h3, Heap.size_push]; exact Nat.lt_succ_of_lt lt⟩
    rw [upd_ne (by rw [hD]; exact Nat.ne_of_lt lt)]
    exact (f2 b hb).1
  have st3 : tn 0 s3.heap := T.keep _ _ _ st2 fun b _ o e => by rw [h3]; exact Heap.get?_push_of_some _ e
  have I4 := block_start I3 ok nd f3
  obtain ⟨cl, hcl⟩ : ∃ cl, cl = cellsFrom (s3.heap.objs.size + 1) scope.names (cloFrom X.env.cells scope.names []) := ⟨_, rfl⟩
  obtain ⟨C, hC⟩ : ∃ C, C = s3.heap.objs.size := ⟨_, rfl⟩
  obtain ⟨H3, hH3⟩ : ∃ H3, H3 = upd H2 D (.dK []) := ⟨_, rfl⟩
  rw [← hcl, ← hC, ← hH3] at I4
  rw [← hH3] at I3 f3 w0
  obtain ⟨s4, hs4⟩ : ∃ s4 : Shared, s4 = { s3 with heap := pushCells (s3.heap.push { cls := .type "dict", data := .dict #[] }) scope.names } := ⟨_, rfl⟩
  rw [← hs4] at I4
  rw [← hs3]
  show codeAny _ _ (.compStart (.DictComp kx vx [⟨tg, iter, ifs, 0⟩] scope pos) 0 (.ref it) (.ref D) (compEnvC scope (cellsFrom (s3.heap.objs.size + 1) scope.names (cloFrom X.env.cells scope.names [])) s3.heap.objs.size X.env)) (compPost (model X.prog X.w) X.A X.xe use Qf (.ref D) s3.heap.objs.size) { s3 with heap := pushCells (s3.heap.push { cls := .type "dict", data := .dict #[] }) scope.names }
  rw [← hcl, ← hC, ← hs4]
  have pg := hg s3 H3 C cl fp
  have pt := ht s3 H3 C cl fp
  have pk := hk s3 H3 C cl fp
  have pv := hv s3 H3 C cl fp
  have cL : (compEnvC scope cl C X.env).locals = C := rfl
  have nfp : ∀ b ∈ fp, H3 b = none := fun b hb => (f3 b hb).1.1
  have st4 : tn 0 s4.heap := T.keep _ _ _ st3 fun b _ o e => by rw [hs4]; exact pushCells_keeps _ _ _ _ (Heap.get?_push_of_some _ e)
  have stat : ∀ {σ' : L2.St} {H' : Hp} {s' : Shared}, L2.Inv (Blk X scope s3 H3 C cl fp) [] σ' H' s' → (∀ b ∈ fp, H' b = none) → ∀ b ∈ fp, FpOk (Blk X scope s3 H3 C cl fp) [] H' b := by
    intro σ' H' s' I' hn b hb
    exact ⟨hn b hb, (I'.ok.exf b hb).1, I'.ok.exfs b hb, .inl hb, fun x c e => (I'.ok.exf b hb).2 x c e, fun p hp => absurd (show p ∈ ([] : List (Addr × Obj)) ++ [] from hp) (by simp)⟩
  have loop : codeAny (model X.prog X.w) X.A (.compLoop (.DictComp kx vx [⟨tg, iter, ifs, 0⟩] scope pos) 0 (.ref it) (.ref D) (compEnvC scope cl C X.env)) (compPost (model X.prog X.w) X.A X.xe use Qf (.ref D) C) s4 := by
    refine compLoop_anyD (fun n s' => ∃ i H', L2.Inv (Blk X scope s3 H3 C cl fp) [] (wipe σ (own.map (·.2))) H' s' ∧ tn i s'.heap ∧ (∀ b ∈ fp, H' b = none) ∧ W i n H') ?_ m0 ⟨0, H3, I4, st4, nfp, w0⟩
    rintro n s5 ⟨i, H5, I5, st5, n5, w5⟩
    rcases turn i n H5 w5 with ⟨stop, qq⟩ | ⟨go, Nx, hNx, step⟩
    · refine thnF (T.done (Blk X scope s3 H3 C cl fp) rfl rfl rfl calm i [] s5 _ H5 (fun _ _ => False) I5 (stat I5 n5) st5 stop) ?_
      rintro r s6 ⟨rfl, I6⟩
      have I7 : L2.Inv X pins σ H5 s6 := I3.call' (ch := fp) I6.os I6.base I6.hok I6.bare fun b hb => ⟨(f3 b hb).1.2.2.2.1, (f3 b hb).1.2.1, (f3 b hb).1.2.2.2.2.1, (f3 b hb).1.2.2.2.2.2⟩
      have nC : H5 C = none := I6.free
      obtain ⟨m, hn, _⟩ := I6.loc
      exact back D C s6 m H5 I7 qq hn (I3.fpOk (Nat.le_of_eq hC.symm) nC)
    · refine thnF (T.item (Blk X scope s3 H3 C cl fp) rfl rfl rfl calm i [] s5 _ H5 (fun _ _ => False) I5 (stat I5 n5) st5 go) ?_
      rintro r s6 ⟨u, rfl, h6⟩
      refine thnF h6 ?_
      rintro _ s7 ⟨x, H7, I7, r7, y7, st7, n7⟩
      refine thnF (pg.run _ s7 _ H7 x u _ (I7.pinned (stat I7 n7) (T.obj _ _ st7)) r7 (step x H7 y7)) ?_
      rintro _ s8 ⟨σ8, H8, I8, hw8, q8⟩
      refine thnF (pt.run _ s8 σ8 H8 _ I8 q8) ?_
      rintro b s9 ⟨H9, I9, q9⟩
      have fin : ∀ {s' : Shared} {H' : Hp}, L2.Inv (Blk X scope s3 H3 C cl fp) ([] ++ pinsAt fp s7.heap) σ8 H' s' → Nx H' → ∃ m, m < n ∧ ∃ i H', L2.Inv (Blk X scope s3 H3 C cl fp) [] (wipe σ (own.map (·.2))) H' s' ∧ tn i s'.heap ∧ (∀ b ∈ fp, H' b = none) ∧ W i m H' := by
        intro s' H' I' nx
        obtain ⟨m', lt, w'⟩ := hNx H' nx
        have pin : ∀ b ∈ fp, ∀ o, s7.heap.get? b = some o → s'.heap.get? b = some o ∧ H' b = none := by
          intro b hb o e
          have z := I'.pin (b, o) (List.mem_append_right _ (List.mem_append_right _ (mem_pinsAt hb e)))
          exact ⟨z.1, z.2.1⟩
        refine ⟨m', lt, i + 1, H', (I'.unpinned (pins := [])).weak (by rw [← hw8, wipe_length]) (fun j v e => ?_), T.keep _ _ _ st7 fun b hb o e => (pin b hb o e).1, fun b hb => ?_, w'⟩
        · rw [← hw8] at e
          exact (wipe_some e).1
        · obtain ⟨o, e, _⟩ := T.obj _ _ st7 b hb
          exact (pin b hb o e).2
      cases b with
      | false =>
        simp only [Bool.false_eq_true, if_false] at q9 ⊢
        exact fin I9 q9
      | true =>
        simp only [if_true] at q9 ⊢
        refine thnF (pk.run _ s9 σ8 H9 _ I9 q9) ?_
        rintro z s10 ⟨yk, H10, I10, r10, q10⟩
        refine thnF (pv.run _ s10 σ8 H10 _ I10 q10) ?_
        rintro z2 s11 ⟨yv, H11, I11, r11, a, k, xs, rfl, rfl, hn, nk, dk, lz, nx⟩
        cases r10
        cases r11
        exact nd_dictSet (X := Blk X scope s3 H3 C cl fp) (by show X.A.units + 8 < cLine; omega) I11 hn nk dk lz fun s12 I12 => fin I12 nx
  exact codeAny_compStart_dict loop (T.self X.A 0 _ _ _ st4 loop)
end
end My

set_option Elab.async false
set_option linter.all false
set_option maxRecDepth 100000
set_option maxHeartbeats 2000000
namespace My
open PySem PySem.Spec PyProof.Rows L2 PySem.SeqAt PySem.W
section
variable {X : Cx} {kx vx tg iter : Expr} {ifs : List Expr} {scope : Scope} {own : List (Str × Nat)} {pos spos py : Pos} {wi : TI} {g : TG} {tt : TT} {tk tv : TE} {i : Nat} {y : Str}
theorem sw_dict {gs : List Comprehension} {l : Nat} {env : Env} (hk : env.scope.kind = .function) (hy : env.scope.names.lookup y = some .local) (hl : (py.line == pos.line) = true) (ha : (scope.names.any fun (n, k) => n == y && (k == .local || k == .cell)) = false) :
    swapsWith (.DictComp kx vx gs scope pos) (some (.Name y py)) l env = pure true := by
  have k1 : env.kindOf y = some .local := hy
  have k2 : env.blockKind = .function := by
    unfold Env.blockKind
    rw [hk]
    rfl
  unfold swapsWith
  simp only [k2, k1, ha, Expr.pos, hl]
  rfl
/-- as a value -/
theorem pe_dcN (hu : X.A.units + 64 < cLine) (calm : X.calm = true) (nd : X.N.Nodup) (hi : PI X tg iter wi) (ok : BlkOk X.N X.env.scope scope own)
    (hg : ∀ s H C cl fp, PG (Blk X scope s H C cl fp) tg g) (ht : ∀ s H C cl fp, PTs (Blk X scope s H C cl fp) ifs tt) (hk : ∀ s H C cl fp, PE (Blk X scope s H C cl fp) kx tk) (hv : ∀ s H C cl fp, PE (Blk X scope s H C cl fp) vx tv)
    (fold : ∀ x, foldedSetIterable iter X.env x = pure x := by intro _; rfl) : PE X (.DictComp kx vx [⟨tg, iter, ifs, 0⟩] scope pos) (tDcN X.prog X.w wi g tt tk tv (own.map (·.2))) := by
  constructor
  intro pins s σ H Q I h
  rw [arm_eval_DictComp]
  refine dcN_core hu calm nd I hi ok hg ht hk hv fold h ?_
  rintro D C s' m H' I' q hn ⟨f0, f1, f2, f3, f4, f5⟩
  exact ⟨m, hn, fun h2 sb => ⟨.ref D, H', I'.turned (t' := s'.toks) (fun b o hb e => (sb.2 b hb).trans e) f0 f1 f3 f4 f5, rfl, q⟩⟩
/-- name = {..} on one line, the name a local -/
theorem ps_setDcN (hu : X.A.units + 64 < cLine) (calm : X.calm = true) (nd : X.N.Nodup) (hy : X.N[i]? = some y) (hyl : X.env.scope.names.lookup y = some .local) (hsw : swapsWith (.DictComp kx vx [⟨tg, iter, ifs, 0⟩] scope pos) (some (.Name y py)) spos.line X.env = pure true)
    (hi : PI X tg iter wi) (ok : BlkOk X.N X.env.scope scope own)
    (hg : ∀ s H C cl fp, PG (Blk X scope s H C cl fp) tg g) (ht : ∀ s H C cl fp, PTs (Blk X scope s H C cl fp) ifs tt) (hk : ∀ s H C cl fp, PE (Blk X scope s H C cl fp) kx tk) (hv : ∀ s H C cl fp, PE (Blk X scope s H C cl fp) vx tv)
    (fold : ∀ x, foldedSetIterable iter X.env x = pure x := by intro _; rfl) : PS X (.Assign [.Name y py] (.DictComp kx vx [⟨tg, iter, ifs, 0⟩] scope pos) spos) (tAsg (tDcN X.prog X.w wi g tt tk tv (own.map (·.2))) (gName i)) := by
  constructor
  intro pins s σ H D I h
  rw [exec_Assign_Name_used _ _ _ _ hsw]
  refine wpAny_bind (wpAny_standAt (wpAny_bind ?_))
  show wpAny _ X.A (do let _ ← comprehension (.DictComp kx vx [⟨tg, iter, ifs, 0⟩] scope pos) scope X.env (firstIterPos [⟨tg, iter, ifs, 0⟩] pos) newDict false (eval iter X.env) (some (assign (.Name y py) X.env))) _ _ s
  have h2 : tDcN X.prog X.w wi g tt tk tv (own.map (·.2)) σ H (fun x H1 => gName i x σ H1 D.nx) := h
  refine wpAny_bind (thn (dcN_core (Qf := fun _ s' => SP X pins D .next s') hu calm nd I hi ok hg ht hk hv fold h2 ?_) fun _ s' hq => wpAny_pure (wpAny_pure hq))
  rintro L C s' m H' I' q hn ⟨f0, f1, f2, f3, f4, f5⟩
  show wpAny _ _ (assign (.Name y py) X.env (.ref L)) _ _ _
  refine wpAny_assign_Name (store_ok2 (v := V.ref L) I' nd hy (.inl hyl) rfl ?_ (.inr hyl))
  rintro s2 I2 ⟨a, sb, ha⟩
  have ne : C ≠ a := ha.elim (fun z => by rw [z]; exact f1) fun z e => f4 y a z e.symm
  exact ⟨m, hn.sameBut sb ne, fun h3 sb3 => ⟨_, H', I2.turned (t' := s2.toks) (fun b o hb e => (sb3.2 b hb).trans e) f0 f1 f3 f4 f5, q⟩⟩
end
/-- a walk's turns -/
theorem dcN_it {P : Program} {w : World} {J : It} {n : Nat} {G : Hp → Prop} {Y : Nat → Hp → V → Hp → Prop} (wk : Walk J n G Y) {g : TG} {tt : TT} {tk tv : TE} {vs : List Nat} {σ : L2.St} {H1 : Hp} {D : Addr} {Qd : Hp → Prop} (Pv : Nat → Hp → Prop) (h0 : Pv 0 (upd H1 D (.dK []))) (hG : ∀ i H, i ≤ n → Pv i H → G H)
    (hs : ∀ i x H H', i < n → Pv i H → Y i H x H' → g x (wipe σ vs) H' fun σ2 H2 => wipe σ2 vs = wipe σ vs ∧ tt σ2 H2 fun b H3 => if b = true then tk σ2 H3 fun y H4 => tv σ2 H4 fun z H5 =>
      ∃ a k xs, y = .ref a ∧ z = .bl true ∧ NdAt P w H5 D xs ∧ Nk H5 (.ref a) k ∧ k.depth ≤ 8 ∧ xs.length < sizeLine ∧ Pv (i + 1) (upd H5 D (ND P w D (putN xs k a))) else Pv (i + 1) H3)
    (hd : ∀ H, Pv n H → Qd H) : ∃ W : Nat → Nat → Hp → Prop, (∃ m, W 0 m (upd H1 D (.dK []))) ∧ ∀ i m H', W i m H' → DcStep P w J g tt tk tv vs σ D Qd W i m H' := by
  refine ⟨fun i m H => m = n - i ∧ i ≤ n ∧ Pv i H, ⟨n, by simp, Nat.zero_le _, h0⟩, ?_⟩
  rintro i m H ⟨rfl, hi, p⟩
  have q := hG i H hi p
  by_cases lt : i < n
  · exact .inr ⟨wk.goes i H lt q, Pv (i + 1), fun H' p' => ⟨n - (i + 1), by omega, rfl, lt, p'⟩, fun x H' y => hs i x H H' lt p (wk.yields i H x H' lt q y)⟩
  · obtain rfl : i = n := by omega
    exact .inl ⟨wk.stops H q, hd H p⟩
end My

set_option Elab.async false
set_option linter.all false
set_option maxRecDepth 100000
set_option maxHeartbeats 2000000
/-! Pages as data: their places, how these stand, lists that are put in order. -/
namespace My
open PySem PySem.Spec PyProof.Rows L2 PySem.SeqAt PySem.W
def HomeW (ws : List Int) : Prop := ws.length ≤ 7 ∧ ∀ w ∈ ws, 0 ≤ w ∧ w < 7
/-- what stands behind a page's day -/
inductive Rest : Str → List NestedKey → Prop
  | house {a : Str} {ws : List Int} : Plain a → HomeW ws → Rest "house" [.text a, .tup (ws.map .num)]
  | home {a : Str} {ws : List Int} : Plain a → HomeW ws → Rest "home" [.text a, .tup (ws.map .num)]
  | part {a b : Str} {ws : List Int} : Plain a → Plain b → HomeW ws → Rest "part" [.text a, .text b, .tup (ws.map .num)]
  | mourn {a : Str} {m : Int} : Plain a → 0 ≤ m → m ≤ 60 → Rest "mourn" [.text a, .num m]
  | join {a b : Str} : Plain a → Plain b → Rest "join" [.text a, .text b]
  | ahead {a b : Str} : Plain a → Plain b → Rest "ahead" [.text a, .text b]
  | card {a b : Str} : Plain a → Plain b → Rest "card" [.text a, .text b]
  | visit {a b : Str} : Plain a → Plain b → Rest "visit" [.text a, .text b]
def PgK (k : NestedKey) : Prop := ∃ z d r, k = .tup (.text z :: .num d :: r) ∧ Rest z r ∧ 0 ≤ d ∧ d < 20000
def ixK (z : Str) : Nat := kinds.idxOf z
def place : NestedKey → NestedKey
  | .tup (.text z :: .num d :: r) => .tup [.num d, .num (ixK z), .tup (.text z :: .num d :: r)]
  | k => k
theorem place_eq (z : Str) (d : Int) (r : List NestedKey) : place (.tup (.text z :: .num d :: r)) = .tup [.num d, .num (ixK z), .tup (.text z :: .num d :: r)] := rfl
theorem lt_nums : ∀ ws vs : List Int, ∃ c, ltAll (ws.map .num) (vs.map .num) = some c
  | [], [] => ⟨_, by rw [List.map_nil, ltAll]⟩
  | [], _ :: _ => ⟨true, by rw [List.map_nil, List.map_cons, ltAll]⟩
  | _ :: _, [] => ⟨false, by rw [List.map_nil, List.map_cons, ltAll]⟩
  | a :: ws, b :: vs => by
    rw [List.map_cons, List.map_cons, ltAll]
    split
    · exact lt_nums ws vs
    · exact ⟨_, by rw [ltK]⟩
theorem lt_step {x y : NestedKey} {xs ys : List NestedKey} (h1 : ∃ c, ltK x y = some c) (h2 : ∃ c, ltAll xs ys = some c) : ∃ c, ltAll (x :: xs) (y :: ys) = some c := by
  rw [ltAll]
  split
  · exact h2
  · exact h1
theorem lt_text (a b : Str) : ∃ c, ltK (.text a) (.text b) = some c := ⟨_, by rw [ltK]⟩
theorem lt_num (a b : Int) : ∃ c, ltK (.num a) (.num b) = some c := ⟨_, by rw [ltK]⟩
theorem lt_nil : ∃ c, ltAll [] [] = some c := ⟨_, by rw [ltAll]⟩
theorem lt_home (ws vs : List Int) : ∃ c, ltK (.tup (ws.map .num)) (.tup (vs.map .num)) = some c := by
  rw [ltK]
  exact lt_nums ws vs
theorem rest_lt {z : Str} {r r' : List NestedKey} (h : Rest z r) (h' : Rest z r') : ∃ c, ltAll r r' = some c := by
  have ne : ∀ {a b : String}, (Str.ofString a == Str.ofString b) = false → Str.ofString a = Str.ofString b → False := fun {a b} e z => by rw [z] at e; simp at e
  generalize hz : z = z' at h'
  cases h <;> cases h' <;> first
    | exact lt_step (lt_text _ _) (lt_step (lt_home _ _) lt_nil)
    | exact lt_step (lt_text _ _) (lt_step (lt_text _ _) (lt_step (lt_home _ _) lt_nil))
    | exact lt_step (lt_text _ _) (lt_step (lt_num _ _) lt_nil)
    | exact lt_step (lt_text _ _) (lt_step (lt_text _ _) lt_nil)
    | exact (ne (by decide +kernel) hz).elim
theorem ixK_inj {z z' : Str} {r r' : List NestedKey} (h : Rest z r) (h' : Rest z' r') (e : ixK z = ixK z') : z = z' := by
  cases h <;> cases h' <;> first | rfl | exact absurd e (by decide +kernel)
/-- each two pages' places can be compared -/
theorem place_lt {k k' : NestedKey} (h : PgK k) (h' : PgK k') : ∃ c, ltK (place k) (place k') = some c := by
  obtain ⟨z, d, r, rfl, hr, _⟩ := h
  obtain ⟨z', d', r', rfl, hr', _⟩ := h'
  rw [place_eq, place_eq, ltK]
  by_cases e : ixK z = ixK z'
  · have ez := ixK_inj hr hr' e
    subst ez
    exact lt_step (lt_num _ _) (lt_step (lt_num _ _) (lt_step (by rw [ltK]; exact lt_step (lt_text _ _) (lt_step (lt_num _ _) (rest_lt hr hr'))) lt_nil))
  · rw [ltAll]
    split
    · rw [ltAll, if_neg (fun q => e (by injection q with q; exact Int.ofNat.inj q))]
      exact lt_num _ _
    · exact lt_num _ _
theorem place_depth {k : NestedKey} (h : PgK k) : (place k).depth ≤ 50 ∧ k.depth ≤ 8 := by
  obtain ⟨z, d, r, rfl, hr, _⟩ := h
  have hn : ∀ ws : List Int, NestedKey.depthAll (ws.map .num) = 0 := fun ws => by
    induction ws with
    | nil => rw [List.map_nil, NestedKey.depthAll]
    | cons a l ih => rw [List.map_cons, NestedKey.depthAll, ih, NestedKey.depth]; rfl
  have hd : NestedKey.depthAll r ≤ 2 := by
    cases hr <;> simp only [NestedKey.depthAll, NestedKey.depth, hn] <;> decide
  rw [place_eq]
  simp only [NestedKey.depthAll, NestedKey.depth]
  omega
theorem place_head {k : NestedKey} (h : PgK k) : ∃ i r, place k = .tup (.num i :: r) := by
  obtain ⟨z, d, r, rfl, _⟩ := h
  exact ⟨_, _, rfl⟩
theorem place_inj {k k' : NestedKey} (h : PgK k) (h' : PgK k') (e : place k = place k') : k = k' := by
  obtain ⟨z, d, r, rfl, _⟩ := h
  obtain ⟨z', d', r', rfl, _⟩ := h'
  rw [place_eq, place_eq] at e
  injection e with e
  simp only [List.cons.injEq] at e
  exact e.2.2.1
end My

set_option Elab.async false
set_option linter.all false
set_option maxRecDepth 100000
set_option maxHeartbeats 2000000
namespace My
open PySem PySem.Spec PyProof.Rows L2 PySem.SeqAt PySem.W
theorem text_total {x y : Str} (h1 : ¬ x.cps.toList < y.cps.toList) (h2 : ¬ y.cps.toList < x.cps.toList) : x = y :=
  str_of_cps (strKind.total _ _ (decide_eq_false h1) (decide_eq_false h2))
theorem text_asym {x y : Str} (h1 : x.cps.toList < y.cps.toList) (h2 : y.cps.toList < x.cps.toList) : False := by
  have := strKind.trans _ _ _ (decide_eq_true h1) (decide_eq_true h2)
  rw [strKind.irrefl] at this
  cases this
mutual
theorem flipK : ∀ (x y : NestedKey) (c : Bool), x ≠ y → ltK x y = some c → ltK y x = some (!c)
  | .num i, .num j, c, ne, e => by
    rw [ltK] at e ⊢
    cases e
    have : i ≠ j := fun z => ne (by rw [z])
    by_cases h : i < j
    · rw [decide_eq_true h, decide_eq_false (by omega)]; rfl
    · rw [decide_eq_false h, decide_eq_true (by omega)]; rfl
  | .text x, .text y, c, ne, e => by
    rw [ltK] at e ⊢
    cases e
    by_cases h : x.cps.toList < y.cps.toList
    · rw [decide_eq_true h, decide_eq_false (fun h2 => text_asym h h2)]; rfl
    · rw [decide_eq_false h, decide_eq_true (Classical.byContradiction fun h2 => ne (by rw [text_total h h2]))]; rfl
  | .tup xs, .tup ys, c, ne, e => by
    rw [ltK] at e ⊢
    exact flipAll xs ys c (fun z => ne (by rw [z])) e
  | .none, y, c, ne, e => by cases y <;> simp [ltK] at e
  | .num i, .none, c, ne, e => by simp [ltK] at e
  | .num i, .text _, c, ne, e => by simp [ltK] at e
  | .num i, .tup _, c, ne, e => by simp [ltK] at e
  | .text i, .none, c, ne, e => by simp [ltK] at e
  | .text i, .num _, c, ne, e => by simp [ltK] at e
  | .text i, .tup _, c, ne, e => by simp [ltK] at e
  | .tup i, .none, c, ne, e => by simp [ltK] at e
  | .tup i, .num _, c, ne, e => by simp [ltK] at e
  | .tup i, .text _, c, ne, e => by simp [ltK] at e
theorem flipAll : ∀ (xs ys : List NestedKey) (c : Bool), xs ≠ ys → ltAll xs ys = some c → ltAll ys xs = some (!c)
  | [], [], c, ne, e => absurd rfl ne
  | [], y :: ys, c, ne, e => by
    rw [ltAll] at e
    cases e
    rw [ltAll]
    rfl
  | x :: xs, [], c, ne, e => by
    rw [ltAll] at e
    cases e
    rw [ltAll]
    rfl
  | x :: xs, y :: ys, c, ne, e => by
    rw [ltAll] at e ⊢
    by_cases h : x = y
    · subst h
      rw [if_pos rfl] at e ⊢
      exact flipAll xs ys c (fun z => ne (by rw [z])) e
    · rw [if_neg h] at e
      rw [if_neg (fun z => h z.symm)]
      exact flipK x y c h e
end
/-- the first page stands ahead of the other one -/
def ahead (k k' : NestedKey) : Bool := lexT (toks (place k)) (toks (place k'))
theorem ahead_lt {k k' : NestedKey} (h : PgK k) (h' : PgK k') : ltK (place k) (place k') = some (ahead k k') := by
  obtain ⟨c, e⟩ := place_lt h h'
  obtain ⟨i, r, e1⟩ := place_head h
  obtain ⟨i', r', e2⟩ := place_head h'
  have e3 := e
  rw [e1, e2, ltK] at e3
  have := lex_tup e3
  rw [← e1, ← e2] at this
  rw [e]
  exact congrArg some this.symm
theorem ahead_self (k : NestedKey) : ahead k k = false := lex_irrefl _
theorem ahead_trans {a b c : NestedKey} (h1 : ahead a b = true) (h2 : ahead b c = true) : ahead a c = true := lex_trans _ _ _ h1 h2
theorem ahead_flip {k k' : NestedKey} (h : PgK k) (h' : PgK k') (ne : k ≠ k') : ahead k' k = !ahead k k' := by
  have h1 := ahead_lt h h'
  have h2 := ahead_lt h' h
  rw [flipK _ _ _ (fun z => ne (place_inj h h' z)) h1] at h2
  exact (Option.some.inj h2).symm
/-- strictly rising by places -/
abbrev Ord (l : List NestedKey) : Prop := l.Pairwise fun a b => ahead a b = true
theorem ord_unique : ∀ {l m : List NestedKey}, Ord l → Ord m → (∀ k, k ∈ l ↔ k ∈ m) → l = m
  | [], [], _, _, _ => rfl
  | [], b :: _, _, _, h => absurd ((h b).mpr (.head _)) (by simp)
  | a :: _, [], _, _, h => absurd ((h a).mp (.head _)) (by simp)
  | a :: l, b :: m, hl, hm, h => by
    have ea : a = b := by
      rcases List.mem_cons.mp ((h a).mp (.head _)) with e | e
      · exact e
      · rcases List.mem_cons.mp ((h b).mpr (.head _)) with e2 | e2
        · exact e2.symm
        · have h1 := (List.pairwise_cons.mp hm).1 a e
          have h2 := (List.pairwise_cons.mp hl).1 b e2
          have := ahead_trans h1 h2
          rw [ahead_self] at this
          cases this
    subst ea
    have na : ∀ {n : List NestedKey}, Ord (a :: n) → a ∉ n := fun hn z => by
      have := (List.pairwise_cons.mp hn).1 a z
      rw [ahead_self] at this
      cases this
    rw [ord_unique (List.pairwise_cons.mp hl).2 (List.pairwise_cons.mp hm).2 fun k => ⟨fun hk => ?_, fun hk => ?_⟩]
    · rcases List.mem_cons.mp ((h k).mp (.tail _ hk)) with e | e
      · subst e; exact absurd hk (na hl)
      · exact e
    · rcases List.mem_cons.mp ((h k).mpr (.tail _ hk)) with e | e
      · subst e; exact absurd hk (na hm)
      · exact e
end My

set_option Elab.async false
set_option linter.all false
set_option maxRecDepth 100000
set_option maxHeartbeats 2000000
namespace My
open PySem PySem.Spec PyProof.Rows L2 PySem.SeqAt PySem.W
theorem zip_two (xs : List (NestedKey × Addr)) : (xs.map fun p => V.ref p.2).zip (xs.map (·.1)) = xs.map fun p => (V.ref p.2, p.1) := by
  induction xs with
  | nil => rfl
  | cons p xs ih => rw [List.map_cons, List.map_cons, List.map_cons, List.zip_cons_cons, ih]
theorem nk_pairs {H : Hp} : ∀ {l : List (V × NestedKey)}, (∀ b ∈ l, Nk H b.1 b.2) → NkAll H (l.map Prod.fst) (l.map Prod.snd)
  | [], _ => .nil
  | b :: l, h => .cons (h b (.head _)) (nk_pairs fun c hc => h c (.tail _ hc))
/-- the keys of such a dict, sorted by places -/
theorem sortD_ok {H : Hp} {F : NestedKey → NestedKey} {xs : List (NestedKey × Addr)} (hF : ∀ p ∈ xs, ∀ q ∈ xs, lexT (toks (F p.1)) (toks (F q.1)) = ahead p.1 q.1) (hk : ∀ p ∈ xs, Nk H (.ref p.2) p.1) (hp : ∀ p ∈ xs, PgK p.1) (nd : (xs.map (·.1)).Nodup) :
    ∃ ks, NkAll H (sortD F xs) ks ∧ Ord ks ∧ ∀ k, k ∈ ks ↔ k ∈ xs.map (·.1) := by
  have pm := List.mergeSort_perm ((xs.map fun p => V.ref p.2).zip (xs.map (·.1))) (leF F)
  have pw := sort_pairwise (sortLe_total (listOrd itemOrd) false fun b : V × NestedKey => toks (F b.2)) ((xs.map fun p => V.ref p.2).zip (xs.map (·.1)))
  unfold sortD
  change List.Pairwise (fun a b => leF F a b = true) (((xs.map fun p => V.ref p.2).zip (xs.map (·.1))).mergeSort (leF F)) at pw
  generalize ((xs.map fun p => V.ref p.2).zip (xs.map (·.1))).mergeSort (leF F) = l at pm pw ⊢
  rw [zip_two] at pm
  have mem : ∀ b ∈ l, ∃ p ∈ xs, b = (V.ref p.2, p.1) := fun b hb => by
    obtain ⟨p, hp, e⟩ := List.mem_map.mp (pm.mem_iff.mp hb)
    exact ⟨p, hp, e.symm⟩
  have pk : (l.map Prod.snd).Perm (xs.map (·.1)) := by
    have := pm.map Prod.snd
    rwa [List.map_map] at this
  refine ⟨l.map Prod.snd, nk_pairs fun b hb => ?_, ?_, fun k => pk.mem_iff⟩
  · obtain ⟨p, hp, rfl⟩ := mem b hb
    exact hk p hp
  · have nl : (l.map Prod.snd).Nodup := pk.nodup_iff.mpr nd
    have nl2 : l.Pairwise fun a b => a.2 ≠ b.2 := List.pairwise_map.mp nl
    refine List.pairwise_map.mpr ((pw.and nl2).imp_of_mem fun {a b} ha hb h => ?_)
    obtain ⟨p, hp1, rfl⟩ := mem a ha
    obtain ⟨q, hq1, rfl⟩ := mem b hb
    have h1 : (!lexT (toks (F q.1)) (toks (F p.1))) = true := h.1
    rw [hF q hq1 p hp1] at h1
    have := ahead_flip (hp p hp1) (hp q hq1) h.2
    rw [this] at h1
    simpa using h1
theorem putN_keys (xs : List (NestedKey × Addr)) (k : NestedKey) (a : Addr) : (∀ x, x ∈ (putN xs k a).map (·.1) ↔ x = k ∨ x ∈ xs.map (·.1)) ∧ ((xs.map (·.1)).Nodup → ((putN xs k a).map (·.1)).Nodup) ∧ (putN xs k a).length ≤ xs.length + 1 := by
  unfold putN
  split
  · rename_i h
    exact ⟨fun x => ⟨.inr, fun e => e.elim (fun z => by rw [z]; exact h) id⟩, id, Nat.le_succ _⟩
  · rename_i h
    refine ⟨fun x => ?_, fun nd => ?_, by rw [List.length_append]; exact Nat.le_refl _⟩
    · rw [List.map_append, List.mem_append]
      constructor
      · rintro (e | e)
        · exact .inr e
        · exact .inl (by simpa using e)
      · rintro (e | e)
        · exact .inr (by simpa using e)
        · exact .inl e
    · rw [List.map_append, List.nodup_append]
      refine ⟨nd, by simp, fun x hx y hy => ?_⟩
      obtain rfl : y = k := by simpa using hy
      exact fun z => h (by rw [← z]; exact hx)
theorem putN_mem {xs : List (NestedKey × Addr)} {k : NestedKey} {a : Addr} {p : NestedKey × Addr} (h : p ∈ putN xs k a) : p ∈ xs ∨ p = (k, a) := by
  unfold putN at h
  split at h
  · exact .inl h
  · rcases List.mem_append.mp h with h | h
    · exact .inl h
    · exact .inr (List.mem_singleton.mp h)
end My

set_option Elab.async false
set_option linter.all false
set_option maxRecDepth 100000
set_option maxHeartbeats 2000000
/-! The end of a law whose promise wants that no repr is under way, with tables of codes. -/
namespace GU
open PySem PySem.Spec PyProof.Rows L2
/-- what is tracked at the head: the script's list (where it is not the text's own) and the tables -/
def headH (own : Bool) (a : Addr) (T : List Addr) (o : Obj) (xs : List V) : Hp := fun b =>
  if b ∈ T then some (.tbl #[]) else if b = a ∧ own = false then some (.frz o (.lst xs)) else none
section
variable {own : Bool} {a b : Addr} {T : List Addr} {o : Obj} {xs : List V}
theorem head_tbl (h : b ∈ T) : headH own a T o xs b = some (.tbl #[]) := if_pos h
theorem head_scr (h : a ∉ T) (e : own = false) : headH own a T o xs a = some (.frz o (.lst xs)) := (if_neg h).trans (if_pos ⟨rfl, e⟩)
theorem head_cases (b : Addr) : (b ∈ T ∧ headH own a T o xs b = some (.tbl #[])) ∨ (b ∉ T ∧ b = a ∧ own = false ∧ headH own a T o xs b = some (.frz o (.lst xs))) ∨ (b ∉ T ∧ ¬ (b = a ∧ own = false) ∧ headH own a T o xs b = none) := by
  by_cases h : b ∈ T
  · exact .inl ⟨h, if_pos h⟩
  · by_cases k : b = a ∧ own = false
    · exact .inr (.inl ⟨h, k.1, k.2, (if_neg h).trans (if_pos k)⟩)
    · exact .inr (.inr ⟨h, k, (if_neg h).trans (if_neg k)⟩)
end
theorem law_callG {P : Program} {w : World} {K : PySem.W.Frag} {mg mb : Str → Option Value} {CX : CXT} {k : Nat} {fa a : Addr} {cs : List (Addr × Addr)} {fd : FuncData} {x : Str} {sp : Sp} {s : Shared} {vs : List Value} {ns : List Int}
    (inK : K.In s.heap) (glob : s.heap.Ns mainGlobals mg) (bltn : s.heap.Ns builtinsNs mb) (boot : ∀ x : Str, x ≠ "__name__" → mb x = bootBuiltins x) (lim : s.heap.NoLimit) (gens : s.gens = #[])
    (tabs : ∀ p ∈ cs, s.heap.get? p.2 = some { cls := .none, data := .fields #[] }) (far : ∀ p ∈ cs, K.lookup p.2 = none) (heads : ∀ p ∈ cs, PySem.W.CodeHd s.heap p.1 p.2)
    (bmod : ∃ (bm : Addr) (ob : Obj), mg "__builtins__" = some (.ref bm) ∧ bm ≠ builtinsNs ∧ s.heap.get? bm = some ob ∧ ob.cls = .type "module" ∧ ob.dict = some builtinsNs ∧ ob.data = .plain)
    (scr : s.heap.get? a = some { cls := .type "list", data := .seq vs.toArray }) (nums : IntsAre vs ns) (few : ns.length ≤ sizeLine) (room : Room k callerA)
    (F : ∀ base : Heap, K.In base → base.Ns mainGlobals mg → (∀ p ∈ cs, LamX.TabB base mg p.1 p.2) → FnG P w K mg base CX k fa fd [x] sp) (binds : ∀ (s : Shared) (u : Value), BindsTo s fd ⟨[u], []⟩ [(x, u)])
    (want : ∀ H : Hp, (∀ p ∈ cs, H p.2 = some (.tbl #[])) → SqL K H a (ns.map V.int) → sp [.ref a] H (fun v _ => v = .bl true) fun _ _ _ => False)
    (calm : ∀ H e s', CX [] H s (fun _ _ _ => False) e s' → False) :
    codeAny (model P w) callerA (.call (.ref fa) ⟨[.ref a], []⟩) (fun r s' => r = .ok (.ret (.bool true)) ∧ OldK s.heap s'.heap ∧ s'.os = s.os ∧ AllBare s'.gens) s := by
  let T := cs.map (·.2)
  let oA : Obj := { cls := .type "list", data := .seq vs.toArray }
  have tabT : ∀ b ∈ T, s.heap.get? b = some { cls := .none, data := .fields #[] } := by
    intro b hb
    obtain ⟨p, hp, rfl⟩ := List.mem_map.mp hb
    exact tabs p hp
  have farT : ∀ b ∈ T, K.lookup b = none := by
    intro b hb
    obtain ⟨p, hp, rfl⟩ := List.mem_map.mp hb
    exact far p hp
  have inT : ∀ p ∈ cs, p.2 ∈ T := fun p hp => List.mem_map.mpr ⟨p, hp, rfl⟩
  have apart : a ∉ T := fun z => by
    have q := (tabT a z).symm.trans scr
    cases congrArg Obj.data (Option.some.inj q)
  obtain ⟨own, hown⟩ : ∃ own : Bool, own = (K.lookup a).isSome := ⟨_, rfl⟩
  generalize hH : headH own a T oA (ns.map V.int) = H
  have cases3 := fun b => hH ▸ head_cases (own := own) (a := a) (T := T) (o := oA) (xs := ns.map V.int) b
  have vals := vals_ints nums
  have read : SqL K H a (ns.map V.int) := by
    cases e : K.lookup a with
    | none =>
      rw [e] at hown
      exact .inl (.inr ⟨oA, hH ▸ head_scr apart hown⟩)
    | some o =>
      obtain rfl : o = oA := Option.some.inj ((inK a o e).symm.trans scr)
      exact .inr ⟨oA, vs.toArray, _, e, rfl, rfl, rfl, by rw [List.size_toArray, nums.length]; exact few, by simpa using vals⟩
  have hok : HOk P w H s.heap := by
    intro b u e
    rcases cases3 b with ⟨hb, z⟩ | ⟨_, rfl, _, z⟩ | ⟨_, _, z⟩
    · cases z.symm.trans e
      exact tabT b hb
    · cases z.symm.trans e
      exact ⟨scr, by rw [List.length_map]; exact few, vs, _, vals, scr⟩
    · cases z.symm.trans e
  have clear : ∀ {b : Addr} {o : Obj}, s.heap.get? b = some o → (∀ vs n, o.data ≠ .seq vs n) → o.data ≠ .fields #[] → H b = none := by
    intro b o e h1 h2
    rcases cases3 b with ⟨hb, _⟩ | ⟨_, rfl, _, _⟩ | ⟨_, _, z⟩
    · cases (tabT b hb).symm.trans e
      exact (h2 rfl).elim
    · cases scr.symm.trans e
      exact (h1 _ _ rfl).elim
    · exact z
  have names : ∀ {b : Addr} {m : Str → Option Value}, s.heap.Ns b m → (hidT s.heap H).Ns b m := by
    rintro b m ⟨o, es, ep, e, d, r⟩
    exact ⟨o, es, ep, hidT_get e (clear e (fun vs n z => by rw [d] at z; cases z) fun z => by rw [d] at z; cases z), d, r⟩
  have inB : K.In (hidT s.heap H) := by
    intro b o e
    refine hidT_get (inK b o e) ?_
    rcases cases3 b with ⟨hb, _⟩ | ⟨_, rfl, ho, _⟩ | ⟨_, _, z⟩
    · cases (farT b hb).symm.trans e
    · rw [hown, e] at ho
      cases ho
    · exact z
  have md : L2.Mod K mg (hidT s.heap H) := ⟨inB, names glob, ⟨mb, names bltn, boot⟩, lim.imp fun mc h => ⟨names h.1, h.2⟩⟩
  have tb : ∀ p ∈ cs, LamX.TabB (hidT s.heap H) mg p.1 p.2 := by
    intro p hp
    obtain ⟨og, eg, pg, ag, dg, rg⟩ := id glob
    refine ⟨?_, ?_, fun z => ?_⟩
    · obtain ⟨o, us, file, tf, flags, tg, inF, text, tt, e1, r1, r2, r3, rest⟩ := heads p hp
      refine ⟨o, us, file, tf, flags, tg, inF, text, tt, hidT_get e1 (clear e1 (fun vs n z => ?_) fun z => ?_), r1, r2, r3, rest⟩
      · cases r2.symm.trans z
      · cases r2.symm.trans z
        simp at r3
    · obtain ⟨bm, ob, b1, b2, b3, b4, b5, b6⟩ := bmod
      refine ⟨bm, ob, b1, b2, fun q => ?_, fun q => ?_, hidT_get b3 (clear b3 (fun vs n z => ?_) fun z => ?_), b4, b5, b6⟩
      · rw [q] at b3
        cases ag.symm.trans b3
        cases dg.symm.trans b6
      · rw [q] at b3
        cases (tabs p hp).symm.trans b3
        cases b6
      · cases b6.symm.trans z
      · cases b6.symm.trans z
    · rw [z] at ag
      cases (tabs p hp).symm.trans ag
      cases dg
  have env : Env0 P w K mg (hidT s.heap H) callerA [] s H :=
    { frames := rfl, mod := md, bs := fun b o e => of_hidT e, bsz := Nat.le_of_eq (hidT_size _ _), funs := trivial, frf := fun b hb => absurd (show b ∈ ([] : List Addr) from hb) (by simp), hok := hok, bare := .of_eq gens }
  have hT : ∀ p ∈ cs, H p.2 = some (.tbl #[]) := fun p hp => hH ▸ head_tbl (inT p hp)
  refine codeAny_mono ((F _ inB (names glob) tb).go callerA rfl [] s H ⟨[.ref a], []⟩ [.ref a] [.ref a] _ _ room env (binds s (.ref a)) (.cons rfl .nil) (want H hT read)) ?_
  intro r s' h
  match r, h with
  | .error e, h => exact (calm H e s' h).elim
  | .ok (.ret u), h =>
    obtain ⟨v, H', os, bare, un, hok', rel, q⟩ := h
    obtain rfl : v = .bl true := q
    obtain rfl : u = Value.bool true := rel
    have same : ∀ b o, b ∉ T → s.heap.get? b = some o → s'.heap.get? b = some o := by
      intro b o nb e
      rcases cases3 b with ⟨hb, _⟩ | ⟨_, rfl, _, z⟩ | ⟨_, _, z⟩
      · exact absurd hb nb
      · have e2 := (hok' b _ (un.frzs b _ _ z)).1
        cases scr.symm.trans e
        exact e2
      · exact un.keep b o e z (fun z => absurd (show b ∈ ([] : List Addr) from z) (by simp)) (by simp)
    have more : ∀ p ∈ cs, ∃ ps : Array Value, s'.heap.get? p.2 = some { cls := .none, data := .fields ps } := by
      intro p hp
      obtain ⟨ps, z⟩ := un.tbls p.2 #[] (hT p hp)
      exact ⟨_, hok' p.2 _ z⟩
    refine ⟨rfl, ⟨fun b o e => ?_, fun b o e => ?_⟩, os, bare⟩
    all_goals
      by_cases hb : b ∈ T
      case neg => first | exact .inl (same b o hb e) | exact ⟨o, same b o hb e⟩
      obtain ⟨p, hp, rfl⟩ := List.mem_map.mp hb
      obtain ⟨ps, hm⟩ := more p hp
    · cases (tabs p hp).symm.trans e
      exact .inr (.inl ⟨((heads p hp).tab (tabs p hp)).isCodeTable, rfl, #[], ps, rfl, by rw [Array.empty_append]; exact hm⟩)
    · exact ⟨_, hm⟩
/-- what is known of the law's promise at the head's heap -/
def LawAtG (l : PySem.W.OpenLaw) (w : World) (K : PySem.W.Frag) (CX : CXT) (k n : Nat) (x : Str) (mg : Str → Option Value) (fa : Addr) (h : Heap) : Prop :=
  ∃ (fd : FuncData) (cs : List (Addr × Addr)) (sp : Sp), (∀ p ∈ cs, h.get? p.2 = some { cls := .none, data := .fields #[] }) ∧ (∀ p ∈ cs, K.lookup p.2 = none) ∧ (∀ p ∈ cs, PySem.W.CodeHd h p.1 p.2) ∧ (∀ (s : Shared) (u : Value), BindsTo s fd ⟨[u], []⟩ [(x, u)]) ∧
    (∀ (H : Hp) (a : Addr) (ns : List Int), ns.length ≤ n → (∀ p ∈ cs, H p.2 = some (.tbl #[])) → SqL K H a (ns.map V.int) → sp [.ref a] H (fun v _ => v = .bl true) fun _ _ _ => False) ∧
    ∀ base : Heap, K.In base → base.Ns mainGlobals mg → (∀ p ∈ cs, LamX.TabB base mg p.1 p.2) → FnG l.prog w K mg base CX k fa fd [x] sp
theorem walk_G {l : PySem.W.OpenLaw} {n k : Nat} {q : Program} {loose : List Str} {XP : (Str → Option Value) → Heap → Prop} {YP : World → Heap → Prop} {d : DefRec} {K : Params → PySem.W.Frag} {CX : World → CXT} {x : Str}
    (hn : l.most = some n) (hn2 : n ≤ sizeLine) (hdf : d.params.defaults = []) (hr : Room k callerA) (hY : ∀ (w : World) (h : Heap), YP w h → (K w.params).In h)
    (F : ∀ (w : World) (mg : Str → Option Value) (fa : Addr) (h : Heap), (K w.params).In h → h.Ns mainGlobals mg → mg d.name = some (.ref fa) → GE.TabsIn q (K w.params) h → LawAtG l w (K w.params) (CX w) k n x mg fa h)
    (hCX : ∀ (w : World) (H : Hp) (s : Shared) (e : Value) (s' : Shared), CX w [] H s (fun _ _ _ => False) e s' → False) :
    PySem.W.WalkO q loose XP YP l.row.toRowW d [] (fun f vs => PySem.call f vs) := by
  refine Att.attach_callB hn hdf fun w s0 s1 mg mb fa o pm cd doc a vs ns G Y ho hd hcd hmg hobj hints hlen hbits hg => ?_
  have KX := hY w _ Y
  obtain ⟨fd, cs, sp, hT, nT, C, hb, hsp, hF⟩ := F w mg fa _ KX G.T.g hmg fun x d c P h1 h2 => PySem.W.tab_of G.T KX h1 h2
  exact law_callG KX G.T.g G.T.b G.T.builtins G.T.nolimit hg hT nT C G.T.bmain hobj hints (Nat.le_trans hlen hn2) hr hF hb (fun H hH hS => hsp H a ns hlen hH hS) fun H e s' => hCX w H s1 e s'
end GU

set_option Elab.async false
set_option linter.all false
set_option maxRecDepth 100000
set_option maxHeartbeats 2000000
/-! tuple(elt for tg in iter if ..), whatever the element calls -/
namespace GE
open PySem PySem.Spec PyProof.Rows L2 GenW
section
variable {X : Cx} {pins : List (Addr × Obj)} {σ : L2.St} {H : Hp} {s : Shared}
/-- an around from which the def's generator may be woken -/
structure Near (X : Cx) (A : Around) : Prop where
  hd : A.handled = none
  fr : A.frames = X.A.frames
  dp : A.depth = X.A.depth
  un : A.units ≤ X.A.units + 8
/-- a generator that stands ready, its parts told -/
structure Parts (X : Cx) (pins : List (Addr × Obj)) (σ : L2.St) (scope : Scope) (elt tg iter : Expr) (ifs : List Expr) (gpos : Pos) (vs : List Nat) (g : TG) (tt : TT) (te : TE) (R : It → Hp → Prop) (a : Addr) (s5 : Shared) (it : Addr) (fp : List Addr) (tn : Nat → Heap → Prop) (J : It) (cenv : Env) (s4 : Shared) (H3 : Hp) (go : Obj) (gi : Nat) : Prop where
  gen : ∀ h : Heap, h.get? a = some go → h.IsGen a gi
  isg : s5.heap.IsGen a gi
  lim : s5.heap.NoLimit
  gs : s5.gens[gi]? = some (.fresh (.compStart (.GeneratorExp elt [⟨tg, iter, ifs, 0⟩] scope gpos) 0 (.ref it) .none cenv))
  T : Turn X.prog X.w X.K tg J fp it tn
  t0 : tn 0 s5.heap
  f0 : ∀ b ∈ fp, H3 b = none
  out : ∀ b ∈ fp, b < s4.heap.objs.size
  az : s4.heap.objs.size < a
  al : a < s5.heap.objs.size
  old : s4.heap.objs.size ≤ s5.heap.objs.size
  hco : cenv.scope.isCoroutine = false
  loc : cenv.locals = s4.heap.objs.size
  cel : ∀ x c, cenv.cells.lookup x = some c → c < s4.heap.objs.size
  stk : ∀ b ∈ frs X.stack, b < s4.heap.objs.size
  inv : ∀ (A : Around), Near X A → Inv (gctx X (A.deeper cenv) s4 H3 scope cenv fp) [(a, go)] (wipe σ vs) H3 s5
  pg : ∀ (A : Around), Near X A → PG (gctx X (A.deeper cenv) s4 H3 scope cenv fp) tg g
  pt : ∀ (A : Around), Near X A → PTs (gctx X (A.deeper cenv) s4 H3 scope cenv fp) ifs tt
  pe : ∀ (A : Around), Near X A → PE (gctx X (A.deeper cenv) s4 H3 scope cenv fp) elt te
  back : ∀ (A : Around) pn σ' H' s', Inv (gctx X (A.deeper cenv) s4 H3 scope cenv fp) pn σ' H' s' → Inv X pins σ H' s'
  fresh : s4.heap.objs.size ≤ s5.heap.objs.size
  read : R J H3
def MadeP (X : Cx) (pins : List (Addr × Obj)) (σ : L2.St) (scope : Scope) (elt tg iter : Expr) (ifs : List Expr) (gpos : Pos) (vs : List Nat) (g : TG) (tt : TT) (te : TE) (R : It → Hp → Prop) (u : Value) (s5 : Shared) : Prop :=
  ∃ (a it : Addr) (fp : List Addr) (tn : Nat → Heap → Prop) (J : It) (cenv : Env) (s4 : Shared) (H3 : Hp) (go : Obj) (gi : Nat), u = .ref a ∧ Parts X pins σ scope elt tg iter ifs gpos vs g tt te R a s5 it fp tn J cenv s4 H3 go gi
theorem gen_parts {c P : Addr} {elt tg iter : Expr} {ifs : List Expr} {gpos : Pos} {scope : Scope} {own : List (Str × Nat)} {wi : TI} {g : TG} {tt : TT} {te : TE} {k : Nat} {R : It → Hp → Prop}
    (hc : X.calm = true) (hN : X.N.Nodup) (hr : Room (k + 1) X.A) (TB : GxR.TabB X.base X.mg c P) (hcode : X.env.code = .ref c) (S : GSc X.N X.env.scope scope own) (hi : PI X tg iter wi)
    (hg : ∀ (A : Around) (s : Shared) (H : Hp) (C : Addr) (code : Value) (fp : List Addr), Room k A → PG (gctx X A s H scope (genEnv scope (cloFrom X.env.cells scope.names []) C code builtinsNs X.env) fp) tg g)
    (ht : ∀ (A : Around) (s : Shared) (H : Hp) (C : Addr) (code : Value) (fp : List Addr), Room k A → PTs (gctx X A s H scope (genEnv scope (cloFrom X.env.cells scope.names []) C code builtinsNs X.env) fp) ifs tt)
    (he : ∀ (A : Around) (s : Shared) (H : Hp) (C : Addr) (code : Value) (fp : List Addr), Room k A → PE (gctx X A s H scope (genEnv scope (cloFrom X.env.cells scope.names []) C code builtinsNs X.env) fp) elt te)
    (hs : ∀ v, genFold iter X.env v = pure v) (I : Inv X pins σ H s) (h : wi σ H fun J H1 => GxR.TabG H1 P ∧ ∀ H2, GxR.Tabbed P H1 H2 → R J H2) :
    wpAny (model X.prog X.w) X.A (eval (.GeneratorExp elt [⟨tg, iter, ifs, 0⟩] scope gpos) X.env) (MadeP X pins σ scope elt tg iter ifs gpos (own.map (·.2)) g tt te R) X.xe s := by
  have hfree : ∀ y ∈ scope.names, y.2 = .free → ∃ c, X.env.cells.lookup y.1 = some c := fun y hy e => by
    rcases S.blk.free y hy e with z | z
    · exact I.ok.has _ (.inl z)
    · exact I.ok.has _ (.inr z)
  refine wpAny_GeneratorExp_make S.co (closure_ok hfree) S.cell S.dot S.blk.kind (by have := hr.dp; omega) ?_ hs
  refine thn (hi.run pins s σ H _ I h) fun xv s1 hx => thn hx fun itv s2 h2 => ?_
  obtain ⟨it, fp, tn, J, H1, rfl, I2, T, t2, f2, ⟨ps, hP, htr⟩, q⟩ := h2
  have oP : s2.heap.get? P = some { cls := .none, data := .fields ps } := I2.hok P _ hP
  have cd : PySem.W.CodeHd s2.heap c P := TB.code.keeps I2.bk
  refine ⟨I2.nolimit, ?_⟩
  have nP : ∀ b ∈ fp, b ≠ P := fun b hb z => by
    have q := (f2 b hb).1
    rw [z, hP] at q
    cases q
  have rest : ∀ (code : Value) (h3 : Heap) (tk : Nat) (ps' : Array Value), Heap.ExtBut P s2.heap h3 → h3.get? P = some { cls := .none, data := .fields ps' } → (∃ more, ps' = ps ++ more) → TriplesOk ps'.toList →
      wpAny (model X.prog X.w) X.A (builtinsFor X.env.globals X.env.builtins) (fun bi s4 =>
        ∀ h', h'.Ns s4.heap.objs.size (fun y => if y = ".0" then some (.ref it) else none) → Heap.SameBut s4.heap.objs.size (s4.heap.push { cls := .type "frame", data := .dict #[] }) h' →
          (MadeP X pins σ scope elt tg iter ifs gpos (own.map (·.2)) g tt te R) (.ref h'.objs.size) { s4 with
            gens := s4.gens.push (.fresh (.compStart (.GeneratorExp elt [⟨tg, iter, ifs, 0⟩] scope gpos) 0 (.ref it) .none (genEnv scope (cloFrom X.env.cells scope.names []) s4.heap.objs.size code bi X.env))),
            toks := s4.toks + 1 + 1 + 1,
            heap := h'.push { cls := .type "generator", data := .fields #[.int s4.gens.size 0, .str "<genexpr>" (s4.toks + 1), .str (X.env.qual ++ "<genexpr>") (s4.toks + 1 + 1)] } }) X.xe { s2 with heap := h3, toks := tk } := by
    intro code h3 tk ps' hx hP3 hmore htr3
    obtain ⟨bm, ob, b1, b2, b3, b4, b5, b6, b7, b8⟩ := TB.bm
    refine wpAny_builtinsFor (m := X.mg) ?_ b1 b2 (hx _ _ b4 (I2.bk _ _ b5)) b6 b7 b8 ?_
    · rw [I2.ok.glob]
      exact (I2.mod.glob.keeps I2.bk).extBut hx TB.gP
    obtain ⟨more, rfl⟩ := hmore
    have I3 : Inv X pins σ (upd H1 P (.tbl (ps ++ more))) { s2 with heap := h3, toks := tk } := GxR.inv_tab (more := more) (h' := h3) (g' := s2.gens) (d' := s2.drawn) (t' := tk) I2 hP hx hP3 I2.bare
    have tab : GxR.Tabbed P H1 (upd H1 P (.tbl (ps ++ more))) := ⟨⟨_, upd_same, htr3⟩, fun b hb => upd_ne hb⟩
    have rd := q _ tab
    have t3 : tn 0 h3 := T.keep _ _ _ t2 fun b hb o e => hx b o (nP b hb) e
    have f3 : ∀ b ∈ fp, FpOk X pins (upd H1 P (.tbl (ps ++ more))) b ∧ b < h3.objs.size := fun b hb => by
      refine ⟨⟨?_, (f2 b hb).2⟩, ?_⟩
      · rw [upd_ne (nP b hb)]
        exact (f2 b hb).1
      · obtain ⟨o, e, _⟩ := T.obj _ _ t3 b hb
        exact Heap.lt_size e
    generalize upd H1 P (.tbl (ps ++ more)) = H3 at I3 rd f3
    intro h' hn' hs'
    generalize hs4 : ({ s2 with heap := h3, toks := tk } : Shared) = s4 at I3 hn' hs' ⊢
    have e4 : s4.heap = h3 := by rw [← hs4]
    rw [← e4] at t3 f3
    have hsz : h'.objs.size = s4.heap.objs.size + 1 := by rw [hs'.1, Heap.size_push]
    have hk : ∀ b o, s4.heap.get? b = some o → h'.get? b = some o := fun b o e => by
      rw [hs'.2 b (Nat.ne_of_lt (Heap.lt_size e))]
      exact Heap.get?_push_of_some _ e
    generalize hgo : ({ cls := .type "generator", data := .fields #[.int s4.gens.size 0, .str "<genexpr>" (s4.toks + 1), .str (X.env.qual ++ "<genexpr>") (s4.toks + 1 + 1)] } : Obj) = go
    have isg : ∀ hh : Heap, hh.get? h'.objs.size = some go → hh.IsGen h'.objs.size s4.gens.size := fun hh e => ⟨go, _, _, e, by rw [← hgo], by rw [← hgo], by rw [← hgo]⟩
    have hga : (h'.push go).get? h'.objs.size = some go := Heap.get?_push_size _ (by rw [← hgo]; rfl)
    have bare : AllBare (s4.gens.push (.fresh (.compStart (.GeneratorExp elt [⟨tg, iter, ifs, 0⟩] scope gpos) 0 (.ref it) .none (genEnv scope (cloFrom X.env.cells scope.names []) s4.heap.objs.size code builtinsNs X.env)))) := I3.bare.push rfl
    have kp5 : ∀ b o, s4.heap.get? b = some o → (h'.push go).get? b = some o := fun b o e => Heap.get?_push_of_some _ (hk b o e)
    have rmA : ∀ A, Near X A → Room k (A.deeper (genEnv scope (cloFrom X.env.cells scope.names []) s4.heap.objs.size code builtinsNs X.env)) := fun A N => by
      refine ⟨N.hd, ?_, ?_⟩
      · have := hr.dp
        have := N.dp
        show A.depth + 1 + 3 * k + 5 < _
        omega
      · have := hr.un
        have := N.un
        show A.units + 3 + 16 * k + 200 < _
        omega
    refine ⟨h'.objs.size, it, fp, tn, J, genEnv scope (cloFrom X.env.cells scope.names []) s4.heap.objs.size code builtinsNs X.env, s4, H3, go, s4.gens.size, rfl, ?_⟩
    have hs5 : (h'.push go).objs.size = h'.objs.size + 1 := Heap.size_push ..
    refine { gen := isg, isg := isg _ hga, lim := I3.nolimit.keeps kp5, gs := Array.getElem?_push_size .., T := T, t0 := T.keep _ _ _ t3 fun b _ o e => kp5 b o e, f0 := fun b hb => (f3 b hb).1.1, out := fun b hb => (f3 b hb).2, az := ?_, al := ?_, old := ?_, hco := S.co, loc := rfl, cel := ?_, stk := ?_, inv := ?_, pg := fun A N => hg _ s4 H3 s4.heap.objs.size code fp (rmA A N), pt := fun A N => ht _ s4 H3 s4.heap.objs.size code fp (rmA A N), pe := fun A N => he _ s4 H3 s4.heap.objs.size code fp (rmA A N), back := ?_, fresh := ?_, read := rd }
    · show s4.heap.objs.size < h'.objs.size
      omega
    · show h'.objs.size < (h'.push go).objs.size
      omega
    · show s4.heap.objs.size ≤ (h'.push go).objs.size
      omega
    · intro x c e
      have e : (cloFrom X.env.cells scope.names []).lookup x = some c := e
      rcases cloFrom_mem (PySem.mem_of_lookup e) with z | ⟨z, q⟩
      · cases z
      · obtain ⟨d, hd⟩ := hfree _ z rfl
        rw [hd] at q
        have q : c = d := q
        subst q
        obtain ⟨v, hv⟩ := I3.cell _ _ hd
        exact hv.lt
    · intro b hb
      rcases List.mem_cons.mp (I3.stkSub b hb) with z | z
      · rw [z]; exact I3.lt
      · obtain ⟨_, o, ho, _⟩ := I3.ok.funs.mem z
        exact Nat.lt_of_lt_of_le (Heap.lt_size ho) I3.sz
    · intro A N
      exact gen_start (code := code) (go := go) (tk := s4.toks + 1 + 1 + 1) I3 S.blk hN S.cell f3 N.hd (by show A.frames.map _ = _; rw [N.fr, I3.ok.frames]; rfl) hn' hk (fun v z => by rw [← hgo] at z; cases z) hga hsz bare
    · intro A pn σ' H' s' I'
      exact I3.call' (ch := fp) I'.os I'.base I'.hok I'.bare fun b hb => ⟨(f3 b hb).1.2.2.2.1, (f3 b hb).1.2.1, (f3 b hb).1.2.2.2.2.1, (f3 b hb).1.2.2.2.2.2⟩
    · show s4.heap.objs.size ≤ (h'.push go).objs.size
      omega
  cases hf : codeAmong gpos ps.toList with
  | none =>
    refine wpAny_genexprCodeX hcode (cd.code oP htr) (cd.tab oP) hf fun c' h' tk hx hge hlt hco' _ htab' _ => ?_
    obtain ⟨o1, v1, f1, tf, fl, t1, inF, tx, t0, op, _, _, _, _, _, _, _, _, _, htr', _⟩ := hco'
    exact rest _ h' tk _ hx htab'.2 ⟨_, rfl⟩ htr'
  | some cv =>
    refine wpAny_genexprCode_hit hcode (cd.code oP htr) hf ?_
    exact rest cv s2.heap s2.toks ps (Heap.ExtBut.refl _ _) oP ⟨#[], by simp⟩ htr
/-! ### all that is handed out is put into the list at S -/
def lo (acc : Array Value) (c : Nat) : Obj := { cls := .type "list", dict := none, data := .seq acc c, slots := #[] }
def GRt (Y : Cx) (pn : List (Addr × Obj)) (S : Addr) (Qt : List V → Hp → Prop) : GenEnd := fun _ _ r s1 =>
  ((r = .ok (.ret .none) ∨ r = .ok .next) ∧ ∃ σ' H' ys acc c, Inv Y (pn ++ [(S, lo acc c)]) σ' H' s1 ∧ Vals ys acc.toList ∧ Qt ys H') ∨ ∃ e, r = .error e ∧ (fun (_ : Value) (_ : Shared) => False) e s1
def GYt (Y : Cx) (pn : List (Addr × Obj)) (S : Addr) : Protocol := fun _ _ v s1 kap =>
  ∃ σ' H' acc c, Inv Y (pn ++ [(S, lo acc c)]) σ' H' s1 ∧ acc.size < sizeLine ∧
    ∀ (s2 : Shared) (c2 : Nat), (∀ b o, b ≠ S → s1.heap.get? b = some o → s2.heap.get? b = some o) → s2.heap.get? S = some (lo (acc.push v) c2) → s2.os = s1.os → AllBare s2.gens → kap (.send .none) s2
/-- one turn's reading; ys: what was handed out so far -/
def StepT (J : It) (g : TG) (tt : TT) (te : TE) (vs : List Nat) (σ : L2.St) (Qt : List V → Hp → Prop) (W : Nat → Nat → List V → Hp → Prop) (i m : Nat) (ys : List V) (H : Hp) : Prop :=
  (J.stop i H ∧ Qt ys H) ∨ (J.go i H ∧ ∃ Nx : List V → Hp → Prop, (∀ zs H', Nx zs H' → ∃ m', m' < m ∧ W (i + 1) m' zs H') ∧ ∀ x H', J.yld i H x H' → g x (wipe σ vs) H' fun σ2 H2 => wipe σ2 vs = wipe σ vs ∧ tt σ2 H2 fun b H3 =>
    if b = true then te σ2 H3 fun y H4 => ys.length < sizeLine ∧ Nx (ys ++ [y]) H4 else Nx ys H3)
theorem seg_turnsT {A0 : Around} {s3 : Shared} {H3 : Hp} {scope : Scope} {cenv : Env} {fp : List Addr} {pn : List (Addr × Obj)} {it S : Addr} {J : It} {tn : Nat → Heap → Prop} {elt tg iter : Expr} {ifs : List Expr} {pos : Pos} {vs : List Nat}
    {g : TG} {tt : TT} {te : TE} {Qt : List V → Hp → Prop} {W : Nat → Nat → List V → Hp → Prop} (hc : X.calm = true) (hco : cenv.scope.isCoroutine = false) (hpn : ∀ p ∈ pn, p.1 ∉ fp) (hS : S ∉ fp) (hS1 : s3.heap.objs.size ≤ S) (hS2 : S ≠ cenv.locals) (hS3 : ∀ x c, cenv.cells.lookup x = some c → c ≠ S)
    (hS4 : ∀ p ∈ pn, p.1 ≠ S) (hS5 : S ∉ frs X.stack)
    (T : Turn X.prog X.w X.K tg J fp it tn) (pg : PG (gctx X (A0.deeper cenv) s3 H3 scope cenv fp) tg g) (pt : PTs (gctx X (A0.deeper cenv) s3 H3 scope cenv fp) ifs tt) (pe : PE (gctx X (A0.deeper cenv) s3 H3 scope cenv fp) elt te)
    (turn : ∀ i m ys H', W i m ys H' → StepT J g tt te vs σ Qt W i m ys H') :
    ∀ (m n : Nat), m < n → ∀ (i : Nat) (s0 s1 : Shared) (H' : Hp) (ys : List V) (acc : Array Value) (c : Nat), Inv (gctx X (A0.deeper cenv) s3 H3 scope cenv fp) (pn ++ [(S, lo acc c)]) (wipe σ vs) H' s1 → Vals ys acc.toList → tn i s1.heap → (∀ b ∈ fp, H' b = none) → W i m ys H' →
      Seg (model X.prog X.w) A0 (GRt (gctx X (A0.deeper cenv) s3 H3 scope cenv fp) pn S Qt) (GYt (gctx X (A0.deeper cenv) s3 H3 scope cenv fp) pn S) n s0
        (.compLoop (.GeneratorExp elt [⟨tg, iter, ifs, 0⟩] scope pos) 0 (.ref it) .none cenv) ((model X.prog X.w).den (.compLoop (.GeneratorExp elt [⟨tg, iter, ifs, 0⟩] scope pos) 0 (.ref it) .none cenv)) [] s1 := by
  intro m
  induction m using Nat.strongRecOn with
  | ind m ih =>
    intro n hmn i s0 s1 H1 ys acc c I1 v1 t1 f1 w1
    have hpl : ∀ p ∈ pn ++ [(S, lo acc c)], p.1 ∉ fp := fun p hp => by
      rcases List.mem_append.mp hp with z | z
      · exact hpn p z
      · rw [List.mem_singleton.mp z]; exact hS
    have own : ∀ {pl : List (Addr × Obj)} {σ' : L2.St} {H' : Hp} {s' : Shared}, (∀ p ∈ pl, p.1 ∉ fp) → Inv (gctx X (A0.deeper cenv) s3 H3 scope cenv fp) pl σ' H' s' → (∀ b ∈ fp, H' b = none) → ∀ b ∈ fp, FpOk (gctx X (A0.deeper cenv) s3 H3 scope cenv fp) pl H' b :=
      fun {pl σ' H' s'} hpl I' hn b hb => ⟨hn b hb, (I'.ok.exf b hb).1, I'.ok.exfs b hb, .inl hb, fun x c e => (I'.ok.exf b hb).2 x c e, fun p hp z => hpl p (by simpa using hp) (by rw [z]; exact hb)⟩
    show Seg _ A0 _ _ _ s0 _ ((compTurn (.GeneratorExp elt [⟨tg, iter, ifs, 0⟩] scope pos) 0 (.ref it) .none cenv).onRaise (leaving cenv)) [] s1
    rw [compTurn_gen]
    rw [Sem.onRaise_eq_wrap]
    refine seg_bind_wrap (wpAny_standAt ?_)
    rcases turn i m ys H1 w1 with ⟨stop, qt⟩ | ⟨go, Nx, hNx, step⟩
    · refine seg_bind_wrap (wpF (T.done (gctx X (A0.deeper cenv) s3 H3 scope cenv fp) rfl rfl rfl hc i _ s1 _ H1 (fun _ _ => False) I1 (own hpl I1 f1) t1 stop) fun r s2 ⟨hr, I2⟩ => ?_)
      subst hr
      exact seg_end (.ok .next) (.inl ⟨.inr rfl, _, H1, ys, acc, c, I2, v1, qt⟩)
    · refine seg_bind_wrap (wpF (T.item (gctx X (A0.deeper cenv) s3 H3 scope cenv fp) rfl rfl rfl hc i _ s1 _ H1 (fun _ _ => False) I1 (own hpl I1 f1) t1 go) fun r s2 ⟨u, hr, h2⟩ => ?_)
      subst hr
      refine seg_bind_wrap (wpF h2 fun _ s4 ⟨x, H4, I4, r4, y4, t4, f4⟩ => ?_)
      have P4 := I4.pinned (own hpl I4 f4) (T.obj _ _ t4)
      refine seg_bind_wrap (wpF (pg.run _ s4 _ H4 x u _ P4 r4 (step x H4 y4)) fun _ s5 ⟨σ5, H5, I5, w5, q5⟩ => ?_)
      refine seg_bind_wrap (wpF (pt.run _ s5 σ5 H5 _ I5 q5) fun b s6 ⟨H6, I6, q6⟩ => ?_)
      have back : ∀ {s' : Shared} {H' : Hp}, Inv (gctx X (A0.deeper cenv) s3 H3 scope cenv fp) ((pn ++ [(S, lo acc c)]) ++ pinsAt fp s4.heap) σ5 H' s' →
          Inv (gctx X (A0.deeper cenv) s3 H3 scope cenv fp) (pn ++ [(S, lo acc c)]) (wipe σ vs) H' s' ∧ tn (i + 1) s'.heap ∧ ∀ b ∈ fp, H' b = none := fun {s' H'} I' => by
        have at' : ∀ b ∈ fp, ∀ o, s4.heap.get? b = some o → s'.heap.get? b = some o ∧ H' b = none := fun b hb o e =>
          let z := I'.pin (b, o) (List.mem_append_right _ (List.mem_append_right _ (mem_pinsAt hb e)))
          ⟨z.1, z.2.1⟩
        refine ⟨I'.unpinned.weak (by rw [← w5, wipe_length]) fun j v e => ?_, T.keep _ _ _ t4 fun b hb o e => (at' b hb o e).1, fun b hb => ?_⟩
        · rw [← w5] at e
          exact (wipe_some e).1
        · obtain ⟨o, e, _⟩ := T.obj _ _ t4 b hb
          exact (at' b hb o e).2
      cases b with
      | false =>
        have q6 : Nx ys H6 := by simpa using q6
        obtain ⟨m', hm, w'⟩ := hNx ys H6 q6
        obtain ⟨I7, t7, f7⟩ := back I6
        simp only [Bool.false_eq_true, if_false]
        exact seg_again rfl (ih m' hm n (by omega) (i + 1) s0 s6 H6 ys acc c I7 v1 t7 f7 w')
      | true =>
        rw [if_pos rfl] at q6
        simp only [if_true]
        have hy : ∀ v, yieldOut cenv v = yieldValue v := fun v => by
          unfold yieldOut
          simp [hco]
        simp only [hy]
        rw [Sem.bind_eq_wrap', Sem.bind_eq_wrap']
        rw [Sem.wrap_wrap, Sem.wrap_wrap]
        refine seg_wrap (wpF (pe.run _ s6 σ5 H6 _ I6 q6) fun v s7 ⟨yv, H7, I7, r7, hlt, qn⟩ => ?_)
        obtain ⟨I8, t8, f8⟩ := back I7
        obtain ⟨n, rfl⟩ : ∃ k, n = k + 1 := ⟨n - 1, by omega⟩
        have hsz : acc.size < sizeLine := by
          have e1 : ys.length = acc.toList.length := v1.length
          rw [← Array.length_toList, ← e1]
          exact hlt
        refine seg_at (seg_yield rfl rfl rfl ⟨_, H7, acc, c, I8, hsz, fun s9 c2 hk hS9 ho hb => ?_⟩)
        obtain ⟨m', hm, w'⟩ := hNx _ H7 qn
        have pS := I8.pin (S, lo acc c) (List.mem_append_right _ (List.mem_append_right _ (List.mem_singleton.mpr rfl)))
        have I9 : Inv (gctx X (A0.deeper cenv) s3 H3 scope cenv fp) pn (wipe σ vs) H7 s7 := I8.unpinned
        have I10 : Inv (gctx X (A0.deeper cenv) s3 H3 scope cenv fp) pn (wipe σ vs) H7 { s7 with heap := s9.heap, toks := s9.toks } :=
          I9.turned (t' := s9.toks) (it := S) hk pS.2.1 hS2 (.inr hS1) hS3 fun p hp => hS4 p (by simpa using hp)
        have I11 : Inv (gctx X (A0.deeper cenv) s3 H3 scope cenv fp) (pn ++ [(S, lo (acc.push v) c2)]) (wipe σ vs) H7 s9 := by
          refine (inv_heap (s' := s9) I10 rfl ho hb).pins_of fun p hp => ?_
          rcases List.mem_append.mp hp with z | z
          · exact (inv_heap (s' := s9) I10 rfl ho hb).pin p (List.mem_append_right _ z)
          · rw [List.mem_singleton.mp z]
            exact ⟨hS9, pS.2.1, hS2, hS5, fun v z => by cases z⟩
        refine seg_again rfl (ih m' hm n (by omega) (i + 1) s9 s9 H7 _ (acc.push v) c2 I11 ?_ (T.keep _ _ _ t8 fun b hb' o e => hk b o (fun z => hS (by rw [← z]; exact hb')) e) f8 w')
        rw [Array.toList_push]
        exact v1.append (.cons r7 .nil)
/-- list.extend walks the generator -/
theorem extend_walk {Y : Cx} {pn : List (Addr × Obj)} {Qt : List V → Hp → Prop} {A : Around} {R : Result → Shared → Prop} {a S : Addr} {go : Obj} {g : Nat} {res : Value} (hh : A.handled = none) (hd : A.depth < recursionLimit)
    (hpa : (a, go) ∈ pn) (hgen : ∀ h : Heap, h.get? a = some go → h.IsGen a g) (hSa : S ≠ a)
    (eT : ∀ σ' H' s' ys acc c, Inv Y (pn ++ [(S, lo acc c)]) σ' H' s' → Vals ys acc.toList → Qt ys H' → R (.ok (.ret res)) s') :
    ∀ (n : Nat) (s1 : Shared) (gs : GenState), s1.heap.IsGen a g → s1.heap.NoLimit → s1.gens[g]? = some gs →
      gs.Goes (model Y.prog Y.w) A.in1.in1 (GRt Y pn S Qt) (GYt Y pn S) n (.send .none) (s1.setGen g .running) → codeAny (model Y.prog Y.w) A (.builtin "list.extend.loop" ⟨[.ref S, .ref a, res], []⟩) R s1 := by
  have fin : ∀ {s2 : Shared} {h' : Heap}, (∃ σ' H' ys acc c, Inv Y (pn ++ [(S, lo acc c)]) σ' H' s2 ∧ Vals ys acc.toList ∧ Qt ys H') → (∀ b o, s2.heap.get? b = some o → h'.get? b = some o) → R (.ok (.ret res)) { s2.setGen g .finished with heap := h' } := fun {s2 h'} hp hk => by
    obtain ⟨σ', H', ys, acc, c, I2, v2, q⟩ := hp
    have I3 : Inv Y (pn ++ [(S, lo acc c)]) σ' H' (s2.setGen g .finished) := inv_heap I2 rfl rfl (allBare_setGen I2.bare rfl)
    exact eT σ' H' _ ys acc c (I3.kept (t' := s2.toks) hk) v2 q
  intro n
  induction n with
  | zero =>
    intro s1 gs isg lim hgs goes
    refine codeAny_builtin F.entry_extend_loop ?_
    rw [Around.under_plainId F.plain_extend_loop _]
    show wpAny _ A.in1 (pyNext (.ref a) >>= _) _ _ s1
    refine wpAny_bind (next_genG (A := A.in1) hh lim hd isg hgs goes (fun v s2 gs' hb hv => ?_) (fun s2 hp h' hk => ?_) fun e s2 he => he.elim)
    · obtain ⟨σ', H', acc, c, I2, hz, q2⟩ := hv
      have pS := I2.pin (S, lo acc c) (List.mem_append_right _ (List.mem_append_right _ (List.mem_singleton.mpr rfl)))
      have e0 : s2.heap.get? S = some (lo acc c) := pS.1
      have hS3 := Heap.get?_update_self (Obj.mapSeq (·.push v)) e0 rfl
      exact (q2 { s2 with heap := s2.heap.update S (Obj.mapSeq (·.push v)) } _ (fun b o hbS e => (Heap.get?_update_other _ _ (Ne.symm hbS)).trans e) hS3 rfl I2.bare).elim
    · exact wpAny_pure (fin hp hk)
  | succ n ih =>
    intro s1 gs isg lim hgs goes
    have hgl : g < s1.gens.size := (Array.getElem?_eq_some_iff.mp hgs).1
    refine codeAny_builtin F.entry_extend_loop ?_
    rw [Around.under_plainId F.plain_extend_loop _]
    show wpAny _ A.in1 (pyNext (.ref a) >>= _) _ _ s1
    refine wpAny_bind (wpAny_gsz (n := g + 1) hgl (next_genG (A := A.in1) hh lim hd isg hgs goes (fun v s2 gs' hb hv => ?_) (fun s2 hp h' hk => ?_) fun e s2 he => he.elim))
    · intro hsz
      obtain ⟨σ', H', acc, c, I2, hz, q2⟩ := hv
      have pS := I2.pin (S, lo acc c) (List.mem_append_right _ (List.mem_append_right _ (List.mem_singleton.mpr rfl)))
      have e0 : s2.heap.get? S = some (lo acc c) := pS.1
      show wpAny _ A.in1 (updateSeq S (·.push v) >>= _) _ _ _
      refine wpAny_bind (wpAny_updateSeq (s := s2.setGen g gs') e0 rfl (wpAny_pure ⟨plainId_quiet F.plain_extend_loop _, ?_⟩) (Nat.le_of_lt hz) (by show (acc.push v).size ≤ sizeLine + 1; rw [Array.size_push]; omega))
      have hS3 := Heap.get?_update_self (Obj.mapSeq (·.push v)) e0 rfl
      have k3 : ∀ b o, b ≠ S → s2.heap.get? b = some o → (s2.heap.update S (Obj.mapSeq (·.push v))).get? b = some o := fun b o hbS e => (Heap.get?_update_other _ _ (Ne.symm hbS)).trans e
      have hg2 : g < s2.gens.size := by
        have z : (s2.setGen g gs').gens.size = s2.gens.size := setGen_size _ _ _
        have hsz : g + 1 ≤ (s2.setGen g gs').gens.size := hsz
        omega
      have ha2 := (I2.pin (a, go) (List.mem_append_right _ (List.mem_append_left _ hpa))).1
      have lim2 := I2.nolimit
      refine ih { s2.setGen g gs' with heap := s2.heap.update S (Obj.mapSeq (·.push v)) } gs' (hgen _ (k3 a go (Ne.symm hSa) ha2)) ?_ (setGen_at hg2) ?_
      · obtain ⟨mc, hns, hnn⟩ := lim2
        refine ⟨mc, hns.at' fun o e => k3 _ o (fun z => ?_) e, hnn⟩
        obtain ⟨oo, es, ep, ho, hdd, _⟩ := hns
        rw [z, e0] at ho
        cases ho
        cases hdd
      · exact q2 _ _ k3 hS3 rfl (allBare_setGen (s := s2.setGen g gs') (allBare_setGen I2.bare hb) rfl)
    · intro _
      exact wpAny_pure (fin hp hk)
/-- what the reading of tuple(..) asks of the walk -/
def RT (g : TG) (tt : TT) (te : TE) (vs : List Nat) (σ : L2.St) (Qt : List V → Hp → Prop) : It → Hp → Prop := fun J H2 =>
  ∃ W : Nat → Nat → List V → Hp → Prop, (∃ m, W 0 m [] H2) ∧ ∀ i m ys H', W i m ys H' → StepT J g tt te vs σ Qt W i m ys H'
theorem collect_made {scope : Scope} {elt tg iter : Expr} {ifs : List Expr} {gpos : Pos} {vs : List Nat} {g : TG} {tt : TT} {te : TE} {Qt : List V → Hp → Prop} {a it : Addr} {s5 s4 : Shared} {fp : List Addr} {tn : Nat → Heap → Prop} {J : It} {cenv : Env} {H3 : Hp} {go : Obj} {gi : Nat} {A : Around} {E : Value → Shared → Prop} {Q : List Value → Shared → Prop}
    (hc : X.calm = true) (Pt : Parts X pins σ scope elt tg iter ifs gpos vs g tt te (RT g tt te vs σ Qt) a s5 it fp tn J cenv s4 H3 go gi) (N : Near X A.in1.in1) (hd : A.depth < recursionLimit) (bare : AllBare s5.gens)
    (hQ : ∀ pn σ' H' s' ys acc, Inv (gctx X (A.in1.in1.deeper cenv) s4 H3 scope cenv fp) pn σ' H' s' → Vals ys acc → Qt ys H' → Q acc s') : wpAny (model X.prog X.w) A (collect (.ref a)) Q E s5 := by
  have hSa : s5.heap.objs.size ≠ a := Nat.ne_of_gt Pt.al
  obtain ⟨W, ⟨m0, w0⟩, turn⟩ := Pt.read
  unfold collect
  refine wpAny_bind (wpAny_runValue (codeAny_builtin F.entry_proto_collect ?_))
  rw [Around.under_plainId F.plain_proto_collect _]
  show wpAny _ A.in1 (newList [] >>= fun l => again (.builtin "list.__iadd__" ⟨[l, .ref a], []⟩)) _ _ s5
  refine wpAny_bind (wpAny_newObj_type ?_)
  refine wpAny_pure ⟨plainId_quiet F.plain_list_iadd _, codeAny_builtin F.entry_list_iadd ?_⟩
  rw [Around.under_plainId F.plain_list_iadd _]
  have k1 : ∀ b o, s5.heap.get? b = some o → (s5.heap.push { cls := .type "list", data := .seq ([] : List Value).toArray }).get? b = some o := fun b o e => Heap.get?_push_of_some _ e
  have hS1 : (s5.heap.push { cls := .type "list", data := .seq ([] : List Value).toArray }).get? s5.heap.objs.size = some { cls := .type "list", data := .seq ([] : List Value).toArray } := Heap.get?_push_size _ rfl
  have gty : ({ s5 with heap := s5.heap.push { cls := .type "list", data := .seq ([] : List Value).toArray } } : Shared).TypeIs (.ref a) "generator" := Heap.IsGen.typeIs (s := { s5 with heap := s5.heap.push { cls := .type "list", data := .seq ([] : List Value).toArray } }) (Pt.isg.keeps k1)
  show wpAny _ A.in1 (Builtin.List.listExtendWith (.ref s5.heap.objs.size) (.ref a) (.ref s5.heap.objs.size)) _ _ _
  unfold Builtin.List.listExtendWith
  refine wpAny_bind (wpAny_typeOf gty ?_)
  have h1 : Builtin.List.listSameRef (.ref s5.heap.objs.size) (.ref a) = false := by simp [Builtin.List.listSameRef, hSa]
  rw [if_neg (by rw [h1]; decide)]
  refine wpAny_bind (wpAny_pyIter_gen (s := { s5 with heap := s5.heap.push { cls := .type "list", data := .seq ([] : List Value).toArray } }) (Pt.isg.keeps k1) ?_)
  refine wpAny_bind (wpAny_holding ?_)
  unfold Builtin.List.listLengthHint
  refine wpAny_bind (wpAny_specialOf gty F.gen_no_len ?_)
  show wpAny _ A.in1 (specialOf (Value.ref a) (Str.ofString "__length_hint__") >>= _) _ _ _
  refine wpAny_bind (wpAny_specialOf gty F.gen_no_hint (wpAny_pure ?_))
  show wpAny _ A.in1 (rule "list.extend.makes-room" >>= fun _ => Builtin.List.listTouch (.ref s5.heap.objs.size) >>= fun _ => again (.builtin "list.extend.loop" ⟨[.ref s5.heap.objs.size, .ref a, .ref s5.heap.objs.size], []⟩)) _ _ _
  refine wpAny_bind (wpAny_rule (wpAny_bind ?_))
  show wpAny _ A.in1 (updateSeq s5.heap.objs.size (·.push .none) >>= fun _ => updateSeq s5.heap.objs.size (·.pop)) _ _ _
  refine wpAny_bind (wpAny_updateSeq hS1 rfl ?_)
  have hS2 := Heap.get?_update_self (Obj.mapSeq (·.push Value.none)) hS1 rfl
  refine wpAny_updateSeq hS2 rfl ?_
  have hS3 := Heap.get?_update_self (Obj.mapSeq (·.pop)) hS2 rfl
  have k3 : ∀ b o, s5.heap.get? b = some o → (((s5.heap.push { cls := .type "list", data := .seq ([] : List Value).toArray }).update s5.heap.objs.size (Obj.mapSeq (·.push Value.none))).update s5.heap.objs.size (Obj.mapSeq (·.pop))).get? b = some o := fun b o e =>
    have ne : s5.heap.objs.size ≠ b := Nat.ne_of_gt (Heap.lt_size e)
    (Heap.get?_update_other _ _ ne).trans ((Heap.get?_update_other _ _ ne).trans (k1 b o e))
  refine wpAny_pure ⟨plainId_quiet F.plain_extend_loop _, ?_⟩
  generalize ((s5.heap.push { cls := .type "list", data := .seq ([] : List Value).toArray }).update s5.heap.objs.size (Obj.mapSeq (·.push Value.none))).update s5.heap.objs.size (Obj.mapSeq (·.pop)) = h6 at hS3 k3 ⊢
  have hS6 : ∃ c, h6.get? s5.heap.objs.size = some (lo #[] c) := ⟨_, hS3⟩
  obtain ⟨c6, hS6⟩ := hS6
  have I5 := Pt.inv A.in1.in1 N
  have zS : s4.heap.objs.size ≤ s5.heap.objs.size := Pt.old
  have I6 : ∀ g' : Array GenState, AllBare g' → Inv (gctx X (A.in1.in1.deeper cenv) s4 H3 scope cenv fp) ([(a, go)] ++ [(s5.heap.objs.size, lo #[] c6)]) (wipe σ vs) H3 { s5 with heap := h6, gens := g' } := fun g' hg' => by
    have I7 : Inv (gctx X (A.in1.in1.deeper cenv) s4 H3 scope cenv fp) [(a, go)] (wipe σ vs) H3 { s5 with heap := h6, gens := g' } := inv_heap (I5.kept (t' := s5.toks) k3) rfl rfl hg'
    refine I7.pins_of fun p hp => ?_
    rcases List.mem_append.mp hp with z | z
    · exact I7.pin p (List.mem_append_right _ z)
    · rw [List.mem_singleton.mp z]
      refine ⟨hS6, I5.hok.fresh (Nat.le_refl _), ?_, fun z => ?_, fun v z => by cases z⟩
      · show s5.heap.objs.size ≠ cenv.locals
        rw [Pt.loc]
        have := Pt.az
        have := Pt.al
        exact Nat.ne_of_gt (Nat.lt_trans Pt.az Pt.al)
      · exact absurd (Pt.stk _ z) (Nat.not_lt.mpr zS)
  refine extend_walk (A := A) (Y := gctx X (A.in1.in1.deeper cenv) s4 H3 scope cenv fp) (pn := [(a, go)]) (Qt := Qt) (go := go) (g := gi) N.hd hd (List.mem_singleton.mpr rfl) Pt.gen hSa (fun σ' H' s' ys acc c I' v' q => ?_) (m0 + 1) { s5 with heap := h6 } _ (Pt.isg.keeps k3) (Pt.lim.keeps k3) Pt.gs ⟨rfl, ?_⟩
  · show wpAny _ A (load s5.heap.objs.size >>= _) _ _ s'
    have pS := (I'.pin (s5.heap.objs.size, lo acc c) (List.mem_append_right _ (List.mem_append_right _ (List.mem_singleton.mpr rfl)))).1
    refine wpAny_bind (wpAny_load pS ?_)
    exact wpAny_pure (hQ _ σ' H' s' ys acc.toList I' v' q)
  · have t6 : tn 0 h6 := Pt.T.keep _ _ _ Pt.t0 fun b _ o e => k3 b o e
    refine seg_first (fun A Q E hq => Pt.T.self A 0 _ Q E t6 hq) ?_
    refine seg_turnsT (S := s5.heap.objs.size) hc Pt.hco (fun p hp z => ?_) (fun z => ?_) zS ?_ (fun x c e z => ?_) (fun p hp => ?_) (fun z => ?_) Pt.T (Pt.pg _ N) (Pt.pt _ N) (Pt.pe _ N) turn m0 (m0 + 1) (Nat.lt_succ_self _) 0 _ _ H3 [] #[] c6 (I6 _ (allBare_setGen (s := { s5 with heap := h6 }) bare rfl)) .nil t6 Pt.f0 w0
    · rw [List.mem_singleton.mp hp] at z
      exact absurd (Pt.out _ z) (Nat.not_lt.mpr (Nat.le_of_lt Pt.az))
    · exact absurd (Pt.out _ z) (Nat.not_lt.mpr zS)
    · rw [Pt.loc]
      exact Nat.ne_of_gt (Nat.lt_trans Pt.az Pt.al)
    · have := Pt.cel x c e
      rw [z] at this
      exact absurd this (Nat.not_lt.mpr zS)
    · rw [List.mem_singleton.mp hp]
      exact Ne.symm hSa
    · exact absurd (Pt.stk _ z) (Nat.not_lt.mpr zS)
theorem code_tuple_made {scope : Scope} {elt tg iter : Expr} {ifs : List Expr} {gpos : Pos} {vs : List Nat} {g : TG} {tt : TT} {te : TE} {Qt : List V → Hp → Prop} {a it : Addr} {s5 s4 : Shared} {fp : List Addr} {tn : Nat → Heap → Prop} {J : It} {cenv : Env} {H3 : Hp} {go : Obj} {gi : Nat} {A : Around} {E : Value → Shared → Prop} {Q1 : Value → Shared → Prop}
    (hc : X.calm = true) (Pt : Parts X pins σ scope elt tg iter ifs gpos vs g tt te (RT g tt te vs σ Qt) a s5 it fp tn J cenv s4 H3 go gi) (N : Near X A.in1.in1.in1) (hd : A.depth < recursionLimit) (bare : AllBare s5.gens)
    (hQ : ∀ pn σ' H' s' ys acc, Inv (gctx X (A.in1.in1.in1.deeper cenv) s4 H3 scope cenv fp) pn σ' H' s' → Vals ys acc → Qt ys H' → acc.toArray.size ≤ sizeLine ∧ Q1 (.ref s'.heap.objs.size) { s' with heap := s'.heap.push { cls := .type "tuple", data := .seq acc.toArray } }) :
    codeAny (model X.prog X.w) A (.call (.builtin "tuple.__new__") ⟨[.type "tuple", .ref a], []⟩) (wants Q1 E) s5 := by
  refine codeAny_of_tree ?_
  show wpAny _ A.in1 (do checkBuiltinCall "tuple.__new__" ⟨[.type "tuple", .ref a], []⟩; again (.builtin "tuple.__new__" ⟨[.type "tuple", .ref a], []⟩)) _ _ s5
  refine wpAny_bind (wpAny_of_eq (F.newCall_tuple_1 _) (wpAny_pure ⟨plainId_quiet F.plain_tuple_new _, codeAny_builtin F.entry_tuple_new ?_⟩))
  rw [Around.under_plainId F.plain_tuple_new _]
  have hsub := sub_tuple_self
  have hinit := init_tuple_lookup
  have hmh := madeHere_tuple
  have hTI : s5.TypeIs (.ref a) "generator" := Pt.isg.typeIs
  wp_walk using wpAny_typeOf hTI, collect_made (A := A.in1) hc Pt N hd bare
  intro pn σ' H' s' ys acc I' v' q
  obtain ⟨hz, h1⟩ := hQ pn σ' H' s' ys acc I' v' q
  show wpAny _ _ (Builtin.Tuple.tupleExact acc.toArray >>= fun v => ret v) _ _ _
  unfold Builtin.Tuple.tupleExact
  refine wpAny_bind (wpAny_newObj_type ?_ hz)
  exact wpAny_pure h1
/-- tuple(elt for tg in iter if ..) -/
def tTG (P : Addr) (wi : TI) (g : TG) (tt : TT) (te : TE) (vs : List Nat) : TE := fun σ H Q => wi σ H fun J H1 => GxR.TabG H1 P ∧ ∀ H2, GxR.Tabbed P H1 H2 →
  RT g tt te vs σ (fun ys H' => ys.length ≤ sizeLine ∧ ∀ q, H' q = none → Q (.ref q) (upd H' q (.tup ys))) J H2
theorem pe_tupleG {c P : Addr} {elt tg iter : Expr} {ifs : List Expr} {p pos gpos : Pos} {scope : Scope} {own : List (Str × Nat)} {wi : TI} {g : TG} {tt : TT} {te : TE} {k : Nat}
    (hc : X.calm = true) (hN : X.N.Nodup) (hr : Room (k + 1) X.A) (hgl : Gl X "tuple") (hm : X.mg "tuple" = none) (TB : GxR.TabB X.base X.mg c P) (hcode : X.env.code = .ref c) (S : GSc X.N X.env.scope scope own) (hi : PI X tg iter wi)
    (hg : ∀ (A : Around) (s : Shared) (H : Hp) (C : Addr) (code : Value) (fp : List Addr), Room k A → PG (gctx X A s H scope (genEnv scope (cloFrom X.env.cells scope.names []) C code builtinsNs X.env) fp) tg g)
    (ht : ∀ (A : Around) (s : Shared) (H : Hp) (C : Addr) (code : Value) (fp : List Addr), Room k A → PTs (gctx X A s H scope (genEnv scope (cloFrom X.env.cells scope.names []) C code builtinsNs X.env) fp) ifs tt)
    (he : ∀ (A : Around) (s : Shared) (H : Hp) (C : Addr) (code : Value) (fp : List Addr), Room k A → PE (gctx X A s H scope (genEnv scope (cloFrom X.env.cells scope.names []) C code builtinsNs X.env) fp) elt te)
    (hs : ∀ v, genFold iter X.env v = pure v := by intro _; rfl) (hb : bootBuiltins "tuple" = some (.type "tuple") := by decide +kernel)
    (hse : starEach [.GeneratorExp elt [⟨tg, iter, ifs, 0⟩] scope gpos] X.env = (false, eval (.GeneratorExp elt [⟨tg, iter, ifs, 0⟩] scope gpos) X.env) :: starEach [] X.env := by rfl) :
    PE X (.Call (.Name "tuple" p) [.GeneratorExp elt [⟨tg, iter, ifs, 0⟩] scope gpos] [] pos) (tTG P wi g tt te (own.map (·.2))) := by
  refine ⟨fun pins s σ H Q I h => ?_⟩
  refine Call_ (ld_blt I hgl hm hb (PyProof.Rows.callWith_type1 (args_cons (thn (gen_parts hc hN hr TB hcode S hi hg ht he hs I h) fun u s5 hu => args_nil ?_) hse) hse rfl))
  obtain ⟨a, it, fp, tn, J, cenv, s4, H3, go, gi, rfl, Pt⟩ := hu
  have N : Near X X.A.in1.in1.in1.in1 := ⟨hr.hd, rfl, rfl, by show X.A.units + 1 + 1 + 1 + 1 ≤ X.A.units + 8; omega⟩
  have bare := (Pt.inv _ N).bare
  refine callType_codes (Q₁ := fun obj s1 => s1.TypeIs obj "tuple" ∧ EP X pins σ Q obj s1) F.called_tuple (F.typeCall_tuple_1 _) F.entry_object_init
    (code_tuple_made (A := X.A.in1) hc Pt N (by have := hr.dp; show X.A.depth < _; omega) bare fun pn σ' H' s' ys acc I' v' q => ?_) fun obj s1 h1 => ?_
  · have I2 := Pt.back _ pn σ' H' s' I'
    have el : ys.length = acc.length := v'.length
    refine ⟨by rw [List.size_toArray, ← el]; exact q.1, ⟨_, Heap.get?_push_size _ rfl, rfl⟩, .ref s'.heap.objs.size, upd H' s'.heap.objs.size (.tup ys), ?_, rfl, q.2 _ (I2.hok.fresh (Nat.le_refl _))⟩
    exact I2.laid (t' := s'.toks) (fun c o e => Heap.get?_push_of_some _ e) (Nat.le_refl _) (show ObjOk X.prog X.w _ _ _ (.tup ys) from ⟨q.1, acc, v', IsTup.new _ _⟩)
  · exact ⟨h1.1, F.args_object_init_2 obj _, object_init_meets F.called_tuple.init.lookup F.called_tuple.made (by decide) X.prog X.w X.A.in1 _ s1 ⟨h1.1, rfl, h1.2⟩⟩
end
section
variable {J : It} {n : Nat} {G : Hp → Prop} {Y : Nat → Hp → V → Hp → Prop}
theorem tg_it (w : Walk J n G Y) {g : TG} {tt : TT} {te : TE} {vs : List Nat} {σ : L2.St} {H2 : Hp} {Qt : List V → Hp → Prop} (Pv : Nat → List V → Hp → Prop) (h0 : Pv 0 [] H2) (hG : ∀ i ys H, i ≤ n → Pv i ys H → G H)
    (hs : ∀ i x ys H H', i < n → Pv i ys H → Y i H x H' → g x (wipe σ vs) H' fun σ2 H2 => wipe σ2 vs = wipe σ vs ∧ tt σ2 H2 fun b H3 =>
      if b = true then te σ2 H3 fun y H4 => ys.length < sizeLine ∧ Pv (i + 1) (ys ++ [y]) H4 else Pv (i + 1) ys H3) (hd : ∀ ys H, Pv n ys H → Qt ys H) : RT g tt te vs σ Qt J H2 := by
  refine ⟨fun i m ys H => m = n - i ∧ i ≤ n ∧ Pv i ys H, ⟨n, by simp, Nat.zero_le _, h0⟩, ?_⟩
  rintro i m ys H ⟨rfl, hi, p⟩
  have q := hG i ys H hi p
  by_cases hlt : i < n
  · exact .inr ⟨w.goes i H hlt q, Pv (i + 1), fun zs H' p' => ⟨n - (i + 1), by omega, rfl, hlt, p'⟩, fun x H' y => hs i x ys H H' hlt p (w.yields i H x H' hlt q y)⟩
  · have e : i = n := by omega
    subst e
    exact .inl ⟨w.stops H q, hd ys H p⟩
end
end GE

set_option Elab.async false
set_option linter.all false
set_option maxRecDepth 100000
set_option maxHeartbeats 2000000
/-! Pages shown and compared as data. -/
namespace My
open PySem PySem.Spec PyProof.Rows L2 PySem.SeqAt PySem.W
mutual
theorem alike_self : ∀ k : NestedKey, alike k.data k.data = true
  | .none => by rw [NestedKey.data, alike]
  | .num _ => by rw [NestedKey.data, alike]
  | .text _ => by rw [NestedKey.data, alike]
  | .tup ks => by rw [NestedKey.data, alike]; exact alike_selves ks
theorem alike_selves : ∀ ks : List NestedKey, alikeAll (NestedKey.datas ks) (NestedKey.datas ks) = true
  | [] => by rw [NestedKey.datas, alikeAll]
  | k :: ks => by rw [NestedKey.datas, alikeAll, alike_self k, alike_selves ks]; rfl
end
theorem eqv_list_self (ks : List NestedKey) : PyData.eqv (.list (NestedKey.datas ks)) (.list (NestedKey.datas ks)) = true := eqv_refl_alike _ (by rw [alike]; exact alike_selves ks)
/-- what is known of a thing that is shown and compared -/
structure Fine (d : PyData) (c : Nat) : Prop where
  sh : GU.Sh d
  cost : GU.cost d ≤ c
  lay : d.canLay0 = true
  deep : d.depth ≤ 3
structure FineAll (ds : List PyData) (c : Nat) : Prop where
  sh : GU.ShAll ds
  cost : GU.costAll ds ≤ c
  lay : PyData.canLayAll0 ds = true
  deep : PyData.depthAll ds ≤ 3
theorem FineAll.nil : FineAll [] 0 := ⟨trivial, Nat.le_refl _, by rw [PyData.canLayAll0], by rw [PyData.depthAll]; omega⟩
theorem FineAll.cons {d : PyData} {ds : List PyData} {a b : Nat} (h : Fine d a) (t : FineAll ds b) : FineAll (d :: ds) (a + 2 + b) := by
  refine ⟨⟨h.sh, t.sh⟩, ?_, by rw [PyData.canLayAll0, h.lay, t.lay]; rfl, ?_⟩
  · rw [GU.costAll]
    have := h.cost
    have := t.cost
    omega
  · rw [PyData.depthAll]
    have := h.deep
    have := t.deep
    omega
theorem Fine.mono {d : PyData} {a b : Nat} (h : Fine d a) (le : a ≤ b) : Fine d b := ⟨h.sh, Nat.le_trans h.cost le, h.lay, h.deep⟩
theorem fine_text {z : Str} (h : Plain z) : Fine (.str z) 1004 := by
  refine ⟨fun c hc => Nat.lt_of_lt_of_le (h.2 c hc) (by decide), ?_, ?_, by rw [PyData.depth]; omega⟩
  · have := h.1
    rw [GU.cost]
    omega
  · rw [PyData.canLay0]
    unfold PyData.strOk
    rw [← Array.all_toList]
    refine List.all_eq_true.mpr fun c hc => ?_
    have := h.2 c hc
    simp
    omega
theorem fine_int {i : Int} (h0 : -1000000 < i) (h1 : i < 1000000) : Fine (.int i) 1921 := ⟨small_nat h0 h1, by rw [GU.cost]; omega, by rw [PyData.canLay0], by rw [PyData.depth]; omega⟩
theorem fine_home {ws : List Int} (h : HomeW ws) : Fine (NestedKey.tup (ws.map .num)).data 14000 := by
  have key : ∀ {ws : List Int}, (∀ w ∈ ws, 0 ≤ w ∧ w < 7) → FineAll (NestedKey.datas (ws.map .num)) (1923 * ws.length) ∧ PyData.depthAll (NestedKey.datas (ws.map .num)) = 0 := by
    intro ws
    induction ws with
    | nil => intro _; exact ⟨by rw [List.map_nil, NestedKey.datas]; exact .nil, by rw [List.map_nil, NestedKey.datas, PyData.depthAll]⟩
    | cons a l ih =>
      intro h
      have ha := h a (.head _)
      obtain ⟨i1, i2⟩ := ih fun w hw => h w (.tail _ hw)
      rw [List.map_cons, NestedKey.datas, NestedKey.data]
      refine ⟨?_, by rw [PyData.depthAll, i2, PyData.depth]; rfl⟩
      have := FineAll.cons (fine_int (i := a) (by omega) (by omega)) i1
      rw [List.length_cons]
      exact ⟨this.sh, by have := this.cost; omega, this.lay, this.deep⟩
  obtain ⟨k, kd⟩ := key h.2
  have := h.1
  rw [NestedKey.data]
  refine ⟨k.sh, ?_, by rw [PyData.canLay0]; exact k.lay, by rw [PyData.depth, kd]; omega⟩
  rw [GU.cost]
  have := k.cost
  omega
theorem plain_kind {z : Str} {r : List NestedKey} (h : Rest z r) : Plain z := by
  cases h <;> exact ⟨by decide +kernel, by decide +kernel⟩
theorem fine_rest {z : Str} {r : List NestedKey} (h : Rest z r) : FineAll (NestedKey.datas r) 17000 ∧ PyData.depthAll (NestedKey.datas r) ≤ 1 := by
  have one : ∀ {ws : List Int}, (NestedKey.tup (ws.map .num)).data.depth ≤ 1 := fun {ws} => by
    have : ∀ ws : List Int, PyData.depthAll (NestedKey.datas (ws.map .num)) = 0 := fun ws => by
      induction ws with
      | nil => rw [List.map_nil, NestedKey.datas, PyData.depthAll]
      | cons a l ih => rw [List.map_cons, NestedKey.datas, NestedKey.data, PyData.depthAll, ih, PyData.depth]; rfl
    rw [NestedKey.data, PyData.depth, this]
    omega
  have up : ∀ {ds : List PyData} {c : Nat}, FineAll ds c → c ≤ 17000 → FineAll ds 17000 := fun h le => ⟨h.sh, Nat.le_trans h.cost le, h.lay, h.deep⟩
  have txt : ∀ x : Str, (NestedKey.text x).data = .str x := fun x => by rw [NestedKey.data]
  have num : ∀ x : Int, (NestedKey.num x).data = .int x := fun x => by rw [NestedKey.data]
  cases h <;> simp only [NestedKey.datas, txt, num]
  case house a b => exact ⟨up (.cons (fine_text a) (.cons (fine_home b) .nil)) (by decide), by simp only [PyData.depthAll, PyData.depth]; refine Nat.max_le.mpr ⟨Nat.zero_le _, ?_⟩; first | exact Nat.max_le.mpr ⟨one, Nat.zero_le _⟩ | exact Nat.max_le.mpr ⟨Nat.zero_le _, Nat.max_le.mpr ⟨one, Nat.zero_le _⟩⟩⟩
  case home a b => exact ⟨up (.cons (fine_text a) (.cons (fine_home b) .nil)) (by decide), by simp only [PyData.depthAll, PyData.depth]; refine Nat.max_le.mpr ⟨Nat.zero_le _, ?_⟩; first | exact Nat.max_le.mpr ⟨one, Nat.zero_le _⟩ | exact Nat.max_le.mpr ⟨Nat.zero_le _, Nat.max_le.mpr ⟨one, Nat.zero_le _⟩⟩⟩
  case part a b c => exact ⟨up (.cons (fine_text a) (.cons (fine_text b) (.cons (fine_home c) .nil))) (by decide), by simp only [PyData.depthAll, PyData.depth]; refine Nat.max_le.mpr ⟨Nat.zero_le _, ?_⟩; first | exact Nat.max_le.mpr ⟨one, Nat.zero_le _⟩ | exact Nat.max_le.mpr ⟨Nat.zero_le _, Nat.max_le.mpr ⟨one, Nat.zero_le _⟩⟩⟩
  case mourn a b c => exact ⟨up (.cons (fine_text a) (.cons (fine_int (by omega) (by omega)) .nil)) (by decide), by simp only [PyData.depthAll, PyData.depth]; omega⟩
  case join a b => exact ⟨up (.cons (fine_text a) (.cons (fine_text b) .nil)) (by decide), by simp only [PyData.depthAll, PyData.depth]; omega⟩
  case ahead a b => exact ⟨up (.cons (fine_text a) (.cons (fine_text b) .nil)) (by decide), by simp only [PyData.depthAll, PyData.depth]; omega⟩
  case card a b => exact ⟨up (.cons (fine_text a) (.cons (fine_text b) .nil)) (by decide), by simp only [PyData.depthAll, PyData.depth]; omega⟩
  case visit a b => exact ⟨up (.cons (fine_text a) (.cons (fine_text b) .nil)) (by decide), by simp only [PyData.depthAll, PyData.depth]; omega⟩
theorem fine_page {k : NestedKey} (h : PgK k) : Fine k.data 20000 ∧ k.data.depth ≤ 2 := by
  obtain ⟨z, d, r, rfl, hr, d0, d1⟩ := h
  obtain ⟨f, fd⟩ := fine_rest hr
  have t := FineAll.cons (fine_text (plain_kind hr)) (FineAll.cons (fine_int (i := d) (by omega) (by omega)) f)
  have e : (NestedKey.tup (.text z :: .num d :: r)).data = .tuple (.str z :: .int d :: NestedKey.datas r) := by
    rw [NestedKey.data, NestedKey.datas, NestedKey.datas, NestedKey.data, NestedKey.data]
  have dp : (PyData.tuple (.str z :: .int d :: NestedKey.datas r)).depth ≤ 2 := by
    rw [PyData.depth, PyData.depthAll, PyData.depthAll, PyData.depth, PyData.depth]
    omega
  rw [e]
  refine ⟨⟨t.sh, ?_, by rw [PyData.canLay0]; exact t.lay, Nat.le_trans dp (by decide)⟩, dp⟩
  rw [GU.cost]
  have := t.cost
  omega
theorem fine_pages : ∀ {ks : List NestedKey}, (∀ k ∈ ks, PgK k) → FineAll (NestedKey.datas ks) (20002 * ks.length) ∧ PyData.depthAll (NestedKey.datas ks) ≤ 2
  | [], _ => ⟨by rw [NestedKey.datas]; exact .nil, by rw [NestedKey.datas, PyData.depthAll]; omega⟩
  | k :: ks, h => by
    obtain ⟨a, b⟩ := fine_page (h k (.head _))
    obtain ⟨c, d⟩ := fine_pages fun y hy => h y (.tail _ hy)
    have t := FineAll.cons a c
    rw [NestedKey.datas]
    refine ⟨⟨t.sh, by have := t.cost; rw [List.length_cons]; omega, t.lay, t.deep⟩, by rw [PyData.depthAll]; omega⟩
theorem shaped_pages {ks : List NestedKey} (h : ∀ k ∈ ks, PgK k) : SeqAt.shaped (.list (NestedKey.datas ks)) = true := by
  obtain ⟨f, fd⟩ := fine_pages h
  unfold SeqAt.shaped
  rw [Bool.and_eq_true, PyData.canLay0, PyData.depth]
  exact ⟨f.lay, decide_eq_true (by omega)⟩
theorem eqv_nil (ks : List NestedKey) : PyData.eqv (.list (NestedKey.datas ks)) (.list []) = ks.isEmpty := by
  cases ks with
  | nil => simp [NestedKey.datas, PyData.eqv, PyData.eqvAll]
  | cons k ks => simp [NestedKey.datas, PyData.eqv, PyData.eqvAll]
theorem repr_pages {ks : List NestedKey} (h : ∀ k ∈ ks, PgK k) (n : ks.length ≤ 200) : GU.Sh (.tuple (NestedKey.datas ks)) ∧ (PyData.tuple (NestedKey.datas ks)).depth ≤ 50 ∧ GU.cost (.tuple (NestedKey.datas ks)) ≤ sizeLine := by
  obtain ⟨f, fd⟩ := fine_pages h
  refine ⟨f.sh, by rw [PyData.depth]; omega, ?_⟩
  rw [GU.cost]
  have := f.cost
  have : GU.costAll (NestedKey.datas ks) + 3 ≤ 4000403 := by omega
  exact Nat.le_trans this (by decide)
end My

set_option Elab.async false
set_option linter.all false
set_option maxRecDepth 100000
set_option maxHeartbeats 2000000
/-! Errors of the program's own that carry fields: a def with generator expressions that may raise one; isinstance of a caught one where the answer is yes; != of pages. -/
namespace GE
open PySem PySem.Spec PyProof.Rows L2
theorem FunC.okX {P : Program} {w : World} {K : PySem.W.Frag} {mg : Str → Option Value} {base : Heap} {x qual : Str} {st : Stmt} {f : Addr} {fd : FuncData} {c : Addr} {N ps : List Str} {k : Nat} {sp : Sp} (F : FunC K x qual st f fd c) (S : FnScope N ps (defScope st))
    (len : ∀ vs H Q E, sp vs H Q E → vs.length = ps.length)
    (body : ∀ (A : Around) (outer : List Env) (s : Shared) (H : Hp) (vs : List V) (Q : VK) (E : XK), Room k (A.deeper (envOfC qual (defScope st) s.heap.objs.size f (.ref c))) → sp vs H Q E →
      ∃ t, PSs (cxOf (L2.CX P w) P w K mg base N qual (defScope st) f (.ref c) A outer s H E) (defBody st) t ∧ t { nx := fun _ H' => Q .non H', rt := Q } (start N vs) H) : FnOk P w K mg base (L2.CX P w) (k + 1) f fd ps sp := by
  obtain ⟨oc, od, kV, doc, pm, an, ct, osl, rfl, lk, hcd⟩ := F.ex
  exact fn_of lk hcd S len fun A outer s H vs Q E hr h => body A outer s H vs Q E hr h
end GE
namespace My
open PySem PySem.Spec PyProof.Rows L2 PySem.W
section
variable {prog : Program} {w : World} {A : Around} {E : Value → Shared → Prop} {s : Shared} {Q : Value → Shared → Prop} {K : PySem.W.Frag} {a D : Addr} {oe : Obj} {od : Option Obj} {c : Value}
/-- the class is the thing's own, or one above it: so no look at the thing's own attribute is taken -/
theorem yes_ans (e : PySem.W.kitOne K (.ref D) c = some true) : Answers (fun s => K.In s.heap ∧ PySem.W.InstAt s.heap a oe D od) (.ref a) c true := by
  intro dep tk prog w A R s hs
  obtain ⟨h0, g0, d0, t0, o0⟩ := s
  obtain ⟨⟨kin, inst⟩, fin⟩ := hs
  have own := inst.type (M := model prog w)
  unfold Builtin.«isinstance.nested»
  refine wpAny_bind (own.at ?_)
  unfold PySem.W.kitOne at e
  by_cases same : (Value.ref D == c) = true
  · rw [if_pos same]
    first
      | exact wpAny_bind (wpAny_rule (fin t0))
      | exact wpAny_bind (wpAny_rule (wpAny_pure (fin t0)))
      | ((repeat lk); exact fin t0)
  · rw [if_neg same] at e
    rw [if_neg same]
    obtain ⟨l1, l2, l3⟩ := PySem.W.kit_cls (M := model prog w) kin e
    have above : Looks (model prog w) h0 (isInstance (.ref a) c) true := own.andThen l3
    refine wpAny_bind (l1.at ?_)
    rw [if_pos (by decide)]
    k_delta "plainIsInstance"
    refine wpAny_bind (wpAny_bind (l2.at ?_))
    rw [if_neg (by decide)]
    refine wpAny_bind (above.at ?_)
    first
      | exact wpAny_pure (wpAny_pure (fin t0))
      | (rw [if_pos rfl]; first | exact wpAny_pure (wpAny_pure (fin t0)) | exact wpAny_pure (fin t0) | exact wpAny_bind (wpAny_pure (wpAny_pure (fin t0))))
theorem is_yes (kin : K.In s.heap) (inst : PySem.W.InstAt s.heap a oe D od) (e : PySem.W.kitOne K (.ref D) c = some true) (h : ∀ tk, Q (.bool true) { s with toks := tk }) : wpAny (model prog w) A (call (.builtin "isinstance") [.ref a, c]) Q E s :=
  PySem.call_isinstance (S := fun _ R s => (K.In s.heap ∧ PySem.W.InstAt s.heap a oe D od) ∧ ∀ tk, R (.ok (.ret (.bool true))) { s with toks := tk })
    (fun prog w A R s hs => PySem.isinstance_outer (yes_ans e 0 _ prog w A R s hs) (fun z => nomatch z)) ⟨⟨kin, inst⟩, h⟩
end
/-- isinstance(e, c), e the error that the suite holds, with fields in its dict -/
def rIsY (K : PySem.W.Frag) (D a : Addr) (cls : Value) (d : Option Addr) : List V → Hp → VK → Prop := fun xs H Q => ∃ (c : V) (cv : Value) (dd : Addr) (fs : List (Str × V)), xs = [.ref a, c] ∧ (∀ u, RelV c u → u = cv) ∧ PySem.W.kitOne K (.ref D) cv = some true ∧ cls = .ref D ∧ d = some dd ∧ H dd = some (.xd fs) ∧ Q (.bl true) H
theorem call_isY {X : Cx} {a D : Addr} {oe : Obj} {d : Option Addr} {cls : Value} {pn : List (Addr × Obj)} (hz : Zc cls d oe) (hf : ∃ vs, oe.data = .fields vs) : CallR (X.suite a ((a, oe) :: pn)) (.builtin "isinstance") (rIsY X.K D a cls d) := by
  intro pins s σ H xs us Q I r h
  obtain ⟨c, cv, dd, fs, rfl, hcv, e, hc, ed, hdd, q⟩ := h
  obtain ⟨u0, u1, rfl, r0, r1⟩ : ∃ u0 u1, us = [u0, u1] ∧ RelV (.ref a) u0 ∧ RelV c u1 := by
    cases r with
    | cons r0 r =>
      cases r with
      | cons r1 r =>
        cases r
        exact ⟨_, _, rfl, r0, r1⟩
  obtain rfl : u0 = Value.ref a := r0
  obtain rfl := hcv _ r1
  subst hc ed
  obtain ⟨here, _⟩ := I.pin (a, oe) (List.mem_append_left _ List.mem_cons_self)
  obtain ⟨vs, hv⟩ := hf
  have hx : ObjOk X.prog X.w H s.heap dd (.xd fs) := I.hok dd _ hdd
  obtain ⟨mA, hns, _⟩ := hx
  obtain ⟨od, ho, _⟩ := lookIn_ns hns
  have inst : PySem.W.InstAt s.heap a oe D (some od) := ⟨here, hz.1, by unfold PySem.W.notCls; rw [hv] <;> rfl, by rw [hz.2]; exact ho⟩
  exact is_yes I.kIn inst e fun tk => ⟨.bl true, H, I.kept (t' := tk) fun _ _ z => z, rfl, q⟩
mutual
theorem eqv_key : ∀ k l : NestedKey, PyData.eqv k.data l.data = NestedKey.beq k l
  | .none, l => by cases l <;> simp [NestedKey.data, PyData.eqv, NestedKey.beq]
  | .num a, l => by cases l <;> simp [NestedKey.data, PyData.eqv, NestedKey.beq] <;> (rw [Bool.eq_iff_iff]; simp)
  | .text a, l => by cases l <;> simp [NestedKey.data, PyData.eqv, NestedKey.beq] <;> (rw [Bool.eq_iff_iff]; simp)
  | .tup ks, .none => by simp [NestedKey.data, PyData.eqv, NestedKey.beq]
  | .tup ks, .num _ => by simp [NestedKey.data, PyData.eqv, NestedKey.beq]
  | .tup ks, .text _ => by simp [NestedKey.data, PyData.eqv, NestedKey.beq]
  | .tup ks, .tup ls => by
    rw [NestedKey.data, NestedKey.data, PyData.eqv, NestedKey.beq]
    exact eqv_keys ks ls
theorem eqv_keys : ∀ ks ls : List NestedKey, PyData.eqvAll (NestedKey.datas ks) (NestedKey.datas ls) = NestedKey.beqAll ks ls
  | [], [] => by simp [NestedKey.datas, PyData.eqvAll, NestedKey.beqAll]
  | [], _ :: _ => by simp [NestedKey.datas, PyData.eqvAll, NestedKey.beqAll]
  | _ :: _, [] => by simp [NestedKey.datas, PyData.eqvAll, NestedKey.beqAll]
  | k :: ks, l :: ls => by
    rw [NestedKey.datas, NestedKey.datas, PyData.eqvAll, NestedKey.beqAll, eqv_key k l, eqv_keys ks ls]
end
theorem eqv_dec (k l : NestedKey) : PyData.eqv k.data l.data = decide (k = l) := by rw [eqv_key, NestedKey.decide_eq]
theorem shaped_page {k : NestedKey} (h : PgK k) : SeqAt.shaped k.data = true := by
  obtain ⟨f, fd⟩ := fine_page h
  unfold SeqAt.shaped
  rw [Bool.and_eq_true]
  exact ⟨f.lay, decide_eq_true (by omega)⟩
end My

set_option Elab.async false
set_option linter.all false
set_option maxRecDepth 100000
set_option maxHeartbeats 2000000
namespace L05
open PySem PySem.Spec PyProof.Rows L2 My
def topS (i : Nat) : Stmt := PySem.Challenge.pw_cardsback_k05_books_by_kind.main.body.getD i (.Pass ⟨0, 0, 0, 0⟩)
abbrev s_is_number : Stmt := topS 4
abbrev N_is_number : List Str := ["thing"]
theorem S_is_number : FnScope N_is_number ["thing"] (defScope s_is_number) := ⟨rfl, rfl, rfl, by decide +kernel, rfl, by decide +kernel, by decide +kernel⟩
abbrev s_is_number_within : Stmt := topS 5
abbrev N_is_number_within : List Str := ["thing", "least", "greatest"]
theorem S_is_number_within : FnScope N_is_number_within ["thing", "least", "greatest"] (defScope s_is_number_within) := ⟨rfl, rfl, rfl, by decide +kernel, rfl, by decide +kernel, by decide +kernel⟩
abbrev s_is_rising : Stmt := topS 6
abbrev N_is_rising : List Str := ["things", "k"]
theorem S_is_rising : FnScope N_is_rising ["things"] (defScope s_is_rising) := ⟨rfl, rfl, rfl, by decide +kernel, rfl, by decide +kernel, by decide +kernel⟩
abbrev s_is_day : Stmt := topS 7
abbrev N_is_day : List Str := ["thing"]
theorem S_is_day : FnScope N_is_day ["thing"] (defScope s_is_day) := ⟨rfl, rfl, rfl, by decide +kernel, rfl, by decide +kernel, by decide +kernel⟩
abbrev s_is_home : Stmt := topS 8
abbrev N_is_home : List Str := ["thing", "part"]
theorem S_is_home : FnScope N_is_home ["thing"] (defScope s_is_home) := ⟨rfl, rfl, rfl, by decide +kernel, rfl, by decide +kernel, by decide +kernel⟩
abbrev s_is_name : Stmt := topS 9
abbrev N_is_name : List Str := ["thing", "sign"]
theorem S_is_name : FnScope N_is_name ["thing"] (defScope s_is_name) := ⟨rfl, rfl, rfl, by decide +kernel, rfl, by decide +kernel, by decide +kernel⟩
abbrev s_fits : Stmt := topS 14
abbrev N_fits : List Str := ["form", "thing"]
theorem S_fits : FnScope N_fits ["form", "thing"] (defScope s_fits) := ⟨rfl, rfl, rfl, by decide +kernel, rfl, by decide +kernel, by decide +kernel⟩
abbrev s_has_form : Stmt := topS 15
abbrev N_has_form : List Str := ["thing", "forms", "rest", "form", "part"]
theorem S_has_form : FnScope N_has_form ["thing"] (defScope s_has_form) := ⟨rfl, rfl, rfl, by decide +kernel, rfl, by decide +kernel, by decide +kernel⟩
abbrev s_is_page : Stmt := topS 16
abbrev N_is_page : List Str := ["thing", "names"]
theorem S_is_page : FnScope N_is_page ["thing"] (defScope s_is_page) := ⟨rfl, rfl, rfl, by decide +kernel, rfl, by decide +kernel, by decide +kernel⟩
abbrev s_page_day : Stmt := topS 17
abbrev N_page_day : List Str := ["page"]
theorem S_page_day : FnScope N_page_day ["page"] (defScope s_page_day) := ⟨rfl, rfl, rfl, by decide +kernel, rfl, by decide +kernel, by decide +kernel⟩
abbrev s_page_kind : Stmt := topS 18
abbrev N_page_kind : List Str := ["page"]
theorem S_page_kind : FnScope N_page_kind ["page"] (defScope s_page_kind) := ⟨rfl, rfl, rfl, by decide +kernel, rfl, by decide +kernel, by decide +kernel⟩
abbrev s_names_of : Stmt := topS 19
abbrev N_names_of : List Str := ["page", "form", "part"]
theorem S_names_of : FnScope N_names_of ["page"] (defScope s_names_of) := ⟨rfl, rfl, rfl, by decide +kernel, rfl, by decide +kernel, by decide +kernel⟩
abbrev s_page_place : Stmt := topS 20
abbrev N_page_place : List Str := ["page"]
theorem S_page_place : FnScope N_page_place ["page"] (defScope s_page_place) := ⟨rfl, rfl, rfl, by decide +kernel, rfl, by decide +kernel, by decide +kernel⟩
abbrev s_stands_ahead : Stmt := topS 21
abbrev N_stands_ahead : List Str := ["one", "other"]
theorem S_stands_ahead : FnScope N_stands_ahead ["one", "other"] (defScope s_stands_ahead) := ⟨rfl, rfl, rfl, by decide +kernel, rfl, by decide +kernel, by decide +kernel⟩
abbrev s_is_book : Stmt := topS 23
abbrev N_is_book : List Str := ["thing", "part", "k"]
theorem S_is_book : FnScope N_is_book ["thing"] (defScope s_is_book) := ⟨rfl, rfl, rfl, by decide +kernel, rfl, by decide +kernel, by decide +kernel⟩
abbrev s_w_tap : Stmt := topS 25
abbrev N_w_tap : List Str := ["_law_script"]
theorem S_w_tap : FnScope N_w_tap ["_law_script"] (defScope s_w_tap) := ⟨rfl, rfl, rfl, by decide +kernel, rfl, by decide +kernel, by decide +kernel⟩
abbrev s_w_take : Stmt := topS 26
abbrev N_w_take : List Str := ["_law_tap_here", "_law_many", "_law_calls", "_law_figure", "_law_spot", "_law_cells", "_law_cell", "_law_once"]
theorem S_w_take : FnScope N_w_take ["_law_tap_here", "_law_many"] (defScope s_w_take) := ⟨rfl, rfl, rfl, by decide +kernel, rfl, by decide +kernel, by decide +kernel⟩
abbrev s_w_home : Stmt := topS 27
abbrev N_w_home : List Str := ["_law_tap_here", "_law_bits", "_law_k"]
theorem S_w_home : FnScope N_w_home ["_law_tap_here"] (defScope s_w_home) := ⟨rfl, rfl, rfl, by decide +kernel, rfl, by decide +kernel, by decide +kernel⟩
abbrev s_w_names : Stmt := topS 28
abbrev N_w_names : List Str := ["_law_tap_here", "_law_many", "_law_shift", "_law_letters", "_law_pool", "_law_found", "_law_k", "_law_word", "_law_sign"]
theorem S_w_names : FnScope N_w_names ["_law_tap_here", "_law_many"] (defScope s_w_names) := ⟨rfl, rfl, rfl, by decide +kernel, rfl, by decide +kernel, by decide +kernel⟩
abbrev s_w_page : Stmt := topS 29
abbrev N_w_page : List Str := ["_law_tap_here", "_law_names_here", "_law_day", "_law_kind", "_law_at", "_law_first", "_law_other"]
theorem S_w_page : FnScope N_w_page ["_law_tap_here", "_law_names_here", "_law_day"] (defScope s_w_page) := ⟨rfl, rfl, rfl, by decide +kernel, rfl, by decide +kernel, by decide +kernel⟩
abbrev s_w_base : Stmt := topS 30
abbrev N_w_base : List Str := ["_law_tap_here", "_law_way"]
theorem S_w_base : FnScope N_w_base ["_law_tap_here"] (defScope s_w_base) := ⟨rfl, rfl, rfl, by decide +kernel, rfl, by decide +kernel, by decide +kernel⟩
abbrev s_w_story : Stmt := topS 31
abbrev N_w_story : List Str := ["_law_tap_here", "_law_names_here", "_law_base_here", "_law_span", "_law_first", "_law_k", "_law_some"]
theorem S_w_story : FnScope N_w_story ["_law_tap_here"] (defScope s_w_story) := ⟨rfl, rfl, rfl, by decide +kernel, rfl, by decide +kernel, by decide +kernel⟩
abbrev s_w_rank : Stmt := topS 32
abbrev N_w_rank : List Str := ["_law_page_here", "_law_kinds"]
theorem S_w_rank : FnScope N_w_rank ["_law_page_here"] (defScope s_w_rank) := ⟨rfl, rfl, rfl, by decide +kernel, rfl, by decide +kernel, by decide +kernel⟩
abbrev s_w_book : Stmt := topS 33
abbrev N_w_book : List Str := ["_law_some", "_law_unlike", "_law_page_here"]
theorem S_w_book : FnScope N_w_book ["_law_some"] (defScope s_w_book) := ⟨rfl, rfl, rfl, by decide +kernel, rfl, by decide +kernel, by decide +kernel⟩
abbrev s_w_bent : Stmt := topS 34
abbrev N_w_bent : List Str := ["_law_tap_here", "_law_book_here", "_law_way", "_law_many", "_law_at", "_law_not_yet", "_law_to", "_law_place", "_law_odd", "_law_page_here"]
theorem S_w_bent : FnScope N_w_bent ["_law_tap_here", "_law_book_here"] (defScope s_w_bent) := ⟨rfl, rfl, rfl, by decide +kernel, rfl, by decide +kernel, by decide +kernel⟩
abbrev s_w_is_number : Stmt := topS 35
abbrev N_w_is_number : List Str := ["_law_thing", "_law_low", "_law_most"]
theorem S_w_is_number : FnScope N_w_is_number ["_law_thing", "_law_low", "_law_most"] (defScope s_w_is_number) := ⟨rfl, rfl, rfl, by decide +kernel, rfl, by decide +kernel, by decide +kernel⟩
abbrev s_w_is_name : Stmt := topS 36
abbrev N_w_is_name : List Str := ["_law_thing", "_law_sign"]
theorem S_w_is_name : FnScope N_w_is_name ["_law_thing"] (defScope s_w_is_name) := ⟨rfl, rfl, rfl, by decide +kernel, rfl, by decide +kernel, by decide +kernel⟩
abbrev s_w_is_home : Stmt := topS 37
abbrev N_w_is_home : List Str := ["_law_thing", "_law_one", "_law_k"]
theorem S_w_is_home : FnScope N_w_is_home ["_law_thing"] (defScope s_w_is_home) := ⟨rfl, rfl, rfl, by decide +kernel, rfl, by decide +kernel, by decide +kernel⟩
abbrev s_w_is_page : Stmt := topS 38
abbrev N_w_is_page : List Str := ["_law_thing", "_law_forms", "_law_form", "_law_sort", "_law_one"]
theorem S_w_is_page : FnScope N_w_is_page ["_law_thing"] (defScope s_w_is_page) := ⟨rfl, rfl, rfl, by decide +kernel, rfl, by decide +kernel, by decide +kernel⟩
abbrev s_w_is_book : Stmt := topS 39
abbrev N_w_is_book : List Str := ["_law_thing", "_law_one", "_law_k"]
theorem S_w_is_book : FnScope N_w_is_book ["_law_thing"] (defScope s_w_is_book) := ⟨rfl, rfl, rfl, by decide +kernel, rfl, by decide +kernel, by decide +kernel⟩
abbrev s_law : Stmt := topS 40
abbrev N_law : List Str := ["_law_script", "_law_tap_here", "_law_book_here", "_law_k", "_law_thing"]
theorem S_law : FnScope N_law ["_law_script"] (defScope s_law) := ⟨rfl, rfl, rfl, by decide +kernel, rfl, by decide +kernel, by decide +kernel⟩
structure Tx (K : PySem.W.Frag) (mg : Str → Option Value) (w : World) where
  f_is_number : Addr
  d_is_number : FuncData
  F_is_number : Fun K "is_number" "is_number" s_is_number f_is_number d_is_number
  g_is_number : mg "is_number" = some (.ref f_is_number)
  b_is_number : Binds K d_is_number ["thing"] []
  f_is_number_within : Addr
  d_is_number_within : FuncData
  F_is_number_within : Fun K "is_number_within" "is_number_within" s_is_number_within f_is_number_within d_is_number_within
  g_is_number_within : mg "is_number_within" = some (.ref f_is_number_within)
  b_is_number_within : Binds K d_is_number_within ["thing", "least", "greatest"] []
  f_is_rising : Addr
  d_is_rising : FuncData
  k_is_rising : Addr
  P_is_rising : Addr
  F_is_rising : GE.FunC K "is_rising" "is_rising" s_is_rising f_is_rising d_is_rising k_is_rising
  g_is_rising : mg "is_rising" = some (.ref f_is_rising)
  b_is_rising : Binds K d_is_rising ["things"] []
  f_is_day : Addr
  d_is_day : FuncData
  F_is_day : Fun K "is_day" "is_day" s_is_day f_is_day d_is_day
  g_is_day : mg "is_day" = some (.ref f_is_day)
  b_is_day : Binds K d_is_day ["thing"] []
  f_is_home : Addr
  d_is_home : FuncData
  k_is_home : Addr
  P_is_home : Addr
  F_is_home : GE.FunC K "is_home" "is_home" s_is_home f_is_home d_is_home k_is_home
  g_is_home : mg "is_home" = some (.ref f_is_home)
  b_is_home : Binds K d_is_home ["thing"] []
  f_is_name : Addr
  d_is_name : FuncData
  k_is_name : Addr
  P_is_name : Addr
  F_is_name : GE.FunC K "is_name" "is_name" s_is_name f_is_name d_is_name k_is_name
  g_is_name : mg "is_name" = some (.ref f_is_name)
  b_is_name : Binds K d_is_name ["thing"] []
  f_fits : Addr
  d_fits : FuncData
  F_fits : Fun K "fits" "fits" s_fits f_fits d_fits
  g_fits : mg "fits" = some (.ref f_fits)
  b_fits : Binds K d_fits ["form", "thing"] []
  f_has_form : Addr
  d_has_form : FuncData
  k_has_form : Addr
  P_has_form : Addr
  F_has_form : GE.FunC K "has_form" "has_form" s_has_form f_has_form d_has_form k_has_form
  g_has_form : mg "has_form" = some (.ref f_has_form)
  b_has_form : Binds K d_has_form ["thing"] []
  f_is_page : Addr
  d_is_page : FuncData
  F_is_page : Fun K "is_page" "is_page" s_is_page f_is_page d_is_page
  g_is_page : mg "is_page" = some (.ref f_is_page)
  b_is_page : Binds K d_is_page ["thing"] []
  f_page_day : Addr
  d_page_day : FuncData
  F_page_day : Fun K "page_day" "page_day" s_page_day f_page_day d_page_day
  g_page_day : mg "page_day" = some (.ref f_page_day)
  b_page_day : Binds K d_page_day ["page"] []
  f_page_kind : Addr
  d_page_kind : FuncData
  F_page_kind : Fun K "page_kind" "page_kind" s_page_kind f_page_kind d_page_kind
  g_page_kind : mg "page_kind" = some (.ref f_page_kind)
  b_page_kind : Binds K d_page_kind ["page"] []
  f_names_of : Addr
  d_names_of : FuncData
  k_names_of : Addr
  P_names_of : Addr
  F_names_of : GE.FunC K "names_of" "names_of" s_names_of f_names_of d_names_of k_names_of
  g_names_of : mg "names_of" = some (.ref f_names_of)
  b_names_of : Binds K d_names_of ["page"] []
  f_page_place : Addr
  d_page_place : FuncData
  F_page_place : Fun K "page_place" "page_place" s_page_place f_page_place d_page_place
  g_page_place : mg "page_place" = some (.ref f_page_place)
  b_page_place : Binds K d_page_place ["page"] []
  f_stands_ahead : Addr
  d_stands_ahead : FuncData
  F_stands_ahead : Fun K "stands_ahead" "stands_ahead" s_stands_ahead f_stands_ahead d_stands_ahead
  g_stands_ahead : mg "stands_ahead" = some (.ref f_stands_ahead)
  b_stands_ahead : Binds K d_stands_ahead ["one", "other"] []
  f_is_book : Addr
  d_is_book : FuncData
  k_is_book : Addr
  P_is_book : Addr
  F_is_book : GE.FunC K "is_book" "is_book" s_is_book f_is_book d_is_book k_is_book
  g_is_book : mg "is_book" = some (.ref f_is_book)
  b_is_book : Binds K d_is_book ["thing"] []
  f_w_tap : Addr
  d_w_tap : FuncData
  F_w_tap : Fun K "_law_tap" "_law_tap" s_w_tap f_w_tap d_w_tap
  g_w_tap : mg "_law_tap" = some (.ref f_w_tap)
  b_w_tap : Binds K d_w_tap ["_law_script"] []
  f_w_take : Addr
  d_w_take : FuncData
  F_w_take : Fun K "_law_take" "_law_take" s_w_take f_w_take d_w_take
  g_w_take : mg "_law_take" = some (.ref f_w_take)
  b_w_take : Binds K d_w_take ["_law_tap_here", "_law_many"] []
  f_w_home : Addr
  d_w_home : FuncData
  F_w_home : Fun K "_law_home" "_law_home" s_w_home f_w_home d_w_home
  g_w_home : mg "_law_home" = some (.ref f_w_home)
  b_w_home : Binds K d_w_home ["_law_tap_here"] []
  f_w_names : Addr
  d_w_names : FuncData
  F_w_names : Fun K "_law_names" "_law_names" s_w_names f_w_names d_w_names
  g_w_names : mg "_law_names" = some (.ref f_w_names)
  b_w_names : Binds K d_w_names ["_law_tap_here", "_law_many"] []
  f_w_page : Addr
  d_w_page : FuncData
  F_w_page : Fun K "_law_page" "_law_page" s_w_page f_w_page d_w_page
  g_w_page : mg "_law_page" = some (.ref f_w_page)
  b_w_page : Binds K d_w_page ["_law_tap_here", "_law_names_here", "_law_day"] []
  f_w_base : Addr
  d_w_base : FuncData
  F_w_base : Fun K "_law_base" "_law_base" s_w_base f_w_base d_w_base
  g_w_base : mg "_law_base" = some (.ref f_w_base)
  b_w_base : Binds K d_w_base ["_law_tap_here"] []
  f_w_story : Addr
  d_w_story : FuncData
  F_w_story : Fun K "_law_story" "_law_story" s_w_story f_w_story d_w_story
  g_w_story : mg "_law_story" = some (.ref f_w_story)
  b_w_story : Binds K d_w_story ["_law_tap_here"] []
  f_w_rank : Addr
  d_w_rank : FuncData
  F_w_rank : Fun K "_law_rank" "_law_rank" s_w_rank f_w_rank d_w_rank
  g_w_rank : mg "_law_rank" = some (.ref f_w_rank)
  b_w_rank : Binds K d_w_rank ["_law_page_here"] []
  f_w_book : Addr
  d_w_book : FuncData
  F_w_book : Fun K "_law_book" "_law_book" s_w_book f_w_book d_w_book
  g_w_book : mg "_law_book" = some (.ref f_w_book)
  b_w_book : Binds K d_w_book ["_law_some"] []
  f_w_bent : Addr
  d_w_bent : FuncData
  F_w_bent : Fun K "_law_bent" "_law_bent" s_w_bent f_w_bent d_w_bent
  g_w_bent : mg "_law_bent" = some (.ref f_w_bent)
  b_w_bent : Binds K d_w_bent ["_law_tap_here", "_law_book_here"] []
  f_w_is_number : Addr
  d_w_is_number : FuncData
  F_w_is_number : Fun K "_law_is_number" "_law_is_number" s_w_is_number f_w_is_number d_w_is_number
  g_w_is_number : mg "_law_is_number" = some (.ref f_w_is_number)
  b_w_is_number : Binds K d_w_is_number ["_law_thing", "_law_low", "_law_most"] []
  f_w_is_name : Addr
  d_w_is_name : FuncData
  F_w_is_name : Fun K "_law_is_name" "_law_is_name" s_w_is_name f_w_is_name d_w_is_name
  g_w_is_name : mg "_law_is_name" = some (.ref f_w_is_name)
  b_w_is_name : Binds K d_w_is_name ["_law_thing"] []
  f_w_is_home : Addr
  d_w_is_home : FuncData
  F_w_is_home : Fun K "_law_is_home" "_law_is_home" s_w_is_home f_w_is_home d_w_is_home
  g_w_is_home : mg "_law_is_home" = some (.ref f_w_is_home)
  b_w_is_home : Binds K d_w_is_home ["_law_thing"] []
  f_w_is_page : Addr
  d_w_is_page : FuncData
  F_w_is_page : Fun K "_law_is_page" "_law_is_page" s_w_is_page f_w_is_page d_w_is_page
  g_w_is_page : mg "_law_is_page" = some (.ref f_w_is_page)
  b_w_is_page : Binds K d_w_is_page ["_law_thing"] []
  f_w_is_book : Addr
  d_w_is_book : FuncData
  F_w_is_book : Fun K "_law_is_book" "_law_is_book" s_w_is_book f_w_is_book d_w_is_book
  g_w_is_book : mg "_law_is_book" = some (.ref f_w_is_book)
  b_w_is_book : Binds K d_w_is_book ["_law_thing"] []
  f_law : Addr
  d_law : FuncData
  F_law : Fun K "law" "law" s_law f_law d_law
  g_law : mg "law" = some (.ref f_law)
  b_law : Binds K d_law ["_law_script"] []
  t_WEEK : Tok
  c_WEEK : mg "WEEK" = some (.int 7 t_WEEK)
  t_LAST_DAY : Tok
  c_LAST_DAY : mg "LAST_DAY" = some (.int 9999 t_LAST_DAY)
  t_LONGEST_NAME : Tok
  c_LONGEST_NAME : mg "LONGEST_NAME" = some (.int 8 t_LONGEST_NAME)
  a_KINDS : Addr
  c_KINDS : mg "KINDS" = some (.ref a_KINDS)
  w_KINDS : KT K a_KINDS [.str "house", .str "part", .str "join", .str "home", .str "mourn", .str "ahead", .str "card", .str "visit"]
  wn_KINDS : ∃ o, K.lookup a_KINDS = some o ∧ o.cls = .type "tuple" ∧ o.dict = none
  a_FORMS : Addr
  c_FORMS : mg "FORMS" = some (.ref a_FORMS)
  w_FORMS_house : ∃ r, KDct K w a_FORMS "house" (.ref r) ∧ KT K r [.str "name", .str "home"]
  w_FORMS_part : ∃ r, KDct K w a_FORMS "part" (.ref r) ∧ KT K r [.str "name", .str "name", .str "home"]
  w_FORMS_join : ∃ r, KDct K w a_FORMS "join" (.ref r) ∧ KT K r [.str "name", .str "name"]
  w_FORMS_home : ∃ r, KDct K w a_FORMS "home" (.ref r) ∧ KT K r [.str "name", .str "home"]
  w_FORMS_mourn : ∃ r, KDct K w a_FORMS "mourn" (.ref r) ∧ KT K r [.str "name", .str "many"]
  w_FORMS_ahead : ∃ r, KDct K w a_FORMS "ahead" (.ref r) ∧ KT K r [.str "name", .str "name"]
  w_FORMS_card : ∃ r, KDct K w a_FORMS "card" (.ref r) ∧ KT K r [.str "name", .str "name"]
  w_FORMS_visit : ∃ r, KDct K w a_FORMS "visit" (.ref r) ∧ KT K r [.str "name", .str "name"]
  t_LONGEST_MOURNING : Tok
  c_LONGEST_MOURNING : mg "LONGEST_MOURNING" = some (.int 60 t_LONGEST_MOURNING)
  m_all : mg "all" = none
  m_bool : mg "bool" = none
  m_int : mg "int" = none
  m_isinstance : mg "isinstance" = none
  m_len : mg "len" = none
  m_list : mg "list" = none
  m_min : mg "min" = none
  m_range : mg "range" = none
  m_repr : mg "repr" = none
  m_sorted : mg "sorted" = none
  m_str : mg "str" = none
  m_tuple : mg "tuple" = none
  m_zip : mg "zip" = none
structure Tb {K : PySem.W.Frag} {mg : Str → Option Value} {w : World} (T : Tx K mg w) (base : Heap) : Prop where
  b_is_rising : GxR.TabB base mg T.k_is_rising T.P_is_rising
  b_is_home : GxR.TabB base mg T.k_is_home T.P_is_home
  b_is_name : GxR.TabB base mg T.k_is_name T.P_is_name
  b_has_form : GxR.TabB base mg T.k_has_form T.P_has_form
  b_names_of : GxR.TabB base mg T.k_names_of T.P_names_of
  b_is_book : GxR.TabB base mg T.k_is_book T.P_is_book
/-- the tables of the codes that have some -/
def tbs {K : PySem.W.Frag} {mg : Str → Option Value} {w : World} (T : Tx K mg w) : List Addr := [T.P_is_rising, T.P_is_home, T.P_is_name, T.P_has_form, T.P_names_of, T.P_is_book]
section
variable {P : Program} {w : World} {K : PySem.W.Frag} {mg : Str → Option Value} {base : Heap}
theorem ok_tap (T : Tx K mg w) : FnOk P w K mg base CX0 1 T.f_w_tap T.d_w_tap ["_law_script"] (spTap K) := by
  refine T.F_w_tap.ok S_w_tap (fun vs H Q E h => ?_) (fun cdv A outer s H vs Q E hr h => ?_)
  · obtain ⟨a, ns, rfl, _⟩ := h
    rfl
  · obtain ⟨a, ns, rfl, hS, q⟩ := h
    refine ⟨_, (pss_one (ps_ret (pe_disp (pps_cons pe_str (pe_callTy call_list_of (by rfl) T.m_list (by decide +kernel) (pa_cons (pe_slice sl_list (pv 0) po_none (po_some pe_int)) pa_nil)) (pps_cons pe_str pe_int (pps_cons pe_str pe_int (pps_cons pe_str pe_int pps_nil)))) (by rfl) (by rfl) (fun z => by cases z) (by decide)))), ?_⟩
    intro t nt
    have s1 := same_upd (o := .dK []) nt
    refine ⟨.ref a, rfl, 63, rfl, a, _, rfl, s1.seq hS, fun p np => ?_⟩
    have s2 := same_upd (o := .lst (cutV (ns.map V.int) none (some 63))) np
    refine ⟨p, _, rfl, .inl (.inl (.inl upd_same)), fun c nc => ?_⟩
    have s3 := same_upd (o := .lst (cutV (ns.map V.int) none (some 63))) nc
    have ht := s3 _ _ (s2 _ _ (upd_same (H := H) (a := t) (o := .dK [])))
    refine ⟨ht, kt (.ref c) (.int 0) (.int 0) (.int 0), rfl, by show 4 ≤ 15; decide, ?_⟩
    refine q t _ (fun b o e => ?_) nt ?_
    · rw [upd_ne (ne_of_none e nt)]
      exact s3 _ _ (s2 _ _ (s1 _ _ e))
    · have hct : c ≠ t := fun z => by
        rw [z, s2 _ _ (upd_same (H := H) (a := t) (o := .dK []))] at nc
        cases nc
      refine ⟨c, ns.take 63, 0, 0, 0, upd_same, ?_, ?_, by decide, by decide, by decide, by decide⟩
      · rw [upd_ne hct, upd_same]
        congr 2
        unfold cutV
        rw [HT.sIx_none, show HT.sIx (ns.map V.int).length (ns.map V.int).length (some 63) = min 63 (ns.map V.int).length from HT.sIx_nat _ _ 63]
        simp only [List.drop_zero, Nat.sub_zero, List.length_map, ← List.map_take]
        congr 1
        rw [← List.take_take]
        simp
      · rw [List.length_take]
        omega
theorem ok_take (T : Tx K mg w) : FnOk P w K mg base CX0 1 T.f_w_take T.d_w_take ["_law_tap_here", "_law_many"] (spTake) := by
  refine T.F_w_take.ok S_w_take (fun vs H Q E h => ?_) (fun cdv A outer s H vs Q E hr h => ?_)
  · obtain ⟨t, m, n, rfl, _⟩ := h
    rfl
  · obtain ⟨t, m, n, rfl, m0, m1, ⟨c, ns, sp, re, ca, hT, hC, hn, sp0, re0, ca0, ca1⟩, n1, q⟩ := h
    have hct : c ≠ t := fun z => by
      rw [z, hT] at hC
      cases hC
    refine ⟨_, (pss_cons (ps_set (i := 2) S_w_take.nd rfl (.inl rfl) (pe_op op_add (pe_dget (hu_of hr) (pv 0) pe_str (fun _ _ => rfl)) pe_int))
      (pss_cons (ps_dput (hu_of hr) (pv 0) pe_str (pv 2) rfl)
      (pss_cons (ps_if (pt_cmpR op_gt (pe_dget (hu_of hr) (pv 0) pe_str (fun _ _ => rfl)) pe_int (nomark _)) (pss_cons (ps_set (i := 3) S_w_take.nd rfl (.inl rfl) (pe_op op_mod (pe_dget (hu_of hr) (pv 0) pe_str (fun _ _ => rfl)) (pv 1)))
      (pss_cons (ps_dput (hu_of hr) (pv 0) pe_str (pe_op op_fdiv (pe_dget (hu_of hr) (pv 0) pe_str (fun _ _ => rfl)) (pv 1)) rfl)
      (pss_one (ps_ret (pv 3))))) pss_nil)
      (pss_cons (ps_set (i := 4) S_w_take.nd rfl (.inl rfl) (pe_dget (hu_of hr) (pv 0) pe_str (fun _ _ => rfl)))
      (pss_cons (ps_dput (hu_of hr) (pv 0) pe_str (pe_op op_add (pv 4) pe_int) rfl)
      (pss_cons (ps_set (i := 5) S_w_take.nd rfl (.inl rfl) (pe_dget (hu_of hr) (pv 0) pe_str (fun _ _ => rfl)))
      (pss_cons (ps_set (i := 6) S_w_take.nd rfl (.inl rfl) (pe_ifExp (pt_cmpR op_gt (pe_callB call_len_seq (by rfl) T.m_len PySem.boot_len (pa_cons (pv 5) pa_nil)) pe_int (nomark _)) (pe_ix ix_list (pv 5) (pe_op op_mod (pv 4) (pe_callB call_len_seq (by rfl) T.m_len PySem.boot_len (pa_cons (pv 5) pa_nil))) (fun _ _ => rfl)) pe_int))
      (pss_cons (ps_if (PW.pt (pw_and (pt_cmpR op_lt (pv 4) (pe_callB call_len_seq (by rfl) T.m_len PySem.boot_len (pa_cons (pv 5) pa_nil)) (nomark _)) (pw_and1 (pt_cmpR op_ge (pv 6) (pe_op op_pow pe_int pe_int) (nomark _))))) (pss_cons (ps_dput (hu_of hr) (pv 0) pe_str (pe_op op_fdiv (pv 6) (pv 1)) rfl)
      (pss_one (ps_ret (pe_op op_mod (pv 6) (pv 1))))) pss_nil)
      (pss_cons (ps_set (i := 7) S_w_take.nd rfl (.inl rfl) (pe_op op_mod (pe_op op_pow (pe_op op_add (pe_op op_add (pe_op op_mod (pv 6) pe_int) (pe_op op_mul pe_int (pv 2))) pe_int) pe_int) pe_int))
      (pss_one (ps_ret (pe_op op_mod (pe_op op_fdiv (pe_op op_mod (pe_op op_pow (pe_op op_add (pv 7) (pe_op op_mul (pe_op op_mul pe_int (pv 2)) (pv 2))) pe_int) pe_int) pe_int) (pv 1))))))))))))), ?_⟩
    refine ⟨.ref t, rfl, t, _, rfl, g_calls hT, ca, 1, rfl, rfl, ?_⟩
    refine ⟨_, rfl, .ref t, rfl, t, _, rfl, p_calls hT, ?_⟩
    have hT1 := upd_same (H := H) (a := t) (o := .dK (kt (.ref c) (.int sp) (.int re) (.int (ca + 1))))
    have hC1 : upd H t (.dK (kt (.ref c) (.int sp) (.int re) (.int (ca + 1)))) c = some (.lst (ns.map V.int)) := by
      rw [upd_ne hct]
      exact hC
    have hK1 : Kp t H (upd H t (.dK (kt (.ref c) (.int sp) (.int re) (.int (ca + 1))))) := (Kp.refl t H).own
    generalize upd H t (.dK (kt (.ref c) (.int sp) (.int re) (.int (ca + 1)))) = H1 at hT1 hC1 hK1 ⊢
    refine ⟨.ref t, rfl, t, _, rfl, g_rest hT1, re, 0, rfl, rfl, _, rfl, ite2 (fun e => ?_) (fun e => ?_)⟩
    · have e : re > 0 := of_decide_eq_true e
      refine ⟨.ref t, rfl, t, _, rfl, g_rest hT1, _, rfl, re, m, rfl, rfl, m0, ?_⟩
      refine ⟨.ref t, rfl, t, _, rfl, g_rest hT1, _, rfl, re, m, rfl, rfl, ⟨m0, by omega⟩, .ref t, rfl, t, _, rfl, p_rest hT1, ?_⟩
      refine ⟨_, rfl, ?_⟩
      refine q _ _ (Int.emod_nonneg _ (by omega)) (Int.emod_lt_of_pos _ m0) ⟨c, ns, sp, re / m, ca + 1, upd_same, ?_, hn, sp0, Int.ediv_nonneg re0 (by omega), by omega, by omega⟩ hK1.own
      rw [upd_ne hct]
      exact hC1
    · refine ⟨.ref t, rfl, t, _, rfl, g_spot hT1, ?_⟩
      refine ⟨_, rfl, _, _, rfl, rfl, .ref t, rfl, t, _, rfl, p_spot hT1, ?_⟩
      have hT2 := upd_same (H := H1) (a := t) (o := .dK (kt (.ref c) (.int (sp + 1)) (.int re) (.int (ca + 1))))
      have hC2 : upd H1 t (.dK (kt (.ref c) (.int (sp + 1)) (.int re) (.int (ca + 1)))) c = some (.lst (ns.map V.int)) := by
        rw [upd_ne hct]
        exact hC1
      have hK2 : Kp t H (upd H1 t (.dK (kt (.ref c) (.int (sp + 1)) (.int re) (.int (ca + 1))))) := hK1.own
      generalize upd H1 t (.dK (kt (.ref c) (.int (sp + 1)) (.int re) (.int (ca + 1)))) = H2 at hT2 hC2 hK2 ⊢
      refine ⟨.ref t, rfl, t, _, rfl, g_cells hT2, ?_⟩
      refine ⟨_, rfl, c, _, rfl, .inl (.inl (.inl hC2)), _, _, rfl, rfl, _, rfl, ite2 (fun e2 => ?a) (fun e2 => ?b)⟩
      case' a =>
        have e2 : ((ns.map V.int).length : Int) > 0 := of_decide_eq_true e2
        rw [List.length_map] at e2
        have b0 : 0 ≤ sp % (ns.length : Int) := Int.emod_nonneg _ (by omega)
        have b1 : sp % (ns.length : Int) < ns.length := Int.emod_lt_of_pos _ (by omega)
        have bn : (sp % (ns.length : Int)).toNat < ns.length := by omega
        refine ⟨_, rfl, _, rfl, _, rfl, c, _, rfl, .inl (.inl (.inl hC2)), _, _, rfl, rfl, (by rw [List.length_map]; exact e2), c, _, _, .int (ns[(sp % (ns.length : Int)).toNat]), rfl, rfl, .inl (.inl hC2), (by
          rw [List.length_map]
          refine at_of (j := (sp % (ns.length : Int)).toNat) (by omega) ?_
          rw [List.getElem?_map, List.getElem?_eq_getElem bn]
          rfl), ?_⟩
        generalize ns[(sp % (ns.length : Int)).toNat] = cell
      all_goals refine ⟨_, rfl, _, rfl, c, _, rfl, .inl (.inl (.inl hC2)), _, _, rfl, rfl, _, rfl, ite2 (fun e3 => ?_) (fun e3 => iteF ?_)⟩
      any_goals refine ⟨_, rfl, _, _, rfl, rfl, ⟨by decide, by decide, by decide⟩, _, _, rfl, rfl, _, rfl, ite2 (fun e4 => ?_) (fun e4 => ?_)⟩
      any_goals
        refine ⟨_, rfl, _, rfl, _, m, rfl, rfl, ⟨m0, by omega⟩, .ref t, rfl, t, _, rfl, p_rest hT2, ?_⟩
        refine ⟨_, rfl, _, rfl, _, m, rfl, rfl, m0, ?_⟩
        refine q _ _ (Int.emod_nonneg _ (by omega)) (Int.emod_lt_of_pos _ m0) ⟨c, ns, sp + 1, _, ca + 1, upd_same, (by rw [upd_ne hct]; exact hC2), hn, by omega, Int.ediv_nonneg ?_ (by omega), by omega, by omega⟩ hK2.own
        have e4 := of_decide_eq_true e4
        exact Int.le_trans (by decide) e4
      all_goals
        refine ⟨_, rfl, _, _, rfl, rfl, (by decide : (0 : Int) < 2147483629), _, rfl, _, _, rfl, rfl, .inl ⟨by decide, by decide⟩, _, _, rfl, rfl, _, _, rfl, rfl, _, _, rfl, rfl, pow5 _ (by omega) (by omega), _, _, rfl, rfl, (by decide : (0 : Int) < 2147483647), ?_⟩
        refine ⟨_, rfl, _, rfl, _, _, rfl, rfl, .inl ⟨by decide, by decide⟩, _, rfl, _, _, rfl, rfl, .inr ⟨by omega, by omega⟩, _, _, rfl, rfl, _, _, rfl, rfl, pow5b _ _ (by omega) (by omega), _, _, rfl, rfl, (by decide : (0 : Int) < 2147483587), _, _, rfl, rfl, ⟨by decide, by decide⟩, _, rfl, _, m, rfl, rfl, m0, ?_⟩
        exact q _ _ (Int.emod_nonneg _ (by omega)) (Int.emod_lt_of_pos _ m0) ⟨c, ns, sp + 1, re, ca + 1, hT2, hC2, hn, by omega, re0, by omega, by omega⟩ hK2


/-- the tap, its cells' list named -/
def TapC (H : Hp) (t c : Addr) (n : Nat) : Prop := ∃ (ns : List Int) (sp re ca : Int),
  H t = some (.dK (kt (.ref c) (.int sp) (.int re) (.int ca))) ∧ H c = some (.lst (ns.map V.int)) ∧ ns.length ≤ 63 ∧ 0 ≤ sp ∧ 0 ≤ re ∧ 0 ≤ ca ∧ ca ≤ n
theorem TapC.tap {H : Hp} {t c : Addr} {n : Nat} (h : TapC H t c n) : Tap H t n := let ⟨ns, sp, re, ca, r⟩ := h; ⟨c, ns, sp, re, ca, r⟩
theorem tapC_of {H : Hp} {t : Addr} {n : Nat} (h : Tap H t n) : ∃ c, TapC H t c n := let ⟨c, ns, sp, re, ca, r⟩ := h; ⟨c, ns, sp, re, ca, r⟩
def spTakeC : Sp := fun vs H Q _ => ∃ (t : Addr) (m : Int) (n : Nat) (c : Addr), vs = [.ref t, .int m] ∧ 0 < m ∧ m < 1000000 ∧ TapC H t c n ∧ n < 1000000 ∧
  ∀ v H', 0 ≤ v → v < m → TapC H' t c (n + 1) → Kp t H H' → Q (.int v) H'
theorem TapC.upd {H : Hp} {t c b : Addr} {n : Nat} {o : HO} (h : TapC H t c n) (h1 : b ≠ t) (h2 : b ≠ c) : TapC (upd H b o) t c n := by
  obtain ⟨ns, sp, re, ca, e1, e2, r⟩ := h
  exact ⟨ns, sp, re, ca, by rw [upd_ne h1.symm]; exact e1, by rw [upd_ne h2.symm]; exact e2, r⟩
theorem kp_fresh {H H1 : Hp} {t p : Addr} {o : HO} (hp : H p = none) (k : Kp t H H1) : Kp t H (upd H1 p o) := fun b x n h => by
  rw [upd_ne (ne_of_none h hp)]
  exact k b x n h
theorem ok_takeC (T : Tx K mg w) : FnOk P w K mg base CX0 1 T.f_w_take T.d_w_take ["_law_tap_here", "_law_many"] (spTakeC) := by
  refine T.F_w_take.ok S_w_take (fun vs H Q E h => ?_) (fun cdv A outer s H vs Q E hr h => ?_)
  · obtain ⟨t, m, n, c, rfl, _⟩ := h
    rfl
  · obtain ⟨t, m, n, c, rfl, m0, m1, ⟨ns, sp, re, ca, hT, hC, hn, sp0, re0, ca0, ca1⟩, n1, q⟩ := h
    have hct : c ≠ t := fun z => by
      rw [z, hT] at hC
      cases hC
    refine ⟨_, (pss_cons (ps_set (i := 2) S_w_take.nd rfl (.inl rfl) (pe_op op_add (pe_dget (hu_of hr) (pv 0) pe_str (fun _ _ => rfl)) pe_int))
      (pss_cons (ps_dput (hu_of hr) (pv 0) pe_str (pv 2) rfl)
      (pss_cons (ps_if (pt_cmpR op_gt (pe_dget (hu_of hr) (pv 0) pe_str (fun _ _ => rfl)) pe_int (nomark _)) (pss_cons (ps_set (i := 3) S_w_take.nd rfl (.inl rfl) (pe_op op_mod (pe_dget (hu_of hr) (pv 0) pe_str (fun _ _ => rfl)) (pv 1)))
      (pss_cons (ps_dput (hu_of hr) (pv 0) pe_str (pe_op op_fdiv (pe_dget (hu_of hr) (pv 0) pe_str (fun _ _ => rfl)) (pv 1)) rfl)
      (pss_one (ps_ret (pv 3))))) pss_nil)
      (pss_cons (ps_set (i := 4) S_w_take.nd rfl (.inl rfl) (pe_dget (hu_of hr) (pv 0) pe_str (fun _ _ => rfl)))
      (pss_cons (ps_dput (hu_of hr) (pv 0) pe_str (pe_op op_add (pv 4) pe_int) rfl)
      (pss_cons (ps_set (i := 5) S_w_take.nd rfl (.inl rfl) (pe_dget (hu_of hr) (pv 0) pe_str (fun _ _ => rfl)))
      (pss_cons (ps_set (i := 6) S_w_take.nd rfl (.inl rfl) (pe_ifExp (pt_cmpR op_gt (pe_callB call_len_seq (by rfl) T.m_len PySem.boot_len (pa_cons (pv 5) pa_nil)) pe_int (nomark _)) (pe_ix ix_list (pv 5) (pe_op op_mod (pv 4) (pe_callB call_len_seq (by rfl) T.m_len PySem.boot_len (pa_cons (pv 5) pa_nil))) (fun _ _ => rfl)) pe_int))
      (pss_cons (ps_if (PW.pt (pw_and (pt_cmpR op_lt (pv 4) (pe_callB call_len_seq (by rfl) T.m_len PySem.boot_len (pa_cons (pv 5) pa_nil)) (nomark _)) (pw_and1 (pt_cmpR op_ge (pv 6) (pe_op op_pow pe_int pe_int) (nomark _))))) (pss_cons (ps_dput (hu_of hr) (pv 0) pe_str (pe_op op_fdiv (pv 6) (pv 1)) rfl)
      (pss_one (ps_ret (pe_op op_mod (pv 6) (pv 1))))) pss_nil)
      (pss_cons (ps_set (i := 7) S_w_take.nd rfl (.inl rfl) (pe_op op_mod (pe_op op_pow (pe_op op_add (pe_op op_add (pe_op op_mod (pv 6) pe_int) (pe_op op_mul pe_int (pv 2))) pe_int) pe_int) pe_int))
      (pss_one (ps_ret (pe_op op_mod (pe_op op_fdiv (pe_op op_mod (pe_op op_pow (pe_op op_add (pv 7) (pe_op op_mul (pe_op op_mul pe_int (pv 2)) (pv 2))) pe_int) pe_int) pe_int) (pv 1))))))))))))), ?_⟩
    refine ⟨.ref t, rfl, t, _, rfl, g_calls hT, ca, 1, rfl, rfl, ?_⟩
    refine ⟨_, rfl, .ref t, rfl, t, _, rfl, p_calls hT, ?_⟩
    have hT1 := upd_same (H := H) (a := t) (o := .dK (kt (.ref c) (.int sp) (.int re) (.int (ca + 1))))
    have hC1 : upd H t (.dK (kt (.ref c) (.int sp) (.int re) (.int (ca + 1)))) c = some (.lst (ns.map V.int)) := by
      rw [upd_ne hct]
      exact hC
    have hK1 : Kp t H (upd H t (.dK (kt (.ref c) (.int sp) (.int re) (.int (ca + 1))))) := (Kp.refl t H).own
    generalize upd H t (.dK (kt (.ref c) (.int sp) (.int re) (.int (ca + 1)))) = H1 at hT1 hC1 hK1 ⊢
    refine ⟨.ref t, rfl, t, _, rfl, g_rest hT1, re, 0, rfl, rfl, _, rfl, ite2 (fun e => ?_) (fun e => ?_)⟩
    · have e : re > 0 := of_decide_eq_true e
      refine ⟨.ref t, rfl, t, _, rfl, g_rest hT1, _, rfl, re, m, rfl, rfl, m0, ?_⟩
      refine ⟨.ref t, rfl, t, _, rfl, g_rest hT1, _, rfl, re, m, rfl, rfl, ⟨m0, by omega⟩, .ref t, rfl, t, _, rfl, p_rest hT1, ?_⟩
      refine ⟨_, rfl, ?_⟩
      refine q _ _ (Int.emod_nonneg _ (by omega)) (Int.emod_lt_of_pos _ m0) ⟨ns, sp, re / m, ca + 1, upd_same, ?_, hn, sp0, Int.ediv_nonneg re0 (by omega), by omega, by omega⟩ hK1.own
      rw [upd_ne hct]
      exact hC1
    · refine ⟨.ref t, rfl, t, _, rfl, g_spot hT1, ?_⟩
      refine ⟨_, rfl, _, _, rfl, rfl, .ref t, rfl, t, _, rfl, p_spot hT1, ?_⟩
      have hT2 := upd_same (H := H1) (a := t) (o := .dK (kt (.ref c) (.int (sp + 1)) (.int re) (.int (ca + 1))))
      have hC2 : upd H1 t (.dK (kt (.ref c) (.int (sp + 1)) (.int re) (.int (ca + 1)))) c = some (.lst (ns.map V.int)) := by
        rw [upd_ne hct]
        exact hC1
      have hK2 : Kp t H (upd H1 t (.dK (kt (.ref c) (.int (sp + 1)) (.int re) (.int (ca + 1))))) := hK1.own
      generalize upd H1 t (.dK (kt (.ref c) (.int (sp + 1)) (.int re) (.int (ca + 1)))) = H2 at hT2 hC2 hK2 ⊢
      refine ⟨.ref t, rfl, t, _, rfl, g_cells hT2, ?_⟩
      refine ⟨_, rfl, c, _, rfl, .inl (.inl (.inl hC2)), _, _, rfl, rfl, _, rfl, ite2 (fun e2 => ?a) (fun e2 => ?b)⟩
      case' a =>
        have e2 : ((ns.map V.int).length : Int) > 0 := of_decide_eq_true e2
        rw [List.length_map] at e2
        have b0 : 0 ≤ sp % (ns.length : Int) := Int.emod_nonneg _ (by omega)
        have b1 : sp % (ns.length : Int) < ns.length := Int.emod_lt_of_pos _ (by omega)
        have bn : (sp % (ns.length : Int)).toNat < ns.length := by omega
        refine ⟨_, rfl, _, rfl, _, rfl, c, _, rfl, .inl (.inl (.inl hC2)), _, _, rfl, rfl, (by rw [List.length_map]; exact e2), c, _, _, .int (ns[(sp % (ns.length : Int)).toNat]), rfl, rfl, .inl (.inl hC2), (by
          rw [List.length_map]
          refine at_of (j := (sp % (ns.length : Int)).toNat) (by omega) ?_
          rw [List.getElem?_map, List.getElem?_eq_getElem bn]
          rfl), ?_⟩
        generalize ns[(sp % (ns.length : Int)).toNat] = cell
      all_goals refine ⟨_, rfl, _, rfl, c, _, rfl, .inl (.inl (.inl hC2)), _, _, rfl, rfl, _, rfl, ite2 (fun e3 => ?_) (fun e3 => iteF ?_)⟩
      any_goals refine ⟨_, rfl, _, _, rfl, rfl, ⟨by decide, by decide, by decide⟩, _, _, rfl, rfl, _, rfl, ite2 (fun e4 => ?_) (fun e4 => ?_)⟩
      any_goals
        refine ⟨_, rfl, _, rfl, _, m, rfl, rfl, ⟨m0, by omega⟩, .ref t, rfl, t, _, rfl, p_rest hT2, ?_⟩
        refine ⟨_, rfl, _, rfl, _, m, rfl, rfl, m0, ?_⟩
        refine q _ _ (Int.emod_nonneg _ (by omega)) (Int.emod_lt_of_pos _ m0) ⟨ns, sp + 1, _, ca + 1, upd_same, (by rw [upd_ne hct]; exact hC2), hn, by omega, Int.ediv_nonneg ?_ (by omega), by omega, by omega⟩ hK2.own
        have e4 := of_decide_eq_true e4
        exact Int.le_trans (by decide) e4
      all_goals
        refine ⟨_, rfl, _, _, rfl, rfl, (by decide : (0 : Int) < 2147483629), _, rfl, _, _, rfl, rfl, .inl ⟨by decide, by decide⟩, _, _, rfl, rfl, _, _, rfl, rfl, _, _, rfl, rfl, pow5 _ (by omega) (by omega), _, _, rfl, rfl, (by decide : (0 : Int) < 2147483647), ?_⟩
        refine ⟨_, rfl, _, rfl, _, _, rfl, rfl, .inl ⟨by decide, by decide⟩, _, rfl, _, _, rfl, rfl, .inr ⟨by omega, by omega⟩, _, _, rfl, rfl, _, _, rfl, rfl, pow5b _ _ (by omega) (by omega), _, _, rfl, rfl, (by decide : (0 : Int) < 2147483587), _, _, rfl, rfl, ⟨by decide, by decide⟩, _, rfl, _, m, rfl, rfl, m0, ?_⟩
        exact q _ _ (Int.emod_nonneg _ (by omega)) (Int.emod_lt_of_pos _ m0) ⟨ns, sp + 1, re, ca + 1, hT2, hC2, hn, by omega, re0, by omega, by omega⟩ hK2

/-- a word of one to eight small letters -/
def Wd (z : Str) : Prop := z.length ≤ 8 ∧ ∀ c ∈ z.cps.toList, 97 ≤ c ∧ c ≤ 122
def pool : List Str := ["a", "ab", "abc", "b", "ba", "aa", "z", "za", "house", "part", "join", "home", "mourn", "ahead", "card", "visit", "houses", "abcdefgh", "abcdefgi", "bbbbbbbb", "homes", "par"]
theorem pool_ok : ∀ z ∈ pool, Wd z := by
  unfold Wd
  decide +kernel
theorem occ {c : Nat} (h : 97 ≤ c ∧ c ≤ 122) : ∃ i rest, Builtin.Str.occurrences "abcdefghijklmnopqrstuvwxyz" ⟨#[c]⟩ 0 (Str.ofString "abcdefghijklmnopqrstuvwxyz").length 1 = i :: rest := by
  obtain ⟨k, hk, rfl⟩ : ∃ k : Nat, k < 26 ∧ c = 97 + k := ⟨c - 97, by omega, by omega⟩
  have key : ∀ k : Fin 26, (Builtin.Str.occurrences "abcdefghijklmnopqrstuvwxyz" ⟨#[97 + k.val]⟩ 0 (Str.ofString "abcdefghijklmnopqrstuvwxyz").length 1).length = 1 := by decide +kernel
  have := key ⟨k, hk⟩
  cases e : Builtin.Str.occurrences "abcdefghijklmnopqrstuvwxyz" ⟨#[97 + k]⟩ 0 (Str.ofString "abcdefghijklmnopqrstuvwxyz").length 1 with
  | nil => rw [e] at this; cases this
  | cons i r => exact ⟨i, r, rfl⟩

theorem Wd.plain {z : Str} (h : Wd z) : Plain z := ⟨by have := h.1; omega, fun c hc => by have := h.2 c hc; omega⟩
theorem kp_none {H H1 : Hp} {t p : Addr} (k : Kp t H H1) (hp : H1 p = none) (n : p ≠ t) : H p = none := by
  cases e : H p with
  | none => rfl
  | some o =>
    have := k p o n e
    rw [hp] at this
    cases this
theorem TapC.ne {H : Hp} {t c p : Addr} {n : Nat} (h : TapC H t c n) (hp : H p = none) : p ≠ t ∧ p ≠ c := by
  obtain ⟨ns, sp, re, ca, e1, e2, _⟩ := h
  refine ⟨fun z => ?_, fun z => ?_⟩
  · rw [z, e1] at hp
    cases hp
  · rw [z, e2] at hp
    cases hp
theorem TapC.same {H H' : Hp} {t c : Addr} {n : Nat} (h : TapC H t c n) (s : Same H H') : TapC H' t c n := by
  obtain ⟨ns, sp, re, ca, h1, h2, h3⟩ := h
  exact ⟨ns, sp, re, ca, s _ _ h1, s _ _ h2, h3⟩
theorem TapC.mono {H : Hp} {t c : Addr} {n m : Nat} (h : TapC H t c n) (le : n ≤ m) : TapC H t c m := by
  obtain ⟨ns, sp, re, ca, h1, h2, h3, h4, h5, h6, h7⟩ := h
  exact ⟨ns, sp, re, ca, h1, h2, h3, h4, h5, h6, by omega⟩
theorem join_sg : ∀ {ks : List Nat}, TL.tl (Str.join "" (ks.map sg)) = ks
  | [] => rfl
  | [k] => rfl
  | k :: l :: r => by
    show TL.tl (sg k ++ "" ++ Str.join "" ((l :: r).map sg)) = _
    rw [TL.tl_append, TL.tl_append, join_sg (ks := l :: r)]
    rfl
theorem letter_at {x : Int} (h0 : 0 ≤ x) (h1 : x < 26) : ∃ c, atI (Str.ofString "abcdefghijklmnopqrstuvwxyz").cps.toList x = some c ∧ c < 128 := by
  obtain ⟨k, hk, rfl⟩ : ∃ k : Nat, k < 26 ∧ x = (k : Int) := ⟨x.toNat, by omega, by omega⟩
  have key : ∀ k : Fin 26, ∃ c, (Str.ofString "abcdefghijklmnopqrstuvwxyz").cps.toList[k.val]? = some c ∧ c < 128 := by
    intro k
    have := (show ∀ k : Fin 26, ((Str.ofString "abcdefghijklmnopqrstuvwxyz").cps.toList[k.val]?.any fun c => decide (c < 128)) = true by decide +kernel) k
    cases e : (Str.ofString "abcdefghijklmnopqrstuvwxyz").cps.toList[k.val]? with
    | none => rw [e] at this; cases this
    | some c => rw [e] at this; exact ⟨c, rfl, of_decide_eq_true this⟩
  obtain ⟨c, e, h⟩ := key ⟨k, hk⟩
  exact ⟨c, atI_nat e, h⟩
theorem erase_map {α β : Type} (f : α → β) : ∀ (l : List α) (k : Nat), (l.map f).eraseIdx k = (l.eraseIdx k).map f
  | [], _ => rfl
  | _ :: _, 0 => rfl
  | a :: l, k + 1 => by
    show f a :: (l.map f).eraseIdx k = f a :: (l.eraseIdx k).map f
    rw [erase_map f l k]
theorem erase_perm {α : Type} : ∀ {l : List α} {k : Nat} (h : k < l.length), (l[k] :: l.eraseIdx k).Perm l
  | _ :: _, 0, _ => List.Perm.refl _
  | a :: l, k + 1, h => (List.Perm.swap _ _ _).trans ((erase_perm (l := l) (k := k) (Nat.lt_of_succ_lt_succ h)).cons a)
/-- a name as the document has it -/
def Nm (z : Str) : Prop := 1 ≤ z.length ∧ z.length ≤ 8 ∧ ∀ c ∈ z.cps.toList, 97 ≤ c ∧ c ≤ 122
theorem Nm.plain {z : Str} (h : Nm z) : Plain z := ⟨by have := h.2.1; omega, fun c hc => by have := h.2.2 c hc; omega⟩
theorem pool_nm : ∀ z ∈ pool, Nm z := by
  have h : (pool.all fun z => decide (1 ≤ z.length) && decide (z.length ≤ 8) && z.cps.toList.all fun c => decide (97 ≤ c) && decide (c ≤ 122)) = true := by decide +kernel
  intro z hz
  have := List.all_eq_true.mp h z hz
  simp only [Bool.and_eq_true, decide_eq_true_eq, List.all_eq_true] at this
  exact ⟨this.1.1, this.1.2, this.2⟩
theorem pool_nd : (pool ++ []).Nodup := by
  rw [List.append_nil]
  decide +kernel
def rot (sh : Int) (d : Nat) : Nat := 97 + (((d : Int) - 97 + sh) % 26).toNat
def rotS (sh : Int) (z : Str) : Str := ⟨(z.cps.toList.map (rot sh)).toArray⟩
theorem rot_tl (sh : Int) (z : Str) : (rotS sh z).cps.toList = z.cps.toList.map (rot sh) := rfl
theorem rot_nm {sh : Int} {z : Str} (h : Nm z) : Nm (rotS sh z) := by
  have l : (rotS sh z).length = z.length := by
    show (rotS sh z).cps.size = z.cps.size
    rw [← Array.length_toList, rot_tl, List.length_map, Array.length_toList]
  refine ⟨by rw [l]; exact h.1, by rw [l]; exact h.2.1, fun c hc => ?_⟩
  rw [rot_tl] at hc
  obtain ⟨d, hd, rfl⟩ := List.mem_map.mp hc
  unfold rot
  have := Int.emod_nonneg ((d : Int) - 97 + sh) (show (26 : Int) ≠ 0 by decide)
  have := Int.emod_lt_of_pos ((d : Int) - 97 + sh) (show (0 : Int) < 26 by decide)
  omega
theorem rot_inj {sh : Int} (s0 : 0 ≤ sh) (s1 : sh < 26) {x y : Str} (hx : Nm x) (hy : Nm y) (e : rotS sh x = rotS sh y) : x = y := by
  refine TL.ext_tl ?_
  have e : x.cps.toList.map (rot sh) = y.cps.toList.map (rot sh) := by rw [← rot_tl, ← rot_tl, e]
  show x.cps.toList = y.cps.toList
  have key : ∀ l m : List Nat, (∀ c ∈ l, 97 ≤ c ∧ c ≤ 122) → (∀ c ∈ m, 97 ≤ c ∧ c ≤ 122) → l.map (rot sh) = m.map (rot sh) → l = m := by
    intro l
    induction l with
    | nil => intro m _ _ e; cases m with | nil => rfl | cons => cases e
    | cons a l ih =>
      intro m hl hm e
      cases m with
      | nil => cases e
      | cons b m =>
        rw [List.map_cons, List.map_cons] at e
        injection e with e1 e2
        have h1 := hl a (.head _)
        have h2 := hm b (.head _)
        have : a = b := by
          unfold rot at e1
          omega
        rw [this, ih m (fun c hc => hl c (.tail _ hc)) (fun c hc => hm c (.tail _ hc)) e2]
  exact key _ _ hx.2.2 hy.2.2 e
theorem rot_nd {sh : Int} (s0 : 0 ≤ sh) (s1 : sh < 26) {ds : List Str} (h : ∀ z ∈ ds, Nm z) (nd : ds.Nodup) : (ds.map (rotS sh)).Nodup := by
  refine List.pairwise_map.mpr (List.Pairwise.imp_of_mem (fun {a b} ha hb ne e => ne (rot_inj s0 s1 (h a ha) (h b hb) e)) nd)
theorem occX {c : Nat} (h : 97 ≤ c ∧ c ≤ 122) : ∃ rest, Builtin.Str.occurrences "abcdefghijklmnopqrstuvwxyz" ⟨#[c]⟩ 0 (Str.ofString "abcdefghijklmnopqrstuvwxyz").length 1 = (c - 97) :: rest := by
  obtain ⟨k, hk, rfl⟩ : ∃ k : Nat, k < 26 ∧ c = k + 97 := ⟨c - 97, by omega, by omega⟩
  have key : ∀ k : Fin 26, ∃ rest, Builtin.Str.occurrences "abcdefghijklmnopqrstuvwxyz" ⟨#[k.val + 97]⟩ 0 (Str.ofString "abcdefghijklmnopqrstuvwxyz").length 1 = k.val :: rest := by
    intro k
    have := (show ∀ k : Fin 26, ((Builtin.Str.occurrences "abcdefghijklmnopqrstuvwxyz" ⟨#[k.val + 97]⟩ 0 (Str.ofString "abcdefghijklmnopqrstuvwxyz").length 1).head? == some k.val) = true by decide +kernel) k
    cases e : Builtin.Str.occurrences "abcdefghijklmnopqrstuvwxyz" ⟨#[k.val + 97]⟩ 0 (Str.ofString "abcdefghijklmnopqrstuvwxyz").length 1 with
    | nil => rw [e] at this; cases this
    | cons x r =>
      rw [e] at this
      have : x = k.val := by simpa using this
      exact ⟨r, by rw [this]⟩
  obtain ⟨rest, e⟩ := key ⟨k, hk⟩
  exact ⟨rest, by rw [e, Nat.add_sub_cancel]⟩
theorem letterX {x : Int} (h0 : 0 ≤ x) (h1 : x < 26) : atI (Str.ofString "abcdefghijklmnopqrstuvwxyz").cps.toList x = some (97 + x.toNat) := by
  obtain ⟨k, hk, rfl⟩ : ∃ k : Nat, k < 26 ∧ x = (k : Int) := ⟨x.toNat, by omega, by omega⟩
  have := (show ∀ k : Fin 26, ((Str.ofString "abcdefghijklmnopqrstuvwxyz").cps.toList[k.val]? == some (97 + k.val)) = true by decide +kernel) ⟨k, hk⟩
  exact atI_nat (by simpa using this)
def spNm : Sp := fun vs H Q _ => ∃ (t : Addr) (m n : Nat), vs = [.ref t, .int m] ∧ 2 ≤ m ∧ m ≤ 12 ∧ Tap H t n ∧ n < 1000 ∧
  ∀ (p : Addr) (zs : List Str) (H' : Hp), H' p = some (.lst (zs.map V.str)) → zs.length = m → (∀ z ∈ zs, Plain z) → (∀ z ∈ zs, Nm z) → zs.Nodup → p ≠ t → Tap H' t (n + 2 + m) → Kp t H H' → H p = none → Q (.ref p) H'
theorem ok_wnm (T : Tx K mg w) : FnOk P w K mg base CX0 2 T.f_w_names T.d_w_names ["_law_tap_here", "_law_many"] (spNm) := by
  have G_w_take : FnOk P w K mg base CX0 1 T.f_w_take T.d_w_take ["_law_tap_here", "_law_many"] (spTakeC) := ok_takeC T
  refine T.F_w_names.ok S_w_names (fun vs H Q E h => ?_) (fun cdv A outer s H vs Q E hr h => ?_)
  · obtain ⟨t, m, n, rfl, _⟩ := h
    rfl
  · obtain ⟨t, m, n, rfl, m2, m5, hT, hn, q⟩ := h
    obtain ⟨c, hT⟩ := tapC_of hT
    refine ⟨_, (pss_cons (ps_set (i := 2) S_w_names.nd rfl (.inr rfl) (pe_ifExp (pt_cmpR op_eq (pe_call G_w_take hr (by rfl) T.g_w_take T.F_w_take.kp T.b_w_take .nil pass0 (pa_cons (pv 0) (pa_cons pe_int pa_nil))) pe_int (nomark _)) pe_int (pe_call G_w_take hr (by rfl) T.g_w_take T.F_w_take.kp T.b_w_take .nil pass0 (pa_cons (pv 0) (pa_cons pe_int pa_nil)))))
      (pss_cons (ps_set (i := 3) S_w_names.nd rfl (.inr rfl) pe_str)
      (pss_cons (ps_set (i := 4) S_w_names.nd rfl (.inl rfl) (pe_lst (pa_cons pe_str (pa_cons pe_str (pa_cons pe_str (pa_cons pe_str (pa_cons pe_str (pa_cons pe_str (pa_cons pe_str (pa_cons pe_str (pa_cons pe_str (pa_cons pe_str (pa_cons pe_str (pa_cons pe_str (pa_cons pe_str (pa_cons pe_str (pa_cons pe_str (pa_cons pe_str (pa_cons pe_str (pa_cons pe_str (pa_cons pe_str (pa_cons pe_str (pa_cons pe_str (pa_cons pe_str pa_nil))))))))))))))))))))))))
      (pss_cons (ps_set (i := 5) S_w_names.nd rfl (.inl rfl) (pe_lst pa_nil))
      (pss_cons (ps_for PassesOwn.never rfl (pi_range1 (by rfl) T.m_range (pa_cons (pv 1) pa_nil)) (pg_name (i := 6) S_w_names.nd rfl (.inl rfl))
      (pss_cons (ps_set (i := 7) S_w_names.nd rfl (.inl rfl) (pe_bm PySem.F.plainAttrs_list PySem.F.slot_list_pop PySem.F.type_list_pop mt_popAt (pv 4) (pa_cons (pe_call G_w_take hr (by rfl) T.g_w_take T.F_w_take.kp T.b_w_take .nil pass0 (pa_cons (pv 0) (pa_cons (pe_callB call_len_seq (by rfl) T.m_len PySem.boot_len (pa_cons (pv 4) pa_nil)) pa_nil))) pa_nil)))
      (pss_one (ps_expr (pe_bm PySem.F.plainAttrs_list PySem.F.slot_list_append PySem.F.type_list_append mt_append (pv 5) (pa_cons (pe_join pe_str (pe_lc (own := [("_law_sign", 8)]) (g := gName 8) (tt := tYes) (by rfl) S_w_names.nd (pi_str (pv 7)) (blkOk_by (own := [("_law_sign", 8)]) (N := N_w_names) (sc := defScope s_w_names) (by decide +kernel)) (fun _ _ _ _ _ => (pg_name (i := 8) S_w_names.nd rfl (.inl rfl))) (fun _ _ _ _ _ => pts_nil) (fun _ _ _ _ _ => (pe_ix ix_str (pv 3) (pe_op op_mod (pe_op op_add (pe_m1 PySem.F.slot_str_index PySem.F.type_str_index mt_sindex (pv 3) (pv 8)) (pv 2)) pe_int) (fun _ _ => rfl))))) pa_nil))))))
      (pss_one (ps_ret (pv 5)))))))), ?_⟩
    refine ⟨_, rfl, t, 3, n, c, rfl, by decide, by decide, hT, by omega, fun v H1 v0 v1 hT1 hK1 => ⟨rfl, _, rfl, ite2 (fun e => ?_) (fun e => ?_)⟩⟩
    rotate_left
    refine ⟨_, rfl, t, 26, n + 1, c, rfl, by decide, by decide, hT1, by omega, fun sh H2 sh0 sh1 hT2 hK2 => ?_⟩
    have hKK := hK1.trans hK2
    rotate_right
    case' _ =>
      obtain ⟨sh, hz⟩ : ∃ sh : Int, V.int sh = V.int 0 := ⟨0, rfl⟩
      rw [← hz]
      have sh0 : 0 ≤ sh := by have := V.int.inj hz; omega
      have sh1 : sh < 26 := by have := V.int.inj hz; omega
      have hT2 := hT1.mono (show n + 1 ≤ n + 2 by omega)
      have hKK := hK1
      generalize H1 = H2 at hKK hT2 ⊢
      clear hz
    all_goals clear hT1 hK1 e v0 v1
    all_goals
      refine ⟨sz (by show 22 ≤ 1000; decide), fun p1 n1 => ⟨Nat.zero_le _, fun p2 n2 => ?_⟩⟩
      obtain ⟨a1, a2⟩ := hT2.ne n1
      obtain ⟨b1, b2⟩ := (hT2.same (same_upd n1)).ne n2
      have d12 : p2 ≠ p1 := fun z => by rw [z, upd_same] at n2; cases n2
      have f1 := kp_none hKK n1 a1
      have f2 := kp_none (hKK.new n1) n2 b1
      refine ⟨_, rfl, m, rfl, by omega, by omega, ?_⟩
      refine for_range (lo := 0) (n := m) (fun i σ Hx => ∃ (y6 y7 y8 : Option V) (ws ds : List Str), σ = [some (.ref t), some (.int m), some (.int sh), some (.str "abcdefghijklmnopqrstuvwxyz"), some (.ref p1), some (.ref p2), y6, y7, y8] ∧ Hx p1 = some (.lst (ws.map V.str)) ∧ ws.length + i = 22 ∧ ((∀ z ∈ ws, Nm z) ∧ (∀ z ∈ ds, Nm z) ∧ (ws ++ ds).Nodup) ∧ Hx p2 = some (.lst ((ds.map (rotS sh)).map V.str)) ∧ ds.length = i ∧ TapC Hx t c (n + 2 + i) ∧ Kp t H Hx) ?_ ?_ ?_
      · exact ⟨_, _, _, pool, [], rfl, (same_upd n2) _ _ upd_same, rfl, ⟨pool_nm, (fun z hz => by cases hz), pool_nd⟩, upd_same, rfl, (hT2.same (same_upd n1)).same (same_upd n2), (hKK.new n1).new n2⟩
      · rintro i σ H3 hi ⟨y6, y7, y8, ws, ds, rfl, h1, hw, ⟨wd, wdd, wnd⟩, h2, hz, hT3, hK3⟩
        have lw : (ws.map V.str).length = ws.length := List.length_map _
        refine ⟨_, rfl, .inl ⟨rfl, _, .inl (.inl h1)⟩, _, rfl, _, rfl, p1, _, rfl, .inl (.inl (.inl h1)), t, _, n + 2 + i, c, rfl, by omega, by omega, hT3, by omega, fun v H4 v0 v1 hT4 hK4 => ?_⟩
        have g1 := hK4 _ _ a1 h1
        have g2 := hK4 _ _ b1 h2
        have vw : v.toNat < ws.length := by omega
        have gw : (ws.map V.str)[v.toNat]? = some (.str ws[v.toNat]) := by rw [List.getElem?_map, List.getElem?_eq_getElem vw]; rfl
        refine ⟨p1, _, v, v.toNat, .str ws[v.toNat], rfl, rfl, g1, by omega, by omega, ?_, gw, ?_⟩
        · rw [lw]
          exact PyProof.Rows.seqIndex_at v0 (by omega)
        have wv := wd _ (List.getElem_mem vw)
        have nd2 : (ws.eraseIdx v.toNat ++ (ds ++ [ws[v.toNat]])).Nodup := by
          refine (List.Perm.nodup_iff ?_).mp wnd
          have p1 := erase_perm vw
          refine (p1.symm.append_right ds).trans ?_
          rw [← List.append_assoc]
          exact (List.perm_append_singleton _ _).symm
        have we : ∀ z ∈ ws.eraseIdx v.toNat, Nm z := fun z hz => wd z (List.mem_of_mem_eraseIdx hz)
        have wl : (ws.eraseIdx v.toNat).length + (i + 1) = 22 := by rw [List.length_eraseIdx_of_lt vw]; omega
        have wm : (ws.map V.str).eraseIdx v.toNat = (ws.eraseIdx v.toNat).map V.str := erase_map _ _ _
        generalize ws[v.toNat] = z at wv nd2 ⊢
        rw [wm]
        have k1 : upd H4 p1 (.lst ((ws.eraseIdx v.toNat).map V.str)) p1 = _ := upd_same
        have k2 : upd H4 p1 (.lst ((ws.eraseIdx v.toNat).map V.str)) p2 = _ := (upd_ne d12).trans g2
        have hT5 := hT4.upd (o := .lst ((ws.eraseIdx v.toNat).map V.str)) a1 a2
        have hK5 : Kp t H (upd H4 p1 (.lst ((ws.eraseIdx v.toNat).map V.str))) := kp_fresh f1 (hK3.trans hK4)
        generalize ws.eraseIdx v.toNat = ws2 at k1 k2 hT5 hK5 we wl nd2 ⊢
        generalize upd H4 p1 (.lst (ws2.map V.str)) = H5 at k1 k2 hT5 hK5 ⊢
        refine ⟨_, rfl, .inl ⟨rfl, _, .inl (.inl k2)⟩, ⟨_, rfl⟩, _, rfl, z, rfl, fun D nD => ?_⟩
        refine lc_it walk_str (fun j H' => ∃ ks : List Nat, H' = upd H5 D (.lst ((ks.map sg).map V.str)) ∧ ks.length = j ∧ ks = (z.cps.toList.take j).map (rot sh)) ⟨[], rfl, rfl, rfl⟩ (fun _ _ _ _ => trivial) ?_ ?_
        · rintro j x H6 H7 hj ⟨ks, rfl, hl, hk⟩ ⟨rfl, d, hd, rfl⟩
          have hd : z.cps.toList[j]? = some d := by rw [Array.getElem?_toList]; exact hd
          have dd := wv.2.2 d (List.mem_of_getElem? hd)
          obtain ⟨rest, ho⟩ := occX dd
          obtain ⟨o, eo⟩ : ∃ o : Nat, o = d - 97 := ⟨_, rfl⟩
          rw [← eo] at ho
          have hc2 := letterX (Int.emod_nonneg ((o : Int) + sh) (show (26 : Int) ≠ 0 by decide)) (Int.emod_lt_of_pos ((o : Int) + sh) (show (0 : Int) < 26 by decide))
          refine ⟨rfl, tYesT ?_⟩
          refine ⟨_, rfl, _, rfl, ⟨_, rfl⟩, _, rfl, _, _, o, rest, rfl, rfl, ho, _, rfl, _, _, rfl, rfl, _, _, rfl, rfl, (show (0 : Int) < 26 by decide), _, _, _, rfl, rfl, sz (by decide +kernel), hc2, _, upd_same, ?_, ks ++ [97 + (((o : Int) + sh) % 26).toNat], ?_, ?_, ?_⟩
          · rw [List.length_map, List.length_map, hl]
            have : z.cps.size ≤ 8 := wv.2.1
            exact small1000 (by omega)
          · rw [upd_upd', List.map_append, List.map_append]
            rfl
          · rw [List.length_append, hl]; rfl
          · rw [List.take_add_one, hd, List.map_append, ← hk]
            show _ = ks ++ [rot sh d]
            unfold rot
            rw [show (((d : Nat) : Int) - 97 + sh) = (o : Int) + sh by omega]
        · rintro H6 ⟨ks, rfl, hl, hk⟩
          have l8 : ks.length ≤ 8 := by rw [hl]; exact wv.2.1
          refine ⟨_, D, ks.map sg, rfl, rfl, .inl (.inl (.inl upd_same)), ?_, ?_⟩
          · have : ((ks.map sg).map (·.length)).sum = ks.length := by
              clear hl hk l8
              induction ks with
              | nil => rfl
              | cons a r ih =>
                show 1 + ((r.map sg).map (·.length)).sum = r.length + 1
                omega
            rw [this, List.length_map]
            show _ + _ * 0 ≤ _
            omega
          · refine ⟨p2, _, _, rfl, rfl, (same_upd nD) _ _ k2, ?_, ?_⟩
            · rw [List.length_map, List.length_map, hz]
              exact small1000 (by omega)
            have ej : Txt.join "" (ks.map sg) = rotS sh z := by
              refine TL.ext_tl ?_
              rw [TL.join_eq]
              refine join_sg.trans ?_
              rw [hk, List.take_of_length_le (by show _ ≤ z.cps.size; rw [Array.length_toList]; exact Nat.le_refl _)]
              rfl
            refine ⟨_, _, _, ws2, ds ++ [z], rfl, ?_, wl, ⟨we, ?_, nd2⟩, ?_, ?_, ?_, ?_⟩
            · rw [upd_ne d12.symm]
              exact (same_upd nD) _ _ k1
            · intro y hy
              rcases List.mem_append.mp hy with h | h
              · exact wdd y h
              · rw [List.mem_singleton.mp h]; exact wv
            · rw [upd_same, List.map_append, List.map_append, ej]
              rfl
            · rw [List.length_append, hz]
              rfl
            · exact (hT5.same (same_upd nD)).upd b1 b2
            · exact kp_fresh f2 (hK5.new nD)
      · rintro σ H3 ⟨y6, y7, y8, ws, ds, rfl, h1, hw, ⟨wd, wdd, wnd⟩, h2, hz, hT3, hK3⟩
        have nmz : ∀ z ∈ ds.map (rotS sh), Nm z := fun z hz => by
          obtain ⟨y, hy, rfl⟩ := List.mem_map.mp hz
          exact rot_nm (wdd y hy)
        exact ⟨_, rfl, q p2 (ds.map (rotS sh)) H3 h2 (by rw [List.length_map]; exact hz) (fun z hz => (nmz z hz).plain) nmz (rot_nd sh0 sh1 wdd (List.nodup_append.mp wnd).2.1) b1 (hT3.tap.mono (by omega)) hK3 f2⟩

def spWH : Sp := fun vs H Q _ => ∃ (t : Addr) (n : Nat), vs = [.ref t] ∧ Tap H t n ∧ n < 900000 ∧ ∀ p (ws : List Int) H', H' p = some (.tup (ws.map V.int)) → HomeW ws → Tap H' t (n + 2) → Kp t H H' → Q (.ref p) H'
theorem ok_whome (T : Tx K mg w) : FnOk P w K mg base CX0 2 T.f_w_home T.d_w_home ["_law_tap_here"] (spWH) := by
  have G_w_take : FnOk P w K mg base CX0 1 T.f_w_take T.d_w_take ["_law_tap_here", "_law_many"] (spTake) := ok_take T
  refine T.F_w_home.ok S_w_home (fun vs H Q E h => ?_) (fun cdv A outer s H vs Q E hr h => ?_)
  · obtain ⟨t, n, rfl, _⟩ := h
    rfl
  · obtain ⟨t, n, rfl, hT, hn, q⟩ := h
    refine ⟨_, (pss_cons (ps_set (i := 1) S_w_home.nd rfl (.inr rfl) (pe_ifExp (pt_cmpR op_eq (pe_call G_w_take hr (by rfl) T.g_w_take T.F_w_take.kp T.b_w_take .nil pass0 (pa_cons (pv 0) (pa_cons pe_int pa_nil))) pe_int (nomark _)) pe_int (pe_call G_w_take hr (by rfl) T.g_w_take T.F_w_take.kp T.b_w_take .nil pass0 (pa_cons (pv 0) (pa_cons pe_int pa_nil)))))
      (pss_one (ps_ret (pe_callTy call_tuple_of (by rfl) T.m_tuple (by decide +kernel) (pa_cons (pe_lc (own := [("_law_k", 2)]) (g := gName 2) (by rfl) S_w_home.nd (pi_range1 (by rfl) T.m_range (pa_cons pe_int pa_nil)) (blkOk_by (own := [("_law_k", 2)]) (N := N_w_home) (sc := defScope s_w_home) (by decide +kernel)) (fun _ _ _ _ _ => (pg_name (i := 2) S_w_home.nd rfl (.inl rfl))) (fun _ _ _ _ _ => (pts_one (pt_cmpR op_eq (pe_op op_and (pe_op op_shr (pv 1) (pv 2)) pe_int) pe_int (nomark _)))) (fun _ _ _ _ _ => (pv 2))) pa_nil))))), ?_⟩
    refine ⟨_, rfl, t, 6, n, rfl, by decide, by decide, hT, by omega, fun v H1 v0 v1 hT1 hK1 => ?_⟩
    refine ⟨rfl, _, rfl, ite2 (fun e => ?_) (fun e => ?_)⟩
    case' refine_2 => refine ⟨_, rfl, t, 128, n + 1, rfl, by decide, by decide, hT1, by omega, fun v2 H2 a b c d => ?_⟩
    case' refine_1 =>
      have c := hT1.mono (Nat.le_succ (n + 1))
      have d := Kp.refl t H1
    all_goals
      have hK2 := hK1.trans d
      refine ⟨7, rfl, by decide, by decide, fun D nD => ?_⟩
      refine lc_range (lo := 0) (n := 7) (fun i H3 => ∃ ws : List Int, H3 = upd _ D (.lst (ws.map V.int)) ∧ ws.length ≤ i ∧ ∀ w ∈ ws, 0 ≤ w ∧ w < 7) ⟨[], rfl, by decide, fun w hw => by cases hw⟩ ?_ ?_
      · rintro i H3 hi ⟨ws, rfl, hl, hb⟩
        refine ⟨rfl, _, rfl, _, rfl, _, _, rfl, rfl, (by omega), _, _, rfl, rfl, rfl, _, rfl, ite2 (fun e3 => ?_) (fun e3 => ?_)⟩
        · refine ⟨_, rfl, _, upd_same, ?_, ⟨ws ++ [0 + (i : Int)], ?_, ?_, ?_⟩⟩
          · rw [List.length_map]
            exact small1000 (by omega)
          · rw [upd_upd', List.map_append]
            rfl
          · rw [List.length_append]
            exact Nat.succ_le_succ hl
          · intro w hw
            rcases List.mem_append.mp hw with h | h
            · exact hb w h
            · rw [List.mem_singleton.mp h]; omega
        · exact ⟨ws, rfl, by omega, hb⟩
      · rintro H3 ⟨ws, rfl, hl, hb⟩
        exact ⟨D, _, rfl, .inl ⟨.inl (.inl upd_same), fun l nl => q l ws _ upd_same ⟨hl, hb⟩ ((c.new nD).new nl) ((hK2.new nD).new nl)⟩⟩

def Kd (k : Str) : Prop := k = "house" ∨ k = "part" ∨ k = "join" ∨ k = "home" ∨ k = "mourn" ∨ k = "ahead" ∨ k = "card" ∨ k = "visit"
def spPgN : Sp := fun vs H Q _ => ∃ (t p : Addr) (zs : List Str) (d : Int) (n : Nat), vs = [.ref t, .ref p, .int d] ∧ H p = some (.lst (zs.map V.str)) ∧ 2 ≤ zs.length ∧ zs.length ≤ 12 ∧ (∀ z ∈ zs, Plain z) ∧ p ≠ t ∧ Tap H t n ∧ n < 800000 ∧
  ∀ r z rest H', Nk H' (.ref r) (.tup (.text z :: .num d :: rest)) → Rest z rest → Tap H' t (n + 8) → Kp t H H' → Q (.ref r) H'
theorem nk_home {H : Hp} {r : Addr} {ws : List Int} (e : H r = some (.tup (ws.map V.int))) : Nk H (.ref r) (.tup (ws.map .num)) := by
  refine .tup e ?_
  clear e
  induction ws with
  | nil => exact .nil
  | cons a l ih => exact .cons (.int a) ih
theorem ok_wpg (T : Tx K mg w) : FnOk P w K mg base CX0 3 T.f_w_page T.d_w_page ["_law_tap_here", "_law_names_here", "_law_day"] (spPgN) := by
  have G_w_take : FnOk P w K mg base CX0 1 T.f_w_take T.d_w_take ["_law_tap_here", "_law_many"] (spTake) := ok_take T
  have G_w_home : FnOk P w K mg base CX0 2 T.f_w_home T.d_w_home ["_law_tap_here"] (spWH) := ok_whome T
  refine T.F_w_page.ok S_w_page (fun vs H Q E h => ?_) (fun cdv A outer s H vs Q E hr h => ?_)
  · obtain ⟨t, p, zs, d, n, rfl, _⟩ := h
    rfl
  · obtain ⟨t, p, zs, d, n, rfl, hp, l2, l5, hz, pt, hT, hn, q⟩ := h
    refine ⟨_, (pss_cons (ps_set (i := 3) S_w_page.nd rfl (.inl rfl) (pe_ix ix_list (pe_lst (pa_cons pe_str (pa_cons pe_str (pa_cons pe_str (pa_cons pe_str (pa_cons pe_str (pa_cons pe_str (pa_cons pe_str (pa_cons pe_str (pa_cons pe_str (pa_cons pe_str (pa_cons pe_str (pa_cons pe_str pa_nil))))))))))))) (pe_call G_w_take (hr.mono (by decide)) (by rfl) T.g_w_take T.F_w_take.kp T.b_w_take .nil pass0 (pa_cons (pv 0) (pa_cons pe_int pa_nil))) (fun _ _ => rfl)))
      (pss_cons (ps_set (i := 4) S_w_page.nd rfl (.inl rfl) (pe_call G_w_take (hr.mono (by decide)) (by rfl) T.g_w_take T.F_w_take.kp T.b_w_take .nil pass0 (pa_cons (pv 0) (pa_cons (pe_callB call_len_seq (by rfl) T.m_len PySem.boot_len (pa_cons (pv 1) pa_nil)) pa_nil))))
      (pss_cons (ps_set (i := 5) S_w_page.nd rfl (.inl rfl) (pe_ix ix_list (pv 1) (pv 4) (fun _ _ => rfl)))
      (pss_cons (ps_set (i := 6) S_w_page.nd rfl (.inl rfl) (pe_ix ix_list (pv 1) (pe_op op_mod (pe_op op_add (pe_op op_add (pv 4) pe_int) (pe_call G_w_take (hr.mono (by decide)) (by rfl) T.g_w_take T.F_w_take.kp T.b_w_take .nil pass0 (pa_cons (pv 0) (pa_cons (pe_op op_sub (pe_callB call_len_seq (by rfl) T.m_len PySem.boot_len (pa_cons (pv 1) pa_nil)) pe_int) pa_nil)))) (pe_callB call_len_seq (by rfl) T.m_len PySem.boot_len (pa_cons (pv 1) pa_nil))) (fun _ _ => rfl)))
      (pss_cons (ps_if (pt_cmpR op_in_seq (pv 3) (pe_tup (pa_cons pe_str (pa_cons pe_str pa_nil))) (by rfl)) (pss_one (ps_ret (pe_tup (pa_cons (pv 3) (pa_cons (pv 2) (pa_cons (pv 5) (pa_cons (pe_call G_w_home hr (by rfl) T.g_w_home T.F_w_home.kp T.b_w_home .nil pass0 (pa_cons (pv 0) pa_nil)) pa_nil))))))) pss_nil)
      (pss_cons (ps_if (pt_cmpR op_eq (pv 3) pe_str (nomark _)) (pss_one (ps_ret (pe_tup (pa_cons (pv 3) (pa_cons (pv 2) (pa_cons (pv 5) (pa_cons (pv 6) (pa_cons (pe_call G_w_home hr (by rfl) T.g_w_home T.F_w_home.kp T.b_w_home .nil pass0 (pa_cons (pv 0) pa_nil)) pa_nil)))))))) pss_nil)
      (pss_cons (ps_if (pt_cmpR op_eq (pv 3) pe_str (nomark _)) (pss_one (ps_ret (pe_tup (pa_cons (pv 3) (pa_cons (pv 2) (pa_cons (pv 5) (pa_cons (pe_op op_add pe_int (pe_call G_w_take (hr.mono (by decide)) (by rfl) T.g_w_take T.F_w_take.kp T.b_w_take .nil pass0 (pa_cons (pv 0) (pa_cons (pe_ifExp (pt_cmpR op_eq (pe_call G_w_take (hr.mono (by decide)) (by rfl) T.g_w_take T.F_w_take.kp T.b_w_take .nil pass0 (pa_cons (pv 0) (pa_cons pe_int pa_nil))) pe_int (nomark _)) pe_int pe_int) pa_nil)))) pa_nil))))))) pss_nil)
      (pss_one (ps_ret (pe_tup (pa_cons (pv 3) (pa_cons (pv 2) (pa_cons (pv 5) (pa_cons (pv 6) pa_nil)))))))))))))), ?_⟩
    refine ⟨sz (by show 12 ≤ 1000; decide), fun p1 n1 => ⟨_, rfl, t, 12, n, rfl, by decide, by decide, hT.new n1, by omega, fun v H1 v0 v1 hT1 hK1 => ?_⟩⟩
    have hl1 := hK1 _ _ (hT.ne n1) upd_same
    have kind : ∃ k : Str, atI [V.str "house", .str "part", .str "part", .str "join", .str "join", .str "home", .str "home", .str "mourn", .str "mourn", .str "ahead", .str "card", .str "visit"] v = some (.str k) ∧ Kd k := by
      have h12 : v = 0 ∨ v = 1 ∨ v = 2 ∨ v = 3 ∨ v = 4 ∨ v = 5 ∨ v = 6 ∨ v = 7 ∨ v = 8 ∨ v = 9 ∨ v = 10 ∨ v = 11 := by omega
      unfold Kd
      rcases h12 with rfl | rfl | rfl | rfl | rfl | rfl | rfl | rfl | rfl | rfl | rfl | rfl <;> exact ⟨_, rfl, by simp⟩
    obtain ⟨k, hk, kd⟩ := kind
    refine ⟨p1, _, v, .str k, rfl, rfl, .inl (.inl hl1), hk, ?_⟩
    have hp1 := hK1 _ _ pt (same_upd n1 _ _ hp)
    have len : (zs.map V.str).length = zs.length := List.length_map _
    refine ⟨_, rfl, _, rfl, p, _, rfl, .inl (.inl (.inl hp1)), t, _, n + 1, rfl, by omega, by omega, hT1, by omega, fun a H2 a0 a1 hT2 hK2 => ?_⟩
    have hp2 := hK2 _ _ pt hp1
    have az : a.toNat < zs.length := by omega
    refine ⟨_, rfl, _, rfl, p, _, a, .str zs[a.toNat], rfl, rfl, .inl (.inl hp2), atI_int a0 (by rw [List.getElem?_map, List.getElem?_eq_getElem az]; rfl), ?_⟩
    refine ⟨_, rfl, _, rfl, _, _, rfl, rfl, _, rfl, _, rfl, p, _, rfl, .inl (.inl (.inl hp2)), _, _, rfl, rfl, t, _, n + 2, rfl, by omega, by omega, hT2, by omega, fun b H3 b0 b1 hT3 hK3 => ?_⟩
    have hp3 := hK3 _ _ pt hp2
    have m0 := Int.emod_nonneg (a + 1 + b) (show ((zs.map V.str).length : Int) ≠ 0 by omega)
    have m1 := Int.emod_lt_of_pos (a + 1 + b) (show 0 < ((zs.map V.str).length : Int) by omega)
    have cz : ((a + 1 + b) % ((zs.map V.str).length : Int)).toNat < zs.length := by omega
    refine ⟨_, _, rfl, rfl, _, rfl, p, _, rfl, .inl (.inl (.inl hp3)), _, _, rfl, rfl, by omega, p, _, _, .str zs[((a + 1 + b) % ((zs.map V.str).length : Int)).toNat], rfl, rfl, .inl (.inl hp3), atI_int m0 (by rw [List.getElem?_map, List.getElem?_eq_getElem cz]; rfl), ?_⟩
    have f1 := hz _ (List.getElem_mem az)
    have f2 := hz _ (List.getElem_mem cz)
    generalize zs[a.toNat] = z1 at f1 ⊢
    generalize zs[((a + 1 + b) % ((zs.map V.str).length : Int)).toNat] = z2 at f2 ⊢
    have hK : Kp t H H3 := (((Kp.refl t H).new n1).trans hK1).trans (hK2.trans hK3)
    refine ⟨_, rfl, sz (by show 2 ≤ 1000; decide), fun p4 n4 => ?_⟩
    refine ⟨p4, _, rfl, .inr (.inl (.inl upd_same)), rfl, rfl, _, rfl, ite2 (fun e => ?_) (fun e => ?_)⟩
    · refine ⟨_, rfl, _, rfl, _, rfl, _, rfl, t, n + 3, rfl, hT3.new n4, by omega, fun r ws H5 hr5 hl5 hT5 hK5 => ⟨sz (by show 4 ≤ 1000; decide), fun p6 n6 => ?_⟩⟩
      have hr6 := same_upd (o := .tup [.str k, .int d, .str z1, .ref r]) n6 _ _ hr5
      refine q p6 k [.text z1, .tup (ws.map .num)] _ (.tup upd_same (.cons (.str k) (.cons (.int d) (.cons (.str z1) (.cons (nk_home hr6) .nil))))) ?_ ((hT5.mono (by omega)).new n6) (((hK.new n4).trans hK5).new n6)
      rcases kd with rfl | rfl | rfl | rfl | rfl | rfl | rfl | rfl <;> first | exact .house f1 hl5 | exact .home f1 hl5 | exact absurd e (by decide +kernel)
    refine ⟨_, rfl, rfl, _, rfl, ite2 (fun e2 => ?_) (fun e2 => ?_)⟩
    · refine ⟨_, rfl, _, rfl, _, rfl, _, rfl, _, rfl, t, n + 3, rfl, hT3.new n4, by omega, fun r ws H5 hr5 hl5 hT5 hK5 => ⟨sz (by show 5 ≤ 1000; decide), fun p6 n6 => ?_⟩⟩
      have hr6 := same_upd (o := .tup [.str k, .int d, .str z1, .str z2, .ref r]) n6 _ _ hr5
      refine q p6 k [.text z1, .text z2, .tup (ws.map .num)] _ (.tup upd_same (.cons (.str k) (.cons (.int d) (.cons (.str z1) (.cons (.str z2) (.cons (nk_home hr6) .nil)))))) ?_ ((hT5.mono (by omega)).new n6) (((hK.new n4).trans hK5).new n6)
      rcases kd with rfl | rfl | rfl | rfl | rfl | rfl | rfl | rfl <;> first | exact .part f1 f2 hl5 | exact absurd e2 (by decide +kernel)
    refine ⟨_, rfl, rfl, _, rfl, ite2 (fun e3 => ?_) (fun e3 => ?_)⟩
    · refine ⟨_, rfl, _, rfl, _, rfl, _, rfl, _, rfl, t, 2, n + 3, rfl, by decide, by decide, hT3.new n4, by omega, fun u H5 u0 u1 hT5 hK5 => ⟨rfl, _, rfl, ite2 (fun e4 => ?_) (fun e4 => ?_)⟩⟩
      all_goals
        refine ⟨t, _, n + 4, rfl, by decide, by decide, hT5, by omega, fun u2 H6 w0 w1 hT6 hK6 => ⟨_, _, rfl, rfl, sz (by show 4 ≤ 1000; decide), fun p7 n7 => ?_⟩⟩
        refine q p7 k [.text z1, .num (1 + u2)] _ (.tup upd_same (.cons (.str k) (.cons (.int d) (.cons (.str z1) (.cons (.int _) .nil))))) ?_ ((hT6.mono (by omega)).new n7) (((hK.new n4).trans (hK5.trans hK6)).new n7)
        rcases kd with rfl | rfl | rfl | rfl | rfl | rfl | rfl | rfl <;> first | exact .mourn f1 (by omega) (by omega) | exact absurd e3 (by decide +kernel)
    · refine ⟨_, rfl, _, rfl, _, rfl, _, rfl, sz (by show 4 ≤ 1000; decide), fun p7 n7 => ?_⟩
      refine q p7 k [.text z1, .text z2] _ (.tup upd_same (.cons (.str k) (.cons (.int d) (.cons (.str z1) (.cons (.str z2) .nil))))) ?_ (((hT3.new n4).mono (by omega)).new n7) ((hK.new n4).new n7)
      rcases kd with rfl | rfl | rfl | rfl | rfl | rfl | rfl | rfl <;> first | exact .join f1 f2 | exact .ahead f1 f2 | exact .card f1 f2 | exact .visit f1 f2 | exact absurd (by decide +kernel) e | exact absurd (by decide +kernel) e2 | exact absurd (by decide +kernel) e3
theorem TapC.new {H : Hp} {t c p : Addr} {o : HO} {n : Nat} (h : TapC H t c n) (hp : H p = none) : TapC (L2.upd H p o) t c n := h.same (same_upd hp)
def spWHC : Sp := fun vs H Q _ => ∃ (t : Addr) (n : Nat) (cc : Addr), vs = [.ref t] ∧ TapC H t cc n ∧ n < 900000 ∧ ∀ p (ws : List Int) H', H' p = some (.tup (ws.map V.int)) → HomeW ws → ws.Pairwise (· < ·) → TapC H' t cc (n + 2) → Kp t H H' → Q (.ref p) H'
theorem ok_whomeC (T : Tx K mg w) : FnOk P w K mg base CX0 2 T.f_w_home T.d_w_home ["_law_tap_here"] (spWHC) := by
  have G_w_take : FnOk P w K mg base CX0 1 T.f_w_take T.d_w_take ["_law_tap_here", "_law_many"] (spTakeC) := ok_takeC T
  refine T.F_w_home.ok S_w_home (fun vs H Q E h => ?_) (fun cdv A outer s H vs Q E hr h => ?_)
  · obtain ⟨t, n, cc, rfl, _⟩ := h
    rfl
  · obtain ⟨t, n, cc, rfl, hT, hn, q⟩ := h
    refine ⟨_, (pss_cons (ps_set (i := 1) S_w_home.nd rfl (.inr rfl) (pe_ifExp (pt_cmpR op_eq (pe_call G_w_take hr (by rfl) T.g_w_take T.F_w_take.kp T.b_w_take .nil pass0 (pa_cons (pv 0) (pa_cons pe_int pa_nil))) pe_int (nomark _)) pe_int (pe_call G_w_take hr (by rfl) T.g_w_take T.F_w_take.kp T.b_w_take .nil pass0 (pa_cons (pv 0) (pa_cons pe_int pa_nil)))))
      (pss_one (ps_ret (pe_callTy call_tuple_of (by rfl) T.m_tuple (by decide +kernel) (pa_cons (pe_lc (own := [("_law_k", 2)]) (g := gName 2) (by rfl) S_w_home.nd (pi_range1 (by rfl) T.m_range (pa_cons pe_int pa_nil)) (blkOk_by (own := [("_law_k", 2)]) (N := N_w_home) (sc := defScope s_w_home) (by decide +kernel)) (fun _ _ _ _ _ => (pg_name (i := 2) S_w_home.nd rfl (.inl rfl))) (fun _ _ _ _ _ => (pts_one (pt_cmpR op_eq (pe_op op_and (pe_op op_shr (pv 1) (pv 2)) pe_int) pe_int (nomark _)))) (fun _ _ _ _ _ => (pv 2))) pa_nil))))), ?_⟩
    refine ⟨_, rfl, t, 6, n, cc, rfl, by decide, by decide, hT, by omega, fun v H1 v0 v1 hT1 hK1 => ?_⟩
    refine ⟨rfl, _, rfl, ite2 (fun e => ?_) (fun e => ?_)⟩
    case' refine_2 => refine ⟨_, rfl, t, 128, n + 1, cc, rfl, by decide, by decide, hT1, by omega, fun v2 H2 a b c d => ?_⟩
    case' refine_1 =>
      have c := hT1.mono (Nat.le_succ (n + 1))
      have d := Kp.refl t H1
    all_goals
      have hK2 := hK1.trans d
      refine ⟨7, rfl, by decide, by decide, fun D nD => ?_⟩
      refine lc_range (lo := 0) (n := 7) (fun i H3 => ∃ ws : List Int, H3 = upd _ D (.lst (ws.map V.int)) ∧ ws.length ≤ i ∧ (∀ w ∈ ws, 0 ≤ w ∧ w < 7) ∧ (∀ w ∈ ws, w < i) ∧ ws.Pairwise (· < ·)) ⟨[], rfl, by decide, (fun w hw => by cases hw), (fun w hw => by cases hw), .nil⟩ ?_ ?_
      · rintro i H3 hi ⟨ws, rfl, hl, hb, hc, hd⟩
        refine ⟨rfl, _, rfl, _, rfl, _, _, rfl, rfl, (by omega), _, _, rfl, rfl, rfl, _, rfl, ite2 (fun e3 => ?_) (fun e3 => ?_)⟩
        · refine ⟨_, rfl, _, upd_same, ?_, ⟨ws ++ [0 + (i : Int)], ?_, ?_, ?_, ?_, ?_⟩⟩
          · rw [List.length_map]
            exact small1000 (by omega)
          · rw [upd_upd', List.map_append]
            rfl
          · rw [List.length_append]
            exact Nat.succ_le_succ hl
          · intro w hw
            rcases List.mem_append.mp hw with h | h
            · exact hb w h
            · rw [List.mem_singleton.mp h]; omega
          · intro w hw
            rcases List.mem_append.mp hw with h | h
            · have := hc w h; omega
            · rw [List.mem_singleton.mp h]; omega
          · refine List.pairwise_append.mpr ⟨hd, by simp, fun x hx y hy => ?_⟩
            have := hc x hx
            rw [List.mem_singleton.mp hy]; omega
        · exact ⟨ws, rfl, by omega, hb, fun w hw => (by have := hc w hw; omega), hd⟩
      · rintro H3 ⟨ws, rfl, hl, hb, hc, hd⟩
        exact ⟨D, _, rfl, .inl ⟨.inl (.inl upd_same), fun l nl => q l ws _ upd_same ⟨hl, hb⟩ hd ((c.new nD).new nl) ((hK2.new nD).new nl)⟩⟩
/-- what stands behind a page's day, as the document has it -/
inductive RestX : Str → List NestedKey → Prop
  | house {a : Str} {ws : List Int} : Nm a → HomeW ws → ws.Pairwise (· < ·) → RestX "house" [.text a, .tup (ws.map .num)]
  | home {a : Str} {ws : List Int} : Nm a → HomeW ws → ws.Pairwise (· < ·) → RestX "home" [.text a, .tup (ws.map .num)]
  | part {a b : Str} {ws : List Int} : Nm a → Nm b → a ≠ b → HomeW ws → ws.Pairwise (· < ·) → RestX "part" [.text a, .text b, .tup (ws.map .num)]
  | mourn {a : Str} {m : Int} : Nm a → 1 ≤ m → m ≤ 60 → RestX "mourn" [.text a, .num m]
  | join {a b : Str} : Nm a → Nm b → a ≠ b → RestX "join" [.text a, .text b]
  | ahead {a b : Str} : Nm a → Nm b → a ≠ b → RestX "ahead" [.text a, .text b]
  | card {a b : Str} : Nm a → Nm b → a ≠ b → RestX "card" [.text a, .text b]
  | visit {a b : Str} : Nm a → Nm b → a ≠ b → RestX "visit" [.text a, .text b]
theorem RestX.rest {z : Str} {r : List NestedKey} (h : RestX z r) : Rest z r := by
  cases h with
  | house a b _ => exact .house a.plain b
  | home a b _ => exact .home a.plain b
  | part a b _ c _ => exact .part a.plain b.plain c
  | mourn a b c => exact .mourn a.plain (by omega) c
  | join a b _ => exact .join a.plain b.plain
  | ahead a b _ => exact .ahead a.plain b.plain
  | card a b _ => exact .card a.plain b.plain
  | visit a b _ => exact .visit a.plain b.plain
theorem round_ne {a b l : Int} (a0 : 0 ≤ a) (a1 : a < l) (b0 : 0 ≤ b) (b1 : b < l - 1) : (a + 1 + b) % l ≠ a := by
  by_cases c : a + 1 + b < l
  · rw [Int.emod_eq_of_lt (by omega) c]
    omega
  · have e : (a + 1 + b) % l = a + 1 + b - l := by
      rw [← Int.sub_emod_right, Int.emod_eq_of_lt (by omega) (by omega)]
    omega
theorem nodup_ne {l : List Str} (h : l.Nodup) {i j : Nat} (hi : i < l.length) (hj : j < l.length) (ne : i ≠ j) : l[i] ≠ l[j] := by
  rcases Nat.lt_or_gt_of_ne ne with c | c
  · exact (List.pairwise_iff_getElem.mp h) i j hi hj c
  · exact ((List.pairwise_iff_getElem.mp h) j i hj hi c).symm
def spPgNC : Sp := fun vs H Q _ => ∃ (t p : Addr) (zs : List Str) (d : Int) (n : Nat) (cc : Addr), vs = [.ref t, .ref p, .int d] ∧ H p = some (.lst (zs.map V.str)) ∧ 2 ≤ zs.length ∧ zs.length ≤ 12 ∧ (∀ z ∈ zs, Nm z) ∧ zs.Nodup ∧ p ≠ t ∧ TapC H t cc n ∧ n < 800000 ∧
  ∀ r z rest H', Nk H' (.ref r) (.tup (.text z :: .num d :: rest)) → RestX z rest → (∀ nm, NestedKey.text nm ∈ rest → nm ∈ zs) → TapC H' t cc (n + 8) → Kp t H H' → Q (.ref r) H'
theorem ok_wpgC (T : Tx K mg w) : FnOk P w K mg base CX0 3 T.f_w_page T.d_w_page ["_law_tap_here", "_law_names_here", "_law_day"] (spPgNC) := by
  have G_w_take : FnOk P w K mg base CX0 1 T.f_w_take T.d_w_take ["_law_tap_here", "_law_many"] (spTakeC) := ok_takeC T
  have G_w_home : FnOk P w K mg base CX0 2 T.f_w_home T.d_w_home ["_law_tap_here"] (spWHC) := ok_whomeC T
  refine T.F_w_page.ok S_w_page (fun vs H Q E h => ?_) (fun cdv A outer s H vs Q E hr h => ?_)
  · obtain ⟨t, p, zs, d, n, cc, rfl, _⟩ := h
    rfl
  · obtain ⟨t, p, zs, d, n, cc, rfl, hp, l2, l5, hz, hnd, pt, hT, hn, q⟩ := h
    refine ⟨_, (pss_cons (ps_set (i := 3) S_w_page.nd rfl (.inl rfl) (pe_ix ix_list (pe_lst (pa_cons pe_str (pa_cons pe_str (pa_cons pe_str (pa_cons pe_str (pa_cons pe_str (pa_cons pe_str (pa_cons pe_str (pa_cons pe_str (pa_cons pe_str (pa_cons pe_str (pa_cons pe_str (pa_cons pe_str pa_nil))))))))))))) (pe_call G_w_take (hr.mono (by decide)) (by rfl) T.g_w_take T.F_w_take.kp T.b_w_take .nil pass0 (pa_cons (pv 0) (pa_cons pe_int pa_nil))) (fun _ _ => rfl)))
      (pss_cons (ps_set (i := 4) S_w_page.nd rfl (.inl rfl) (pe_call G_w_take (hr.mono (by decide)) (by rfl) T.g_w_take T.F_w_take.kp T.b_w_take .nil pass0 (pa_cons (pv 0) (pa_cons (pe_callB call_len_seq (by rfl) T.m_len PySem.boot_len (pa_cons (pv 1) pa_nil)) pa_nil))))
      (pss_cons (ps_set (i := 5) S_w_page.nd rfl (.inl rfl) (pe_ix ix_list (pv 1) (pv 4) (fun _ _ => rfl)))
      (pss_cons (ps_set (i := 6) S_w_page.nd rfl (.inl rfl) (pe_ix ix_list (pv 1) (pe_op op_mod (pe_op op_add (pe_op op_add (pv 4) pe_int) (pe_call G_w_take (hr.mono (by decide)) (by rfl) T.g_w_take T.F_w_take.kp T.b_w_take .nil pass0 (pa_cons (pv 0) (pa_cons (pe_op op_sub (pe_callB call_len_seq (by rfl) T.m_len PySem.boot_len (pa_cons (pv 1) pa_nil)) pe_int) pa_nil)))) (pe_callB call_len_seq (by rfl) T.m_len PySem.boot_len (pa_cons (pv 1) pa_nil))) (fun _ _ => rfl)))
      (pss_cons (ps_if (pt_cmpR op_in_seq (pv 3) (pe_tup (pa_cons pe_str (pa_cons pe_str pa_nil))) (by rfl)) (pss_one (ps_ret (pe_tup (pa_cons (pv 3) (pa_cons (pv 2) (pa_cons (pv 5) (pa_cons (pe_call G_w_home hr (by rfl) T.g_w_home T.F_w_home.kp T.b_w_home .nil pass0 (pa_cons (pv 0) pa_nil)) pa_nil))))))) pss_nil)
      (pss_cons (ps_if (pt_cmpR op_eq (pv 3) pe_str (nomark _)) (pss_one (ps_ret (pe_tup (pa_cons (pv 3) (pa_cons (pv 2) (pa_cons (pv 5) (pa_cons (pv 6) (pa_cons (pe_call G_w_home hr (by rfl) T.g_w_home T.F_w_home.kp T.b_w_home .nil pass0 (pa_cons (pv 0) pa_nil)) pa_nil)))))))) pss_nil)
      (pss_cons (ps_if (pt_cmpR op_eq (pv 3) pe_str (nomark _)) (pss_one (ps_ret (pe_tup (pa_cons (pv 3) (pa_cons (pv 2) (pa_cons (pv 5) (pa_cons (pe_op op_add pe_int (pe_call G_w_take (hr.mono (by decide)) (by rfl) T.g_w_take T.F_w_take.kp T.b_w_take .nil pass0 (pa_cons (pv 0) (pa_cons (pe_ifExp (pt_cmpR op_eq (pe_call G_w_take (hr.mono (by decide)) (by rfl) T.g_w_take T.F_w_take.kp T.b_w_take .nil pass0 (pa_cons (pv 0) (pa_cons pe_int pa_nil))) pe_int (nomark _)) pe_int pe_int) pa_nil)))) pa_nil))))))) pss_nil)
      (pss_one (ps_ret (pe_tup (pa_cons (pv 3) (pa_cons (pv 2) (pa_cons (pv 5) (pa_cons (pv 6) pa_nil)))))))))))))), ?_⟩
    refine ⟨sz (by show 12 ≤ 1000; decide), fun p1 n1 => ⟨_, rfl, t, 12, n, cc, rfl, by decide, by decide, hT.new n1, by omega, fun v H1 v0 v1 hT1 hK1 => ?_⟩⟩
    have hl1 := hK1 _ _ (hT.ne n1).1 upd_same
    have kind : ∃ k : Str, atI [V.str "house", .str "part", .str "part", .str "join", .str "join", .str "home", .str "home", .str "mourn", .str "mourn", .str "ahead", .str "card", .str "visit"] v = some (.str k) ∧ Kd k := by
      have h12 : v = 0 ∨ v = 1 ∨ v = 2 ∨ v = 3 ∨ v = 4 ∨ v = 5 ∨ v = 6 ∨ v = 7 ∨ v = 8 ∨ v = 9 ∨ v = 10 ∨ v = 11 := by omega
      unfold Kd
      rcases h12 with rfl | rfl | rfl | rfl | rfl | rfl | rfl | rfl | rfl | rfl | rfl | rfl <;> exact ⟨_, rfl, by simp⟩
    obtain ⟨k, hk, kd⟩ := kind
    refine ⟨p1, _, v, .str k, rfl, rfl, .inl (.inl hl1), hk, ?_⟩
    have hp1 := hK1 _ _ pt (same_upd n1 _ _ hp)
    have len : (zs.map V.str).length = zs.length := List.length_map _
    refine ⟨_, rfl, _, rfl, p, _, rfl, .inl (.inl (.inl hp1)), t, _, n + 1, cc, rfl, by omega, by omega, hT1, by omega, fun a H2 a0 a1 hT2 hK2 => ?_⟩
    have hp2 := hK2 _ _ pt hp1
    have az : a.toNat < zs.length := by omega
    refine ⟨_, rfl, _, rfl, p, _, a, .str zs[a.toNat], rfl, rfl, .inl (.inl hp2), atI_int a0 (by rw [List.getElem?_map, List.getElem?_eq_getElem az]; rfl), ?_⟩
    refine ⟨_, rfl, _, rfl, _, _, rfl, rfl, _, rfl, _, rfl, p, _, rfl, .inl (.inl (.inl hp2)), _, _, rfl, rfl, t, _, n + 2, cc, rfl, by omega, by omega, hT2, by omega, fun b H3 b0 b1 hT3 hK3 => ?_⟩
    have hp3 := hK3 _ _ pt hp2
    have m0 := Int.emod_nonneg (a + 1 + b) (show ((zs.map V.str).length : Int) ≠ 0 by omega)
    have m1 := Int.emod_lt_of_pos (a + 1 + b) (show 0 < ((zs.map V.str).length : Int) by omega)
    have cz : ((a + 1 + b) % ((zs.map V.str).length : Int)).toNat < zs.length := by omega
    refine ⟨_, _, rfl, rfl, _, rfl, p, _, rfl, .inl (.inl (.inl hp3)), _, _, rfl, rfl, by omega, p, _, _, .str zs[((a + 1 + b) % ((zs.map V.str).length : Int)).toNat], rfl, rfl, .inl (.inl hp3), atI_int m0 (by rw [List.getElem?_map, List.getElem?_eq_getElem cz]; rfl), ?_⟩
    have f1 := hz _ (List.getElem_mem az)
    have f2 := hz _ (List.getElem_mem cz)
    have i1 := List.getElem_mem az
    have i2 := List.getElem_mem cz
    have ne : zs[a.toNat] ≠ zs[((a + 1 + b) % ((zs.map V.str).length : Int)).toNat] := nodup_ne hnd az cz (fun z => round_ne (a := a) (b := b) (l := ((zs.map V.str).length : Int)) a0 (by omega) b0 (by omega) (by omega))
    generalize zs[a.toNat] = z1 at f1 i1 ne ⊢
    generalize zs[((a + 1 + b) % ((zs.map V.str).length : Int)).toNat] = z2 at f2 i2 ne ⊢
    have hK : Kp t H H3 := (((Kp.refl t H).new n1).trans hK1).trans (hK2.trans hK3)
    refine ⟨_, rfl, sz (by show 2 ≤ 1000; decide), fun p4 n4 => ?_⟩
    refine ⟨p4, _, rfl, .inr (.inl (.inl upd_same)), rfl, rfl, _, rfl, ite2 (fun e => ?_) (fun e => ?_)⟩
    · refine ⟨_, rfl, _, rfl, _, rfl, _, rfl, t, n + 3, cc, rfl, hT3.new n4, by omega, fun r ws H5 hr5 hl5 hl6 hT5 hK5 => ⟨sz (by show 4 ≤ 1000; decide), fun p6 n6 => ?_⟩⟩
      have hr6 := same_upd (o := .tup [.str k, .int d, .str z1, .ref r]) n6 _ _ hr5
      refine q p6 k [.text z1, .tup (ws.map .num)] _ (.tup upd_same (.cons (.str k) (.cons (.int d) (.cons (.str z1) (.cons (nk_home hr6) .nil))))) ?_ (by rintro nm hm; simp at hm; first | (subst hm; assumption) | (rcases hm with rfl | rfl <;> assumption)) ((hT5.mono (by omega)).new n6) (((hK.new n4).trans hK5).new n6)
      rcases kd with rfl | rfl | rfl | rfl | rfl | rfl | rfl | rfl <;> first | exact .house f1 hl5 hl6 | exact .home f1 hl5 hl6 | exact absurd e (by decide +kernel)
    refine ⟨_, rfl, rfl, _, rfl, ite2 (fun e2 => ?_) (fun e2 => ?_)⟩
    · refine ⟨_, rfl, _, rfl, _, rfl, _, rfl, _, rfl, t, n + 3, cc, rfl, hT3.new n4, by omega, fun r ws H5 hr5 hl5 hl6 hT5 hK5 => ⟨sz (by show 5 ≤ 1000; decide), fun p6 n6 => ?_⟩⟩
      have hr6 := same_upd (o := .tup [.str k, .int d, .str z1, .str z2, .ref r]) n6 _ _ hr5
      refine q p6 k [.text z1, .text z2, .tup (ws.map .num)] _ (.tup upd_same (.cons (.str k) (.cons (.int d) (.cons (.str z1) (.cons (.str z2) (.cons (nk_home hr6) .nil)))))) ?_ (by rintro nm hm; simp at hm; first | (subst hm; assumption) | (rcases hm with rfl | rfl <;> assumption)) ((hT5.mono (by omega)).new n6) (((hK.new n4).trans hK5).new n6)
      rcases kd with rfl | rfl | rfl | rfl | rfl | rfl | rfl | rfl <;> first | exact .part f1 f2 ne hl5 hl6 | exact absurd e2 (by decide +kernel)
    refine ⟨_, rfl, rfl, _, rfl, ite2 (fun e3 => ?_) (fun e3 => ?_)⟩
    · refine ⟨_, rfl, _, rfl, _, rfl, _, rfl, _, rfl, t, 2, n + 3, cc, rfl, by decide, by decide, hT3.new n4, by omega, fun u H5 u0 u1 hT5 hK5 => ⟨rfl, _, rfl, ite2 (fun e4 => ?_) (fun e4 => ?_)⟩⟩
      all_goals
        refine ⟨t, _, n + 4, cc, rfl, by decide, by decide, hT5, by omega, fun u2 H6 w0 w1 hT6 hK6 => ⟨_, _, rfl, rfl, sz (by show 4 ≤ 1000; decide), fun p7 n7 => ?_⟩⟩
        refine q p7 k [.text z1, .num (1 + u2)] _ (.tup upd_same (.cons (.str k) (.cons (.int d) (.cons (.str z1) (.cons (.int _) .nil))))) ?_ (by rintro nm hm; simp at hm; first | (subst hm; assumption) | (rcases hm with rfl | rfl <;> assumption)) ((hT6.mono (by omega)).new n7) (((hK.new n4).trans (hK5.trans hK6)).new n7)
        rcases kd with rfl | rfl | rfl | rfl | rfl | rfl | rfl | rfl <;> first | exact .mourn f1 (by omega) (by omega) | exact absurd e3 (by decide +kernel)
    · refine ⟨_, rfl, _, rfl, _, rfl, _, rfl, sz (by show 4 ≤ 1000; decide), fun p7 n7 => ?_⟩
      refine q p7 k [.text z1, .text z2] _ (.tup upd_same (.cons (.str k) (.cons (.int d) (.cons (.str z1) (.cons (.str z2) .nil))))) ?_ (by rintro nm hm; simp at hm; first | (subst hm; assumption) | (rcases hm with rfl | rfl <;> assumption)) (((hT3.new n4).mono (by omega)).new n7) ((hK.new n4).new n7)
      rcases kd with rfl | rfl | rfl | rfl | rfl | rfl | rfl | rfl <;> first | exact .join f1 f2 ne | exact .ahead f1 f2 ne | exact .card f1 f2 ne | exact .visit f1 f2 ne | exact absurd (by decide +kernel) e | exact absurd (by decide +kernel) e2 | exact absurd (by decide +kernel) e3
end
end L05

set_option Elab.async false
set_option linter.all false
set_option maxRecDepth 100000
set_option maxHeartbeats 2000000
namespace L05
open PySem PySem.Spec PyProof.Rows L2 My
section
variable {P : Program} {w : World} {K : PySem.W.Frag} {mg : Str → Option Value} {base : Heap}
def spAt (i : Nat) : Sp := fun vs H Q _ => ∃ (a : Addr) (xs : List V) (v : V), vs = [.ref a] ∧ H a = some (.tup xs) ∧ xs[i]? = some v ∧ Q v H
theorem ok_page_day (T : Tx K mg w) : FnOk P w K mg base CX0 1 T.f_page_day T.d_page_day ["page"] ((spAt 1)) := by
  refine T.F_page_day.ok S_page_day (fun vs H Q E h => ?_) (fun cdv A outer s H vs Q E hr h => ?_)
  · obtain ⟨a, xs, v, rfl, _⟩ := h
    rfl
  · obtain ⟨a, xs, v, rfl, ha, e, q⟩ := h
    exact ⟨_, (pss_one (ps_ret (pe_ix ix_tup (pv 0) pe_int (fun _ _ => rfl)))), _, rfl, a, _, _, v, rfl, rfl, .inl (.inl ha), at_of (j := 1) rfl e, q⟩
theorem ixK_at {z : Str} {r : List NestedKey} (h : Rest z r) : kinds[ixK z]? = some z ∧ ∀ m, m < ixK z → kinds[m]? ≠ some z := by
  cases h <;> exact ⟨by decide +kernel, by decide +kernel⟩
/-- a list's or a tuple's pages -/
def PgsAt (H : Hp) (xs : List V) (ks : List NestedKey) : Prop := NkAll H xs ks ∧ ∀ k ∈ ks, PgK k
/-- the dict of the pages that were met, amid the comprehension -/
def InvO (P : Program) (w : World) (H : Hp) (D : Addr) (ks : List NestedKey) (i : Nat) (H2 : Hp) : Prop := ∃ (ps : List (NestedKey × Addr)) (o : HO), H2 = upd H D o ∧ NdAt P w H2 D ps ∧ (ps.map (·.1)).Nodup ∧ (∀ k, k ∈ ps.map (·.1) ↔ k ∈ ks.take i) ∧ ps.length ≤ i ∧ ∀ p ∈ ps, PgK p.1
theorem dict_turn {P : Program} {w : World} {H : Hp} {xs : List V} {ks : List NestedKey} (nk : NkAll H xs ks) (pk : ∀ k ∈ ks, PgK k) (lx : xs.length ≤ 1000) : (∀ (D : Addr), H D = none → ∀ (i : Nat) (x : V) (H2 : Hp), xs[i]? = some x → InvO P w H D ks i H2 →
        ∃ b k ps, x = .ref b ∧ NdAt P w H2 D ps ∧ Nk H2 (.ref b) k ∧ k.depth ≤ 8 ∧ ps.length < sizeLine ∧ InvO P w H D ks (i + 1) (upd H2 D (ND P w D (putN ps k b)))) ∧
    (∀ (D : Addr), H D = none → InvO P w H D ks 0 (upd H D (.dK []))) ∧ (∀ {D : Addr} {i : Nat} {H2 : Hp}, H D = none → InvO P w H D ks i H2 → Same H H2) := by
    have lk := nk.length
    have turn : ∀ (D : Addr), H D = none → ∀ (i : Nat) (x : V) (H2 : Hp), xs[i]? = some x → InvO P w H D ks i H2 →
        ∃ b k ps, x = .ref b ∧ NdAt P w H2 D ps ∧ Nk H2 (.ref b) k ∧ k.depth ≤ 8 ∧ ps.length < sizeLine ∧ InvO P w H D ks (i + 1) (upd H2 D (ND P w D (putN ps k b))) := by
      rintro D nD i x H2 hx ⟨ps, o, rfl, hn, nd, hm, hl, hp⟩
      obtain ⟨k, hk, nx⟩ := nk.get hx
      have pgk := pk k (List.mem_of_getElem? hk)
      have dk := (place_depth pgk).2
      have t : Tups H (upd H D o) := fun c ys e => by rw [upd_ne (ne_of_none e nD)]; exact e
      obtain ⟨b, rfl⟩ : ∃ b, x = .ref b := by
        obtain ⟨z, d, r, rfl, _⟩ := pgk
        cases nx with
        | tup _ _ => exact ⟨_, rfl⟩
      have hi := (List.getElem?_eq_some_iff.mp hx).1
      obtain ⟨g1, g2, g3⟩ := putN_keys ps k b
      refine ⟨b, k, ps, rfl, hn, nx.at t, dk, small1000 (by omega), putN ps k b, _, upd_upd', nd_put hn (nx.at t) dk (nd_ntup hn), g2 nd, fun y => ?_, by omega, fun p hp2 => ?_⟩
      · rw [g1 y, hm y, List.take_add_one, hk]
        simp only [Option.toList, List.mem_append, List.mem_singleton]
        exact Or.comm
      · rcases putN_mem hp2 with h | h
        · exact hp p h
        · rw [h]; exact pgk
    have start : ∀ (D : Addr), H D = none → InvO P w H D ks 0 (upd H D (.dK [])) := fun D nD => ⟨[], _, rfl, ⟨.inr ⟨rfl, upd_same⟩, fun p hp => by cases hp⟩, List.nodup_nil, fun k => by simp, Nat.zero_le _, fun p hp => by cases hp⟩
    have stay : ∀ {D : Addr} {i : Nat} {H2 : Hp}, H D = none → InvO P w H D ks i H2 → Same H H2 := fun {D i H2} nD h => by
      obtain ⟨ps, o, rfl, _⟩ := h
      exact same_upd nD
    exact ⟨turn, start, stay⟩
def spBase : Sp := fun vs H Q _ => ∃ (t : Addr) (n : Nat), vs = [.ref t] ∧ Tap H t n ∧ n < 900000 ∧ ∀ v H', 0 ≤ v → v < 9600 → Tap H' t (n + 2) → Kp t H H' → Q (.int v) H'
theorem ok_wbase (T : Tx K mg w) : FnOk P w K mg base CX0 2 T.f_w_base T.d_w_base ["_law_tap_here"] (spBase) := by
  have G_w_take : FnOk P w K mg base CX0 1 T.f_w_take T.d_w_take ["_law_tap_here", "_law_many"] (spTake) := ok_take T
  refine T.F_w_base.ok S_w_base (fun vs H Q E h => ?_) (fun cdv A outer s H vs Q E hr h => ?_)
  · obtain ⟨t, n, rfl, _⟩ := h
    rfl
  · obtain ⟨t, n, rfl, hT, hn, q⟩ := h
    refine ⟨_, (pss_cons (ps_set (i := 1) S_w_base.nd rfl (.inl rfl) (pe_call G_w_take hr (by rfl) T.g_w_take T.F_w_take.kp T.b_w_take .nil pass0 (pa_cons (pv 0) (pa_cons pe_int pa_nil))))
      (pss_cons (ps_if (pt_cmpR op_eq (pv 1) pe_int (nomark _)) (pss_one (ps_ret pe_int)) pss_nil)
      (pss_cons (ps_if (pt_cmpR op_eq (pv 1) pe_int (nomark _)) (pss_one (ps_ret (pe_call G_w_take hr (by rfl) T.g_w_take T.F_w_take.kp T.b_w_take .nil pass0 (pa_cons (pv 0) (pa_cons pe_int pa_nil))))) pss_nil)
      (pss_one (ps_ret (pe_ifExp (pt_cmpR op_eq (pv 1) pe_int (nomark _)) pe_int (pe_call G_w_take hr (by rfl) T.g_w_take T.F_w_take.kp T.b_w_take .nil pass0 (pa_cons (pv 0) (pa_cons pe_int pa_nil))))))))), ?_⟩
    refine ⟨_, rfl, t, 4, n, rfl, by decide, by decide, hT, by omega, fun v H1 v0 v1 hT1 hK1 => ?_⟩
    refine ⟨_, rfl, rfl, _, rfl, ite2 (fun e => ?_) (fun e => ?_)⟩
    · exact q _ _ (by decide) (by decide) (hT1.mono (by omega)) hK1
    refine ⟨_, rfl, rfl, _, rfl, ite2 (fun e => ?_) (fun e => ?_)⟩
    · exact ⟨_, rfl, t, 30, _, rfl, by decide, by decide, hT1, by omega, fun u H2 u0 u1 hT2 hK2 => q _ _ u0 (by omega) hT2 (hK1.trans hK2)⟩
    refine ⟨_, rfl, rfl, _, rfl, ite2 (fun e => ?_) (fun e => ?_)⟩
    · exact q _ _ (by decide) (by decide) (hT1.mono (by omega)) hK1
    · exact ⟨_, rfl, t, 9600, _, rfl, by decide, by decide, hT1, by omega, fun u H2 u0 u1 hT2 hK2 => q _ _ u0 u1 hT2 (hK1.trans hK2)⟩
/-- each of the values is a page -/
def PgP (H : Hp) (xs : List V) : Prop := ∀ x ∈ xs, ∃ k, Nk H x k ∧ PgK k
theorem PgP.at {H H' : Hp} {xs : List V} (t : Tups H H') (h : PgP H xs) : PgP H' xs := fun x hx => let ⟨k, a, b⟩ := h x hx; ⟨k, a.at t, b⟩
theorem PgP.all {H : Hp} : ∀ {xs : List V}, PgP H xs → ∃ ks, PgsAt H xs ks
  | [], _ => ⟨[], .nil, fun k hk => by cases hk⟩
  | x :: l, h => by
    obtain ⟨k, a, b⟩ := h x (.head _)
    obtain ⟨ks, c, d⟩ := PgP.all (xs := l) fun y hy => h y (.tail _ hy)
    exact ⟨k :: ks, .cons a c, fun y hy => (List.mem_cons.mp hy).elim (fun e => by rw [e]; exact b) (d y)⟩
theorem PgP.app {H : Hp} {xs ys : List V} (a : PgP H xs) (b : PgP H ys) : PgP H (xs ++ ys) := fun x hx => (List.mem_append.mp hx).elim (a x) (b x)
theorem PgP.one {H : Hp} {x : V} {k : NestedKey} (a : Nk H x k) (b : PgK k) : PgP H [x] := fun y hy => ⟨k, by rw [List.mem_singleton.mp hy]; exact a, b⟩
theorem PgP.erase {H : Hp} {xs : List V} (a : PgP H xs) (n : Nat) : PgP H (xs.eraseIdx n) := fun x hx => a x (List.mem_of_mem_eraseIdx hx)
theorem tups_lst {H : Hp} {p : Addr} {xs : List V} {o : HO} (h : H p = some (.lst xs)) : Tups H (upd H p o) := fun b zs e => by
  rw [upd_ne (fun z => by rw [z, h] at e; cases e)]
  exact e
theorem Tups.kpc {t c : Addr} {H H' : Hp} {n : Nat} (hT : TapC H t c n) (k : Kp t H H') : Tups H H' := Tups.kp hT.tap k
/-- names behind a page's kind and day -/
def restK : NestedKey → List NestedKey
  | .tup (_ :: _ :: r) => r
  | _ => []
def UnX (k : NestedKey) : Prop := ∃ z d r, k = .tup (.text z :: .num d :: r) ∧ RestX z r ∧ 0 ≤ d ∧ d < 10000
def OfN (zs : List Str) (k : NestedKey) : Prop := (∀ nm, NestedKey.text nm ∈ restK k → nm ∈ zs) ∧ UnX k
/-- each of the values is a page of these names -/
def PgN (zs : List Str) (H : Hp) (xs : List V) : Prop := ∀ x ∈ xs, ∃ k, Nk H x k ∧ PgK k ∧ OfN zs k
theorem PgN.pgp {zs : List Str} {H : Hp} {xs : List V} (h : PgN zs H xs) : PgP H xs := fun x hx => let ⟨k, a, b, _⟩ := h x hx; ⟨k, a, b⟩
theorem PgN.at {zs : List Str} {H H' : Hp} {xs : List V} (t : Tups H H') (h : PgN zs H xs) : PgN zs H' xs := fun x hx => let ⟨k, a, b, c⟩ := h x hx; ⟨k, a.at t, b, c⟩
theorem PgN.app {zs : List Str} {H : Hp} {xs ys : List V} (a : PgN zs H xs) (b : PgN zs H ys) : PgN zs H (xs ++ ys) := fun x hx => (List.mem_append.mp hx).elim (a x) (b x)
theorem PgN.one {zs : List Str} {H : Hp} {x : V} {k : NestedKey} (a : Nk H x k) (b : PgK k) (c : OfN zs k) : PgN zs H [x] := fun y hy => ⟨k, by rw [List.mem_singleton.mp hy]; exact a, b, c⟩
def spStory : Sp := fun vs H Q _ => ∃ (t : Addr) (n : Nat), vs = [.ref t] ∧ Tap H t n ∧ n < 900 ∧
  ∀ r p (b : Int) xs (zs : List Str) H', H' r = some (.tup [.int b, .ref p]) → H' p = some (.lst xs) → PgN zs H' xs → zs.length ≤ 12 → (∀ z ∈ zs, Nm z) → zs.Nodup → xs.length ≤ 80 → 1 ≤ xs.length → 0 ≤ b → b < 9600 → p ≠ t → Tap H' t (n + 700) → Kp t H H' → Q (.ref r) H'
theorem ok_wstory (T : Tx K mg w) : FnOk P w K mg base CX0 4 T.f_w_story T.d_w_story ["_law_tap_here"] (spStory) := by
  have G_w_take : FnOk P w K mg base CX0 1 T.f_w_take T.d_w_take ["_law_tap_here", "_law_many"] (spTakeC) := ok_takeC T
  have G_w_names : FnOk P w K mg base CX0 2 T.f_w_names T.d_w_names ["_law_tap_here", "_law_many"] (spNm) := ok_wnm T
  have G_w_base : FnOk P w K mg base CX0 2 T.f_w_base T.d_w_base ["_law_tap_here"] (spBase) := ok_wbase T
  have G_w_home : FnOk P w K mg base CX0 2 T.f_w_home T.d_w_home ["_law_tap_here"] (spWHC) := ok_whomeC T
  have G_w_page : FnOk P w K mg base CX0 3 T.f_w_page T.d_w_page ["_law_tap_here", "_law_names_here", "_law_day"] (spPgNC) := ok_wpgC T
  refine T.F_w_story.ok S_w_story (fun vs H Q E h => ?_) (fun cdv A outer s H vs Q E hr h => ?_)
  · obtain ⟨t, n, rfl, _⟩ := h
    rfl
  · obtain ⟨t, n, rfl, hT, hn, q⟩ := h
    obtain ⟨c0, hT⟩ := tapC_of hT
    refine ⟨_, (pss_cons (ps_set (i := 1) S_w_story.nd rfl (.inr rfl) (pe_call G_w_names (hr.mono (by decide)) (by rfl) T.g_w_names T.F_w_names.kp T.b_w_names .nil pass0 (pa_cons (pv 0) (pa_cons (pe_ifExp (pt_cmpR op_eq (pe_call G_w_take (hr.mono (by decide)) (by rfl) T.g_w_take T.F_w_take.kp T.b_w_take .nil pass0 (pa_cons (pv 0) (pa_cons pe_int pa_nil))) pe_int (nomark _)) pe_int (pe_op op_add pe_int (pe_call G_w_take (hr.mono (by decide)) (by rfl) T.g_w_take T.F_w_take.kp T.b_w_take .nil pass0 (pa_cons (pv 0) (pa_cons pe_int pa_nil))))) pa_nil))))
      (pss_cons (ps_set (i := 2) S_w_story.nd rfl (.inr rfl) (pe_call G_w_base (hr.mono (by decide)) (by rfl) T.g_w_base T.F_w_base.kp T.b_w_base .nil pass0 (pa_cons (pv 0) pa_nil)))
      (pss_cons (ps_set (i := 3) S_w_story.nd rfl (.inr rfl) (pe_ix ix_list (pe_lst (pa_cons pe_int (pa_cons pe_int (pa_cons pe_int (pa_cons pe_int (pa_cons pe_int (pa_cons pe_int pa_nil))))))) (pe_call G_w_take (hr.mono (by decide)) (by rfl) T.g_w_take T.F_w_take.kp T.b_w_take .nil pass0 (pa_cons (pv 0) (pa_cons pe_int pa_nil))) (fun _ _ => rfl)))
      (pss_cons (ps_set (i := 4) S_w_story.nd rfl (.inl rfl) (pe_ifExp (pt_cmpR op_eq (pe_call G_w_take (hr.mono (by decide)) (by rfl) T.g_w_take T.F_w_take.kp T.b_w_take .nil pass0 (pa_cons (pv 0) (pa_cons pe_int pa_nil))) pe_int (nomark _)) (pe_op op_fdiv (pe_op op_add (pe_callB call_len_seq (by rfl) T.m_len PySem.boot_len (pa_cons (pv 1) pa_nil)) pe_int) pe_int) (pe_op op_add pe_int (pe_call G_w_take (hr.mono (by decide)) (by rfl) T.g_w_take T.F_w_take.kp T.b_w_take .nil pass0 (pa_cons (pv 0) (pa_cons (pe_callB call_len_seq (by rfl) T.m_len PySem.boot_len (pa_cons (pv 1) pa_nil)) pa_nil))))))
      (pss_cons (ps_setLc (i := 6) (own := [("_law_k", 5)]) (g := gName 5) (tt := tYes) (by rfl) S_w_story.nd rfl rfl (sw_true rfl rfl rfl (by decide +kernel)) (pi_range1 (by rfl) T.m_range (pa_cons (pv 4) pa_nil)) (blkOk_by (own := [("_law_k", 5)]) (N := N_w_story) (sc := defScope s_w_story) (by decide +kernel)) (fun _ _ _ _ _ => (pg_name (i := 5) S_w_story.nd rfl (.inl rfl))) (fun _ _ _ _ _ => pts_nil) (fun _ _ _ _ _ => (pe_tup (pa_cons pe_str (pa_cons (pe_op op_add (pv 2) (pe_call G_w_take (hr.mono (by decide)) (by rfl) T.g_w_take T.F_w_take.kp T.b_w_take .nil pass0 (pa_cons (pv 0) (pa_cons (pe_callB (call_min2 (by rfl)) (by rfl) T.m_min (by decide +kernel) (pa_cons (pv 3) (pa_cons pe_int pa_nil))) pa_nil)))) (pa_cons (pe_ix (r := rIxL K) ix_list (pv 1) (pv 5) (fun _ _ => rfl)) (pa_cons (pe_call G_w_home (hr.mono (by decide)) (by rfl) T.g_w_home T.F_w_home.kp T.b_w_home .nil pass0 (pa_cons (pv 0) pa_nil)) pa_nil)))))))
      (pss_cons (ps_for PassesOwn.never rfl (pi_range1 (by rfl) T.m_range (pa_cons (pe_ifExp (pt_cmpR op_eq (pe_call G_w_take (hr.mono (by decide)) (by rfl) T.g_w_take T.F_w_take.kp T.b_w_take .nil pass0 (pa_cons (pv 0) (pa_cons pe_int pa_nil))) pe_int (nomark _)) (pe_call G_w_take (hr.mono (by decide)) (by rfl) T.g_w_take T.F_w_take.kp T.b_w_take .nil pass0 (pa_cons (pv 0) (pa_cons pe_int pa_nil))) (pe_call G_w_take (hr.mono (by decide)) (by rfl) T.g_w_take T.F_w_take.kp T.b_w_take .nil pass0 (pa_cons (pv 0) (pa_cons pe_int pa_nil)))) pa_nil)) (pg_name (i := 5) S_w_story.nd rfl (.inl rfl))
      (pss_one (ps_expr (pe_bm PySem.F.plainAttrs_list PySem.F.slot_list_append PySem.F.type_list_append mt_append (pv 6) (pa_cons (pe_call G_w_page hr (by rfl) T.g_w_page T.F_w_page.kp T.b_w_page .nil pass0 (pa_cons (pv 0) (pa_cons (pv 1) (pa_cons (pe_op op_add (pv 2) (pe_call G_w_take (hr.mono (by decide)) (by rfl) T.g_w_take T.F_w_take.kp T.b_w_take .nil pass0 (pa_cons (pv 0) (pa_cons (pv 3) pa_nil)))) pa_nil)))) pa_nil)))))
      (pss_one (ps_ret (pe_tup (pa_cons (pv 2) (pa_cons (pv 6) pa_nil))))))))))), ?_⟩
    refine ⟨_, rfl, _, rfl, t, 8, n, c0, rfl, by decide, by decide, hT, by omega, fun v H1 v0 v1 hT1 hK1 => ⟨rfl, _, rfl, ite2 (fun e => ?_) (fun e => ?_)⟩⟩
    case' refine_1 =>
      refine ⟨t, 12, n + 1, rfl, by decide, by decide, hT1.tap, by omega, fun p zs H3 hp lz _ pz pnd pt hT3 hK3 _ => ?_⟩
      have hK13 := hK1.trans hK3
      have l2 : 2 ≤ zs.length := by omega
      have l12 : zs.length ≤ 12 := by omega
      have hT3 := hT3.mono (show _ ≤ n + 20 by omega)
    case' refine_2 =>
      refine ⟨_, rfl, t, 5, _, c0, rfl, by decide, by decide, hT1, by omega, fun u H2 u0 u1 hT2 hK2 => ⟨_, _, rfl, rfl, t, (2 + u).toNat, n + 2, by show [V.ref t, V.int (2 + u)] = _; rw [Int.toNat_of_nonneg (by omega)], by omega, by omega, hT2.tap, by omega, fun p zs H3 hp lz _ pz pnd pt hT3 hK3 _ => ?_⟩⟩
      have hK13 := hK1.trans (hK2.trans hK3)
      have l2 : 2 ≤ zs.length := by omega
      have l12 : zs.length ≤ 12 := by omega
      have hT3 := hT3.mono (show _ ≤ n + 20 by omega)
    all_goals
      refine ⟨_, rfl, t, _, rfl, hT3, by omega, fun b H4 b0 b1 hT4 hK4 => ?_⟩
      obtain ⟨c, hT4⟩ := tapC_of hT4
      have hp4 := hK4 _ _ pt hp
      refine ⟨sz (by show 6 ≤ 1000; decide), fun p5 n5 => ⟨_, rfl, t, 6, _, c, rfl, by decide, by decide, hT4.new n5, by omega, fun v5 H5 v50 v51 hT5 hK5 => ?_⟩⟩
      have hp5 := hK5 _ _ pt (same_upd n5 _ _ hp4)
      have hl5 := hK5 _ _ (hT4.ne n5).1 upd_same
      have span : ∃ sp : Int, atI [V.int 1, .int 3, .int 8, .int 20, .int 60, .int 401] v5 = some (.int sp) ∧ 0 < sp ∧ sp ≤ 401 := by
        have h6 : v5 = 0 ∨ v5 = 1 ∨ v5 = 2 ∨ v5 = 3 ∨ v5 = 4 ∨ v5 = 5 := by omega
        rcases h6 with rfl | rfl | rfl | rfl | rfl | rfl <;> exact ⟨_, rfl, by decide, by decide⟩
      obtain ⟨sp, hsp, sp0, sp1⟩ := span
      refine ⟨p5, _, v5, .int sp, rfl, rfl, .inl (.inl hl5), hsp, ?_⟩
      have hK : Kp t H H5 := hK13.trans (hK4.trans (((Kp.refl t H4).new n5).trans hK5))
      have hT5 := hT5.mono (show _ ≤ n + 23 by omega)
      have lzs : (zs.map V.str).length = zs.length := List.length_map _
      refine ⟨_, rfl, t, 2, _, c, rfl, by decide, by decide, hT5, by omega, fun v6 H6 v60 v61 hT6 hK6 => ⟨rfl, _, rfl, ite2 (fun e6 => ?_) (fun e6 => ?_)⟩⟩
    all_goals
      have hp6 := hK6 _ _ pt hp5
    case' refine_1.refine_1 | refine_2.refine_1 =>
      refine ⟨_, rfl, p, _, rfl, .inl (.inl (.inl hp6)), _, _, rfl, rfl, _, _, rfl, rfl, ⟨by decide, by omega⟩, ?_⟩
      obtain ⟨fI, hf⟩ : ∃ fI : Int, fI = (((zs.map V.str).length : Nat) + 1 : Int) / 2 := ⟨_, rfl⟩
      show gName 4 (V.int ((((zs.map V.str).length : Nat) + 1 : Int) / 2)) _ _ _
      rw [← hf]
      have f0 : 1 ≤ fI := by omega
      have f1 : fI ≤ zs.length := by omega
      have hT7 := hT6.mono (show _ ≤ n + 25 by omega)
      have hp7 := hp6
      have hK7 := hK.trans hK6
      clear hf
    case' refine_1.refine_2 | refine_2.refine_2 =>
      refine ⟨_, rfl, _, rfl, p, _, rfl, .inl (.inl (.inl hp6)), t, (zs.map V.str).length, _, c, rfl, by omega, by omega, hT6, by omega, fun u7 H7 u70 u71 hT7 hK7 => ⟨_, _, rfl, rfl, ?_⟩⟩
      obtain ⟨fI, hf⟩ : ∃ fI : Int, fI = 1 + u7 := ⟨_, rfl⟩
      show gName 4 (V.int (1 + u7)) _ _ _
      rw [← hf]
      have f0 : 1 ≤ fI := by omega
      have f1 : fI ≤ zs.length := by omega
      have hT7 := hT7.mono (show _ ≤ n + 25 by omega)
      have hp7 := hK7 _ _ pt hp6
      have hK7 := (hK.trans hK6).trans hK7
      clear hf
    all_goals
      obtain ⟨fN, rfl⟩ : ∃ fN : Nat, fI = fN := ⟨fI.toNat, by omega⟩
      refine ⟨_, rfl, _, rfl, by omega, by omega, fun D nD => ?_⟩
      obtain ⟨Dt, Dc⟩ := hT7.ne nD
      have fD := kp_none hK7 nD Dt
      refine lc_range (lo := 0) (n := fN) (fun i Hx => ∃ xs, Hx D = some (.lst xs) ∧ PgN zs Hx xs ∧ xs.length = i ∧ TapC Hx t c (n + 25 + 3 * i) ∧ Hx p = some (.lst (zs.map V.str)) ∧ Kp t H Hx) ⟨[], upd_same, fun x hx => (by cases hx), rfl, hT7.new nD, same_upd nD _ _ hp7, hK7.new nD⟩ ?_ ?_
      · rintro i Hx hi ⟨xs, hD, px, lx, hTx, hpx, hKx⟩
        refine ⟨rfl, tYesT ?_⟩
        have iz : i < zs.length := by omega
        have m0 : 0 < (if (3 : Int) < sp then 3 else sp) := by split <;> omega
        have m1 : (if (3 : Int) < sp then 3 else sp) ≤ 3 := by split <;> omega
        refine ⟨_, rfl, _, rfl, _, rfl, _, _, rfl, t, _, _, c, rfl, m0, by omega, hTx, by omega, fun v H8 v0 v1 hT8 hK8 => ⟨_, _, rfl, rfl, ?_⟩⟩
        have hp8 := hK8 _ _ pt hpx
        have hD8 := hK8 _ _ Dt hD
        refine ⟨_, rfl, _, rfl, p, _, _, .str zs[i], rfl, rfl, .inl (.inl hp8), ?_, _, rfl, t, _, c, rfl, hT8, by omega, fun r ws H9 hr9 hw hws hT9 hK9 => ?_⟩
        · rw [show (0 : Int) + (i : Int) = (i : Int) by omega]
          exact atI_nat (by rw [List.getElem?_map, List.getElem?_eq_getElem iz]; rfl)
        have pzi := pz _ (List.getElem_mem iz)
        have izi := List.getElem_mem iz
        generalize zs[i] = zi at pzi izi ⊢
        have hD9 := hK9 _ _ Dt hD8
        have hp9 := hK9 _ _ pt hp8
        refine ⟨sz (by show 4 ≤ 1000; decide), fun p10 n10 => ?_⟩
        have sm := same_upd (o := .tup [.str "house", .int (b + v), .str zi, .ref r]) n10
        have nk : Nk (upd H9 p10 (.tup [.str "house", .int (b + v), .str zi, .ref r])) (.ref p10) (.tup (.text "house" :: .num (b + v) :: [.text zi, .tup (ws.map .num)])) := .tup upd_same (.cons (.str _) (.cons (.int _) (.cons (.str zi) (.cons (nk_home (sm _ _ hr9)) .nil))))
        have pg : PgK (.tup (.text "house" :: .num (b + v) :: [.text zi, .tup (ws.map .num)])) := ⟨_, _, _, rfl, .house pzi.plain hw, by omega, by omega⟩
        have hD10 := sm _ _ hD9
        have nmi : ∀ nm, NestedKey.text nm ∈ restK (.tup (.text "house" :: .num (b + v) :: [.text zi, .tup (ws.map .num)])) → nm ∈ zs := by
          rintro nm hm
          simp [restK] at hm
          rw [hm]; exact izi
        have pD : p ≠ D := fun z => by rw [z, nD] at hp7; cases hp7
        refine ⟨xs, hD10, by rw [lx]; exact small1000 (by omega), xs ++ [.ref p10], upd_same, ?_, ?_, ?_, ?_, ?_⟩
        · exact ((((px.at (Tups.kpc hTx hK8)).at (Tups.kpc hT8 hK9)).at (.same sm)).app (.one nk pg ⟨nmi, _, _, _, rfl, .house pzi hw hws, by omega, by omega⟩)).at (tups_lst hD10)
        · rw [List.length_append, lx]; rfl
        · exact ((hT9.new n10).upd Dt Dc).mono (by omega)
        · rw [upd_ne pD]; exact sm _ _ hp9
        · exact kp_fresh fD ((hKx.trans (hK8.trans hK9)).new n10)
      · rintro H8 ⟨xs, hD, px, lx, hT8, hp8, hK8⟩
        have pD : p ≠ D := fun z => by rw [z, nD] at hp7; cases hp7
        have hT8 := hT8.mono (show _ ≤ n + 61 by omega)
        have l1 : 1 ≤ xs.length := by omega
        have lx : xs.length ≤ 12 := by omega
        clear hT7 hK7 hp7 hT6 hK6 hp6 hT5 hK5 hp5
        refine ⟨_, rfl, t, 8, _, c, rfl, by decide, by decide, hT8, by omega, fun v9 H9 v90 v91 hT9 hK9 => ⟨rfl, _, rfl, ite2 (fun e9 => ?_) (fun e9 => ?_)⟩⟩
        case' refine_1 => refine ⟨_, rfl, t, 60, _, c, rfl, by decide, by decide, hT9, by omega, fun g H10 g0 g1 hT10 hK10 => ?_⟩
        case' refine_2 => refine ⟨_, rfl, t, 20, _, c, rfl, by decide, by decide, hT9, by omega, fun g H10 g0 g1 hT10 hK10 => ?_⟩
        all_goals
          have hK910 := hK9.trans hK10
          have hp10 := hK910 _ _ pt hp8
          have hD10 := hK910 _ _ Dt hD
          have px10 := px.at (Tups.kpc hT8 hK910)
          have hKH := hK8.trans hK910
          obtain ⟨gN, rfl⟩ : ∃ gN : Nat, g = gN := ⟨g.toNat, by omega⟩
          refine ⟨_, rfl, by omega, by omega, ?_⟩
          refine for_range (lo := 0) (n := gN) (fun i σ Hx => ∃ (y4 y5 : Option V) (us : List V), σ = [some (.ref t), some (.ref p), some (.int b), some (.int sp), y4, y5, some (.ref D)] ∧ Hx D = some (.lst us) ∧ us.length ≤ 12 + i ∧ 1 ≤ us.length ∧ PgN zs Hx us ∧ Hx p = some (.lst (zs.map V.str)) ∧ TapC Hx t c (n + 63 + 9 * i) ∧ Kp t H Hx) ?_ ?_ ?_
          · exact ⟨_, _, xs, rfl, hD10, by omega, l1, px10, hp10, hT10, hKH⟩
          · rintro i σ Hx hi ⟨y4, y5, us, rfl, hDx, lu, lu1, pu, hpx, hTx, hKx⟩
            refine ⟨_, rfl, .inl ⟨rfl, _, .inl (.inl hDx)⟩, _, rfl, _, rfl, _, rfl, _, rfl, _, rfl, t, sp, _, c, rfl, sp0, by omega, hTx, by omega, fun v H11 v0 v1 hT11 hK11 => ?_⟩
            refine ⟨_, _, rfl, rfl, t, p, zs, b + v, _, c, rfl, hK11 _ _ pt hpx, by omega, by omega, pz, pnd, pt, hT11, by omega, fun r z rest H12 nk re nmi hT12 hK12 => ?_⟩
            have hD12 := hK12 _ _ Dt (hK11 _ _ Dt hDx)
            have pg : PgK (.tup (.text z :: .num (b + v) :: rest)) := ⟨z, b + v, rest, rfl, re.rest, by omega, by omega⟩
            refine ⟨D, us, .ref r, rfl, rfl, hD12, small1000 (by omega), _, _, us ++ [.ref r], rfl, upd_same, ?_, ?_, ?_, ?_, ?_, ?_⟩
            · rw [List.length_append]; exact Nat.succ_le_succ lu
            · rw [List.length_append]; omega
            · exact (((pu.at (Tups.kpc hTx hK11)).at (Tups.kpc hT11 hK12)).app (.one nk pg ⟨nmi, _, _, _, rfl, re, by omega, by omega⟩)).at (tups_lst hD12)
            · rw [upd_ne pD]; exact hK12 _ _ pt (hK11 _ _ pt hpx)
            · exact (hT12.upd Dt Dc).mono (by omega)
            · exact kp_fresh fD (hKx.trans (hK11.trans hK12))
          · rintro σ Hx ⟨y4, y5, us, rfl, hDx, lu, lu1, pu, hpx, hTx, hKx⟩
            refine ⟨_, rfl, _, rfl, sz (by show 2 ≤ 1000; decide), fun r13 n13 => ?_⟩
            have sm := same_upd (o := .tup [.int b, .ref D]) n13
            exact q r13 D b us zs _ upd_same (sm _ _ hDx) (pu.at (.same sm)) l12 pz pnd (by omega) lu1 b0 b1 Dt ((hTx.tap.mono (by omega)).new n13) (hKx.new n13)
end
end L05

set_option Elab.async false
set_option linter.all false
set_option maxRecDepth 100000
set_option maxHeartbeats 2000000
/-! the law's own rank of a page: day, kind, the rest; it orders as the place does -/
namespace My
open PySem PySem.Spec PyProof.Rows L2
def rank : NestedKey → NestedKey
  | .tup (.text z :: .num d :: r) => .tup [.num d, .num (ixK z), .tup r]
  | k => k
theorem rank_eq (z : Str) (d : Int) (r : List NestedKey) : rank (.tup (.text z :: .num d :: r)) = .tup [.num d, .num (ixK z), .tup r] := rfl
theorem lt_like {x y : NestedKey} {xs ys xs' ys' : List NestedKey} (h : x = y → ltAll xs ys = ltAll xs' ys') : ltAll (x :: xs) (y :: ys) = ltAll (x :: xs') (y :: ys') := by
  rw [ltAll, ltAll.eq_4 x xs']
  by_cases e : x = y
  · rw [if_pos e, if_pos e, h e]
  · rw [if_neg e, if_neg e]
theorem lt_one (x y : NestedKey) : ltAll [x] [y] = if x = y then some false else ltK x y := by
  rw [ltAll]
  rfl
theorem rank_place {k k' : NestedKey} (h : PgK k) (h' : PgK k') : ltK (rank k) (rank k') = ltK (place k) (place k') := by
  obtain ⟨z, d, r, rfl, hr, _⟩ := h
  obtain ⟨z', d', r', rfl, hr', _⟩ := h'
  rw [place_eq, place_eq, rank_eq, rank_eq, ltK, ltK]
  refine lt_like fun ed => lt_like fun ei => ?_
  injection ed with ed
  subst ed
  injection ei with ei
  have ez := ixK_inj hr hr' (Int.ofNat.inj ei)
  subst ez
  rw [lt_one, lt_one]
  by_cases er : r = r'
  · subst er
    rw [if_pos rfl, if_pos rfl]
  · rw [if_neg (fun q => er (by injection q)), if_neg (fun q => er (by simpa using q)), ltK, ltK, ltAll, if_pos rfl, ltAll, if_pos rfl]
theorem rank_head {k : NestedKey} (h : PgK k) : ∃ i r, rank k = .tup (.num i :: r) := by
  obtain ⟨z, d, r, rfl, _⟩ := h
  exact ⟨_, _, rfl⟩
theorem rank_lt {k k' : NestedKey} (h : PgK k) (h' : PgK k') : ∃ c, ltK (rank k) (rank k') = some c := by
  rw [rank_place h h']
  exact place_lt h h'
theorem rank_ahead {k k' : NestedKey} (h : PgK k) (h' : PgK k') : lexT (toks (rank k)) (toks (rank k')) = ahead k k' := by
  have e := (rank_place h h').trans (ahead_lt h h')
  obtain ⟨i, r, e1⟩ := rank_head h
  obtain ⟨i', r', e2⟩ := rank_head h'
  rw [e1, e2, ltK] at e
  have := lex_tup e
  rw [← e1, ← e2] at this
  exact this
theorem rank_depth {k : NestedKey} (h : PgK k) : (rank k).depth ≤ 50 := by
  have := (place_depth h).1
  obtain ⟨z, d, r, rfl, _⟩ := h
  rw [place_eq] at this
  rw [rank_eq]
  simp only [NestedKey.depthAll, NestedKey.depth] at this ⊢
  omega
end My

set_option Elab.async false
set_option linter.all false
set_option maxRecDepth 100000
set_option maxHeartbeats 2000000
namespace L05
open PySem PySem.Spec PyProof.Rows L2 My
section
variable {P : Program} {w : World} {K : PySem.W.Frag} {mg : Str → Option Value} {base : Heap}
theorem ixl_at {z : Str} {r : List NestedKey} (h : Rest z r) : (kinds.map V.str)[ixK z]? = some (.str z) ∧ eqV (.str z) (.str z) = true ∧ ∀ (m : Nat) (z' : V), m < ixK z → (kinds.map V.str)[m]? = some z' → eqV z' (.str z) = false := by
  obtain ⟨a, b⟩ := ixK_at h
  refine ⟨by rw [List.getElem?_map, a]; rfl, by simp [eqV], fun m z' lt e => ?_⟩
  rw [List.getElem?_map] at e
  cases q : kinds[m]? with
  | none => rw [q] at e; cases e
  | some y =>
    rw [q] at e
    cases e
    have := b m lt
    rw [q] at this
    have ne : y ≠ z := fun w => this (by rw [w])
    simp [eqV, ne]
theorem ok_wrank (T : Tx K mg w) : FnOk P w K mg base CX0 1 T.f_w_rank T.d_w_rank ["_law_page_here"] (spKey rank PgK) := by
  refine T.F_w_rank.ok S_w_rank (fun vs H Q E h => ?_) (fun cdv A outer s H vs Q E hr h => ?_)
  · obtain ⟨x, k, rfl, _⟩ := h
    rfl
  · obtain ⟨x, k, rfl, hx, ⟨z, d, r, rfl, hr2, d0, d1⟩, q⟩ := h
    cases hx with
    | @tup a xs _ ha hk =>
      cases hk with
      | @cons v1 _ xs1 _ n1 hk =>
        cases n1
        cases hk with
        | @cons v2 _ xs2 _ n2 hk =>
          cases n2
          refine ⟨_, (pss_cons (ps_set (i := 1) S_w_rank.nd rfl (.inl rfl) (pe_lst (pa_cons pe_str (pa_cons pe_str (pa_cons pe_str (pa_cons pe_str (pa_cons pe_str (pa_cons pe_str (pa_cons pe_str (pa_cons pe_str pa_nil))))))))))
      (pss_one (ps_ret (pe_tup (pa_cons (pe_ix ix_tup (pv 0) pe_int (fun _ _ => rfl)) (pa_cons (pe_bm PySem.F.plainAttrs_list PySem.F.slot_list_index PySem.F.type_list_index mt_index (pv 1) (pa_cons (pe_ix ix_tup (pv 0) pe_int (fun _ _ => rfl)) pa_nil)) (pa_cons (pe_slice sl_tupA (pv 0) (po_some pe_int) po_none) pa_nil))))))), ?_⟩
          refine ⟨sz (by show 8 ≤ 1000; decide), fun p1 n1 => ?_⟩
          have sm1 := same_upd (o := .lst (kinds.map V.str)) n1
          have ha1 := sm1 _ _ ha
          have hl : upd H p1 (.lst (kinds.map V.str)) p1 = some (.lst (kinds.map V.str)) := upd_same
          obtain ⟨i1, i2, i3⟩ := ixl_at hr2
          have fl : (kinds.map V.str).all flatV = true := rfl
          refine ⟨_, rfl, a, _, _, .int d, rfl, rfl, .inl (.inl ha1), at_of (j := 1) rfl rfl, ?_⟩
          refine ⟨_, rfl, .inl ⟨rfl, _, .inl (.inl hl)⟩, _, rfl, a, _, _, .str z, rfl, rfl, .inl (.inl ha1), at_of (j := 0) rfl rfl, p1, _, .str z, ixK z, _, rfl, rfl, .inl (.inl hl), rfl, fl, i1, i2, i3, ?_⟩
          refine ⟨_, rfl, _, rfl, np_in (sl_in ha1 fun r1 H2 s2 e4 => ?_)⟩
          rw [cut2] at e4
          refine ⟨sz (by show 3 ≤ 1000; decide), fun p3 n3 => ?_⟩
          have sm3 := same_upd (o := .tup [.int d, .int (ixK z), .ref r1]) n3
          have sA := sm1.trans (s2.trans sm3)
          exact q _ _ sA (.tup upd_same (.cons (.int d) (.cons (.int _) (.cons (.tup (sm3 _ _ e4) (hk.at (.same sA))) .nil))))
def spWBook : Sp := fun vs H Q _ => ∃ (a : Addr) (xs : List V), vs = [.ref a] ∧ H a = some (.lst xs) ∧ PgP H xs ∧ xs.length ≤ 900 ∧
  ∀ r ys ls ks H', Same H H' → NkAll H xs ks → H' r = some (.tup ys) → NkAll H' ys ls → Ord ls → (∀ k, k ∈ ls ↔ k ∈ ks) → (∀ k ∈ ks, PgK k) → ys.length ≤ xs.length → Q (.ref r) H'
theorem ok_wbook (T : Tx K mg w) : FnOk P w K mg base CX0 3 T.f_w_book T.d_w_book ["_law_some"] (spWBook) := by
  have K_w_rank : FnOk P w K mg base CX0 1 T.f_w_rank T.d_w_rank ["_law_page_here"] (spKey rank PgK) := ok_wrank T
  refine T.F_w_book.ok S_w_book (fun vs H Q E h => ?_) (fun cdv A outer s H vs Q E hr h => ?_)
  · obtain ⟨a, xs, rfl, _⟩ := h
    rfl
  · obtain ⟨a, xs, rfl, ha, px, lx, q⟩ := h
    obtain ⟨ks, nk, pk⟩ := px.all
    have lk := nk.length
    /- what holds between two turns -/
    have turn : ∀ (D : Addr), H D = none → ∀ (i : Nat) (x : V) (H2 : Hp), xs[i]? = some x → InvO P w H D ks i H2 →
        ∃ b k ps, x = .ref b ∧ NdAt P w H2 D ps ∧ Nk H2 (.ref b) k ∧ k.depth ≤ 8 ∧ ps.length < sizeLine ∧ InvO P w H D ks (i + 1) (upd H2 D (ND P w D (putN ps k b))) := by
      rintro D nD i x H2 hx ⟨ps, o, rfl, hn, nd, hm, hl, hp⟩
      obtain ⟨k, hk, nx⟩ := nk.get hx
      have pgk := pk k (List.mem_of_getElem? hk)
      have dk := (place_depth pgk).2
      have t : Tups H (upd H D o) := fun c ys e => by rw [upd_ne (ne_of_none e nD)]; exact e
      obtain ⟨b, rfl⟩ : ∃ b, x = .ref b := by
        obtain ⟨z, d, r, rfl, _⟩ := pgk
        cases nx with
        | tup _ _ => exact ⟨_, rfl⟩
      have hi := (List.getElem?_eq_some_iff.mp hx).1
      obtain ⟨g1, g2, g3⟩ := putN_keys ps k b
      refine ⟨b, k, ps, rfl, hn, nx.at t, dk, small1000 (by omega), putN ps k b, _, upd_upd', nd_put hn (nx.at t) dk (nd_ntup hn), g2 nd, fun y => ?_, by omega, fun p hp2 => ?_⟩
      · rw [g1 y, hm y, List.take_add_one, hk]
        simp only [Option.toList, List.mem_append, List.mem_singleton]
        exact Or.comm
      · rcases putN_mem hp2 with h | h
        · exact hp p h
        · rw [h]; exact pgk
    have start : ∀ (D : Addr), H D = none → InvO P w H D ks 0 (upd H D (.dK [])) := fun D nD => ⟨[], _, rfl, ⟨.inr ⟨rfl, upd_same⟩, fun p hp => by cases hp⟩, List.nodup_nil, fun k => by simp, Nat.zero_le _, fun p hp => by cases hp⟩
    have stay : ∀ {D : Addr} {i : Nat} {H2 : Hp}, H D = none → InvO P w H D ks i H2 → Same H H2 := fun {D i H2} nD h => by
      obtain ⟨ps, o, rfl, _⟩ := h
      exact same_upd nD
    refine ⟨_, (pss_cons (ps_set (i := 1) S_w_book.nd rfl (.inl rfl) pe_dnewK)
      (pss_cons (ps_for PassesOwn.never rfl (pi_list (pv 0)) (pg_name (i := 2) S_w_book.nd rfl (.inl rfl))
      (pss_one (ps_dputN hr.units (pv 1) (pv 2) pe_bl rfl)))
      (pss_one (ps_ret (pe_callTy call_tuple_of (by rfl) T.m_tuple (by decide +kernel) (pa_cons (pe_callBK (cr_sortD (by rfl) K_w_rank hr T.b_w_rank) (by rfl) T.m_sorted (by decide +kernel) (pa_cons (pv 1) pa_nil) (pk_cons (pe_glob (v := .ref T.f_w_rank) (by rfl) T.g_w_rank rfl) pk_nil)) pa_nil)))))), ?_⟩
    intro D nD
    refine ⟨_, rfl, a, rfl, ⟨_, .inl (.inl (same_upd nD _ _ ha))⟩, ?_⟩
    refine for_list (xs := xs) (fun i σ Hx => (∃ y2, σ = [some (.ref a), some (.ref D), y2]) ∧ InvO P w H D ks i Hx) ⟨⟨_, rfl⟩, start D nD⟩ ?_ ?_ ?_
    · rintro i σ Hx hi ⟨_, h⟩
      exact .inl (.inl (stay nD h _ _ ha))
    · rintro i x σ Hx hx ⟨⟨y2, rfl⟩, h⟩
      obtain ⟨b, k, ps, rfl, c1, c2, c3, c4, c5⟩ := turn D nD i x Hx hx h
      exact ⟨_, rfl, _, rfl, D, b, k, ps, rfl, rfl, rfl, c1, c2, c3, c4, ⟨_, rfl⟩, c5⟩
    · rintro σ H2 ⟨⟨y2, rfl⟩, h⟩
      obtain ⟨ps, o, eH, hn, nd, hm, hl, hp⟩ := id h
      rw [List.take_of_length_le (by omega)] at hm
      have sH : Same H H2 := stay nD h
      clear eH h
      refine ⟨_, rfl, D, ps, rfl, rfl, hn, hp, fun p h => rank_head (hp p h), fun p h p2 h2 => rank_lt (hp p h) (hp p2 h2), fun p h => rank_depth (hp p h), Nat.le_of_lt (small1000 (by omega)), fun H3 p s3 np3 np2 => ?_⟩
      refine ⟨p, _, rfl, .inl ⟨.inl (.inl upd_same), fun l nl => ?_⟩⟩
      have s4 : Same H3 (upd H3 p (.lst (sortD rank ps))) := same_upd np3
      have s5 := same_upd (o := .tup (sortD rank ps)) nl
      have sA : Same H2 _ := s3.trans (s4.trans s5)
      obtain ⟨ls, l1, l2, l3⟩ := sortD_ok (F := rank) (fun p h p2 h2 => rank_ahead (hp p h) (hp p2 h2)) (fun p h => (hn.2 p h).1.at (.same sA)) hp nd
      refine q l _ ls ks _ (sH.trans sA) nk upd_same l1 l2 (fun k => (l3 k).trans (hm k)) pk ?_
      unfold sortD
      rw [List.length_map, List.length_mergeSort, List.length_zip, List.length_map, List.length_map]
      omega
end
end L05

set_option Elab.async false
set_option linter.all false
set_option maxRecDepth 100000
set_option maxHeartbeats 2000000
/-! zip(text, tuple) as what is walked -/
namespace My
open PySem PySem.Spec PyProof.Rows L2
/-- the signs of a text and the tuple at b as it stands at each turn, in new pairs -/
def ItzS (K : PySem.W.Frag) (x : Str) (b : Addr) : It where
  go := fun i H => i < x.cps.size ∧ ∃ (ys : List V) (y : V), SqT K H b ys ∧ ys[i]? = some y
  yld := fun i H v H' => ∃ n c y, v = .ref n ∧ H n = none ∧ H' = upd H n (.tup [.str ⟨#[c]⟩, y]) ∧ x.cps[i]? = some c ∧ ∀ ys, SqT K H b ys → ys[i]? = some y
  stop := fun i H => ∃ ys : List V, SqT K H b ys ∧ (i ≤ x.cps.size ∧ i ≤ ys.length) ∧ (i = x.cps.size ∨ i = ys.length)
theorem walk_zipS {K : PySem.W.Frag} {x : Str} {b : Addr} {ys : List V} {n : Nat} (hn : n = min x.cps.size ys.length) :
    Walk (ItzS K x b) n (fun H => SqT K H b ys) (YPair (fun i => x.cps[i]?.map fun c => V.str ⟨#[c]⟩) (fun i => ys[i]?)) where
  goes := fun i H hi q => ⟨by omega, ys, ys[i]'(by omega), q, List.getElem?_eq_getElem _⟩
  stops := fun H q => ⟨ys, q, ⟨by omega, by omega⟩, by omega⟩
  yields := fun i H v H' hi q y => by
    obtain ⟨m, c, u, e1, e2, e3, e4, e5⟩ := y
    exact ⟨m, .str ⟨#[c]⟩, u, e1, e2, e3, by show Option.map _ x.cps[i]? = _; rw [e4]; rfl, e5 ys q⟩
theorem turn_zipS {P : Program} {w : World} {K : PySem.W.Frag} {elts : List Expr} {kk : Nat} {tpos : Pos} {x : Str} {t : Tok} {b z TI TO i1 i2 : Addr} (S : ZipSep2 z TI TO i1 i2 [i1] [i2, b]) (hbi : b ≠ i2) :
    Turn P w K (.Tuple elts kk tpos) (ItzS K x b) [z, TI, TO, i1, i2] z
      (fun i h => IsZip h z TI TO .none ∧ IsTupOf2 h TI (.ref i1) (.ref i2) ∧ (∃ u v, IsTupOf2 h TO u v) ∧ h.IsStrIter i1 (strIterType x) x t i ∧ h.IsTupleIter i2 b i) where
  mem := List.mem_cons_self
  obj := fun i h ⟨hz, hTI, ⟨u, v, hTO⟩, ⟨o1, e1, _, d1⟩, ⟨o2, e2, _, d2⟩⟩ c hc => by
    simp only [List.mem_cons, List.not_mem_nil, or_false] at hc
    rcases hc with rfl | rfl | rfl | rfl | rfl
    · exact ⟨_, hz, nofun⟩
    · exact ⟨_, hTI, nofun⟩
    · exact ⟨_, hTO, nofun⟩
    · exact ⟨o1, e1, fun _ q => by rw [d1] at q; cases q⟩
    · exact ⟨o2, e2, fun _ q => by rw [d2] at q; cases q⟩
  keep := fun i h h' ⟨hz, hTI, ⟨u, v, hTO⟩, ⟨o1, e1, r1⟩, ⟨o2, e2, r2⟩⟩ k =>
    ⟨k _ (by simp) _ hz, k _ (by simp) _ hTI, ⟨u, v, k _ (by simp) _ hTO⟩, ⟨o1, k _ (by simp) _ e1, r1⟩, ⟨o2, k _ (by simp) _ e2, r2⟩⟩
  item := by
    rintro X rfl rfl rfl hc i pins s σ H E I hf ⟨hz, hTI, ⟨u0, v0, hTO⟩, h1, h2⟩ ⟨hi, ys, y, hq, hy⟩
    obtain ⟨its, rv, pl, _⟩ := I.tuple hq
    obtain ⟨u, hu, ru⟩ := rv.get hy
    have hh : X.A.in1.handled = none := I.ok.hd hc
    have hi2 : i < its.toArray.size := by
      have := (List.getElem?_eq_some_iff.mp hu).1
      simpa using this
    have D1 := Draws.text (prog := X.prog) (w := X.w) (A := X.A.in1) hh i1 x t
    have D2 := Draws.tuple (prog := X.prog) (w := X.w) (A := X.A.in1) hh i2 b hbi its.toArray
    refine wpAny_pyNext_zipD2_item S D1 D2 hz hTI hTO h1 ⟨h2, pl⟩ hi hi2 fun x1 x2 h' tk y1 y2 z' TO' a1 a2 hT hsz hk => ?_
    obtain ⟨c, u1, hcx, rfl⟩ := y1
    have hx2 : x2 = u := by
      have y2 : its.toArray[i]? = some x2 := y2
      rw [List.getElem?_toArray, hu] at y2
      exact (Option.some.inj y2).symm
    subst hx2
    have zl := Heap.lt_size hz
    refine ⟨_, rfl, wpAny_letOwnedTupleGo_zip (s := { s with heap := h', toks := tk }) z' fun g gz sb => ?_⟩
    have gT : g.get? s.heap.objs.size = some ⟨.type "tuple", none, .seq #[.str ⟨#[c]⟩ u1, x2], #[]⟩ := by
      rw [sb.2 _ (Nat.ne_of_gt zl)]
      exact hT
    have kept : ∀ a o, a ∉ [z, TI, TO, i1, i2] → s.heap.get? a = some o → g.get? a = some o := fun a o ha e => by
      rw [sb.2 a fun q => ha (by simp [q])]
      exact hk a o (fun q => ha (by simp [q])) (fun q => ha (by simp [q])) (fun q => ha (by simp [q])) (fun q => ha (by simp [q])) e
    have I1 : L2.Inv X pins σ (upd H s.heap.objs.size (.tup [.str ⟨#[c]⟩, y])) { s with heap := g, toks := tk } :=
      I.turnedNew (t' := tk) (ch := [z, TI, TO, i1, i2]) kept hf (Nat.le_refl _) (show ObjOk _ _ _ _ _ (.tup _) from ⟨show 2 ≤ sizeLine by decide, _, .cons ⟨u1, rfl⟩ (.cons ru .nil), ⟨_, gT, rfl, _, rfl⟩⟩)
    have bl : ∀ a ∈ [z, TI, TO, i1, i2], a < s.heap.objs.size := fun a ha => by
      simp only [List.mem_cons, List.not_mem_nil, or_false] at ha
      rcases ha with rfl | rfl | rfl | rfl | rfl
      · exact zl
      · exact Heap.lt_size hTI
      · exact Heap.lt_size hTO
      · obtain ⟨_, e, _⟩ := h1; exact Heap.lt_size e
      · obtain ⟨_, e, _⟩ := h2; exact Heap.lt_size e
    refine ⟨.ref s.heap.objs.size, _, I1, rfl, ⟨_, c, y, rfl, I.hok.fresh (Nat.le_refl _), rfl, hcx, fun l hl => ?_⟩, ⟨gz, ?_, ⟨.str ⟨#[c]⟩ u1, x2, ?_⟩, ?_, ?_⟩, fun a ha => ?_⟩
    · rw [I.tuple_inj hl hq]; exact hy
    · rw [IsTupOf2, sb.2 _ S.TIz]
      exact hk _ _ S.TIz S.TITO S.TIi1 S.TIi2 hTI
    · rw [IsTupOf2, sb.2 _ S.TOz]
      exact TO'
    · obtain ⟨o, e, r⟩ := a1
      exact ⟨o, by rw [sb.2 _ S.zi1.symm]; exact e, r⟩
    · obtain ⟨o, e, r⟩ := a2.1
      exact ⟨o, by rw [sb.2 _ S.zi2.symm]; exact e, r⟩
    · rw [upd_ne (Nat.ne_of_lt (bl a ha))]
      exact (hf a ha).1
  done := by
    rintro X rfl rfl rfl hc i pins s σ H E I hf ⟨hz, hTI, ⟨u0, v0, hTO⟩, h1, h2⟩ ⟨ys, hq, ⟨le1, le2⟩, hend⟩
    obtain ⟨its, rv, pl, _⟩ := I.tuple hq
    have hh : X.A.in1.handled = none := I.ok.hd hc
    have el : its.toArray.size = ys.length := by rw [List.size_toArray, rv.length]
    have D1 := Draws.text (prog := X.prog) (w := X.w) (A := X.A.in1) hh i1 x t
    have D2 := Draws.tuple (prog := X.prog) (w := X.w) (A := X.A.in1) hh i2 b hbi its.toArray
    refine wpAny_pyNext_zipD2_end S D1 D2 hz hTI hTO h1 ⟨h2, pl⟩ le1 (by omega) (by omega) fun h' tk hk => ⟨rfl, ?_⟩
    refine I.turnedL (t' := tk) (ch := [z, TI, TO, i1, i2]) (fun a o ha e => ?_) hf
    exact hk a o (fun q => ha (by simp [q])) (fun q => ha (by simp [q])) (fun q => ha (by simp [q])) (fun q => ha (by simp [q])) e
  self := fun A i s Q E st h => wpAny_pyIter_zip st.1 h
def iZipS (K : PySem.W.Frag) (ta : TA) : TI := fun σ H R => ta σ H fun vs H1 => ∃ x b ys, vs = [.str x, .ref b] ∧ SqT K H1 b ys ∧ R (ItzS K x b) H1
theorem sep5 {n b : Nat} (h : b < n) : ZipSep2 (n + 4) (n + 2) (n + 3) n (n + 1) [n] [n + 1, b] where
  TIz := show ¬ (n + 2 : Nat) = n + 4 by omega
  TOz := show ¬ (n + 3 : Nat) = n + 4 by omega
  TITO := show ¬ (n + 2 : Nat) = n + 3 by omega
  TIi1 := show ¬ (n + 2 : Nat) = n by omega
  mem1 := List.mem_cons_self
  zf1 := fun z => by
    have z : (n + 4 : Nat) = n := List.mem_singleton.mp z
    omega
  Tf1 := fun z => by
    have z : (n + 3 : Nat) = n := List.mem_singleton.mp z
    omega
  TIi2 := show ¬ (n + 2 : Nat) = n + 1 by omega
  mem2 := List.mem_cons_self
  zf2 := fun z => by
    rcases List.mem_cons.mp z with z | z
    · have z : (n + 4 : Nat) = n + 1 := z
      omega
    · have z : (n + 4 : Nat) = b := List.mem_singleton.mp z
      omega
  Tf2 := fun z => by
    rcases List.mem_cons.mp z with z | z
    · have z : (n + 3 : Nat) = n + 1 := z
      omega
    · have z : (n + 3 : Nat) = b := List.mem_singleton.mp z
      omega
  sep1_2 := fun z => by
    rcases List.mem_cons.mp z with z | z
    · have z : (n : Nat) = n + 1 := z
      omega
    · have z : (n : Nat) = b := List.mem_singleton.mp z
      omega
  sep2_1 := fun z => by
    have z : (n + 1 : Nat) = n := List.mem_singleton.mp z
    omega
theorem pi_zipS {X : Cx} {e e2 : Expr} {ta : TA} {p pos tpos : Pos} {elts : List Expr} {kk : Nat} (hg : Gl X "zip") (hm : X.mg "zip" = none) (ha : PA X [e, e2] ta)
    (st1 : starEach [e, e2] X.env = (false, eval e X.env) :: starEach [e2] X.env := by rfl) (st2 : (backTo pos (starEach [e2] X.env)).any (·.1) = false := by rfl) :
    PI X (.Tuple elts kk tpos) (.Call (.Name "zip" p) [e, e2] [] pos) (iZipS X.K ta) where
  run := fun pins s σ H R I h => by
    refine Call_ (ld_blt I hg hm PyProof.Rows.boot_zip (PyProof.Rows.callWith_type1 (thn (ha.run pos pins s σ H _ I h) fun us s1 hus => ?_) st1 st2))
    obtain ⟨vs, H1, I1, r1, x, b, ys, rfl, hq, q⟩ := hus
    rcases r1 with _ | ⟨ra, _ | ⟨rb, rc⟩⟩
    cases rc
    obtain ⟨t, rfl⟩ := ra
    cases rb
    obtain ⟨its, rv, pl, _⟩ := I1.tuple hq
    have lb : b < s1.heap.objs.size := by obtain ⟨o, ho, _⟩ := id pl; exact Heap.lt_size ho
    refine zip_begins2 (begins_text x t) (begins_tuple b its.toArray) trivial pl fun h' hz hTI hTO g1 g2 hsz hk => wpAny_pyIter_zip hz ?_
    have I2 : L2.Inv X pins σ H1 { s1 with heap := h' } := I1.kept (t' := s1.toks) hk
    refine ⟨s1.heap.objs.size + 4, [s1.heap.objs.size + 4, s1.heap.objs.size + 2, s1.heap.objs.size + 3, s1.heap.objs.size, s1.heap.objs.size + 1], _, _, H1, rfl, I2, turn_zipS (x := x) (t := t) (sep5 lb) (Nat.ne_of_lt (Nat.lt_succ_of_lt lb)), ⟨hz, hTI, ⟨_, _, hTO⟩, ⟨_, g1, rfl, rfl⟩, ⟨_, g2, rfl, rfl⟩⟩, fun c hc => ?_, q⟩
    have le : s1.heap.objs.size ≤ c := by
      simp only [List.mem_cons, List.not_mem_nil, or_false] at hc
      rcases hc with e | e | e | e | e
      · exact e ▸ Nat.le_add_right _ _
      · exact e ▸ Nat.le_add_right _ _
      · exact e ▸ Nat.le_add_right _ _
      · exact e ▸ Nat.le_refl _
      · exact e ▸ Nat.le_add_right _ _
    exact I1.fpOk le (I1.hok.fresh le)
end My

set_option Elab.async false
set_option linter.all false
set_option maxRecDepth 100000
set_option maxHeartbeats 2000000
/-! a PAGE by the law's own look -/
namespace My
open PySem PySem.Spec PyProof.Rows L2
def fd : List (Key × V) := [(.inr "house", .str "h"), (.inr "part", .str "nh"), (.inr "join", .str "n"), (.inr "home", .str "h"), (.inr "mourn", .str "m"), (.inr "ahead", .str "n"), (.inr "card", .str "n"), (.inr "visit", .str "n")]
/-- what stands at a sign's place -/
def okS (H : Hp) (f : V) (c : Nat) (x : V) : Bool := if c = 104 then homeB H x else if c = 109 then inW x 1 60 else nameB x && !decide (x = f)
def lookS (H : Hp) (f : V) (cs : List Nat) (r : List V) : Bool := (cs.zip r).all fun p => okS H f p.1 p.2
theorem fd_none {k : Str} (h : formsOf k = none) : valV fd (.inr k) = none := by
  unfold formsOf at h
  repeat' split at h
  all_goals first | cases h | skip
  rename_i h1 h2 h3 h4 h5 h6 h7 h8
  have f : ∀ {a : Str}, ¬ k = a → decide ((Sum.inr a : Key) = Sum.inr k) = false := fun h => decide_eq_false fun z => h (Sum.inr.inj z).symm
  simp only [valV, fd, List.find?_cons, List.find?_nil, f h1, f h2, f h3, f h4, f h5, f h6, f h7, f h8, Option.map_none]
def Suf (fs : List Str) (s : Str) : Prop := (fs = [("name" : Str), "home"] ∧ s = "h") ∨ (fs = [("name" : Str), "name", "home"] ∧ s = "nh") ∨ (fs = [("name" : Str), "name"] ∧ s = "n") ∨ (fs = [("name" : Str), "many"] ∧ s = "m")
theorem fd_some {k : Str} {fs : List Str} (h : formsOf k = some fs) : ∃ s, valV fd (.inr k) = some (.str s) ∧ Suf fs s := by
  unfold formsOf at h
  split at h
  · rename_i e; subst e; cases h; exact ⟨"h", rfl, .inl ⟨rfl, rfl⟩⟩
  split at h
  · rename_i e; subst e; cases h; exact ⟨"nh", rfl, .inr (.inl ⟨rfl, rfl⟩)⟩
  split at h
  · rename_i e; subst e; cases h; exact ⟨"n", rfl, .inr (.inr (.inl ⟨rfl, rfl⟩))⟩
  split at h
  · rename_i e; subst e; cases h; exact ⟨"h", rfl, .inl ⟨rfl, rfl⟩⟩
  split at h
  · rename_i e; subst e; cases h; exact ⟨"m", rfl, .inr (.inr (.inr ⟨rfl, rfl⟩))⟩
  split at h
  · rename_i e; subst e; cases h; exact ⟨"n", rfl, .inr (.inr (.inl ⟨rfl, rfl⟩))⟩
  split at h
  · rename_i e; subst e; cases h; exact ⟨"n", rfl, .inr (.inr (.inl ⟨rfl, rfl⟩))⟩
  split at h
  · rename_i e; subst e; cases h; exact ⟨"n", rfl, .inr (.inr (.inl ⟨rfl, rfl⟩))⟩
  cases h
theorem t_h : (Str.ofString "h").cps.toList = [104] := by decide +kernel
theorem t_nh : (Str.ofString "nh").cps.toList = [110, 104] := by decide +kernel
theorem t_n : (Str.ofString "n").cps.toList = [110] := by decide +kernel
theorem t_m : (Str.ofString "m").cps.toList = [109] := by decide +kernel
theorem page_look {H : Hp} {a : Addr} {k : Str} {fs : List Str} {s : Str} {d f : V} {r : List V} (ha : H a = some (.tup (.str k :: d :: f :: r))) (h : formsOf k = some fs) (hs : Suf fs s) :
    pageB H (.ref a) = (inW d 0 9999 && (nameB f && (decide (r.length = s.cps.toList.length) && lookS H f s.cps.toList r))) := by
  have e1 : pageB H (.ref a) = ((inW d 0 9999 && (decide ((f :: r).length = fs.length) && fitsB H fs (f :: r))) && unlike (namesB fs (f :: r))) := by
    simp only [pageB, ha, formV, h, namesV, Option.getD_some]
  rw [e1]
  clear e1
  cases inW d 0 9999
  · rfl
  rcases hs with ⟨rfl, rfl⟩ | ⟨rfl, rfl⟩ | ⟨rfl, rfl⟩ | ⟨rfl, rfl⟩
  · rw [t_h]
    match r with
    | [] => cases nameB f <;> rfl
    | [x] =>
      show ((true && (true && (nameB f && (homeB H x && true)))) && true) = (true && (nameB f && (true && (homeB H x && true))))
      simp
    | x :: y :: r => simp
  · rw [t_nh]
    match r with
    | [] => cases nameB f <;> rfl
    | [x] => cases nameB f <;> rfl
    | [x, y] =>
      show ((true && (true && (nameB f && (nameB x && (homeB H y && true))))) && (!decide (f = x))) = (true && (nameB f && (true && ((nameB x && !decide (x = f)) && (homeB H y && true)))))
      have : decide (f = x) = decide (x = f) := decide_eq_decide.mpr ⟨Eq.symm, Eq.symm⟩
      rw [this]
      cases nameB f <;> cases nameB x <;> cases homeB H y <;> cases decide (x = f) <;> rfl
    | x :: y :: z :: r => simp
  · rw [t_n]
    match r with
    | [] => cases nameB f <;> rfl
    | [x] =>
      show ((true && (true && (nameB f && (nameB x && true)))) && (!decide (f = x))) = (true && (nameB f && (true && ((nameB x && !decide (x = f)) && true))))
      have : decide (f = x) = decide (x = f) := decide_eq_decide.mpr ⟨Eq.symm, Eq.symm⟩
      rw [this]
      cases nameB f <;> cases nameB x <;> cases decide (x = f) <;> rfl
    | x :: y :: r => simp
  · rw [t_m]
    match r with
    | [] => cases nameB f <;> rfl
    | [x] =>
      show ((true && (true && (nameB f && (inW x 1 60 && true)))) && true) = (true && (nameB f && (true && (inW x 1 60 && true))))
      simp
    | x :: y :: r => simp
theorem page_two {H : Hp} {a : Addr} {xs : List V} (ha : H a = some (.tup xs)) (hl : xs.length < 3) : pageB H (.ref a) = false := by
  have e : pageB H (.ref a) = (formV H xs && unlike (namesV xs)) := by simp only [pageB, ha]
  rw [e]
  match xs, hl with
  | [], _ => rfl
  | [x], _ => cases x <;> rfl
  | [x, d], _ =>
    cases x with
    | str k =>
      show ((match formsOf k with | some fs => _ | none => false) && _) = false
      cases h : formsOf k with
      | none => rfl
      | some fs =>
        have := forms_len h
        have z : decide (([] : List V).length = fs.length) = false := decide_eq_false (by simp; omega)
        show ((inW d 0 9999 && (decide (([] : List V).length = fs.length) && fitsB H fs [])) && _) = false
        rw [z]
        simp
    | _ => rfl
theorem page_kind {H : Hp} {a : Addr} {x d : V} {r : List V} (ha : H a = some (.tup (x :: d :: r))) (h : ∀ k fs, x = .str k → formsOf k ≠ some fs) : pageB H (.ref a) = false := by
  have e : pageB H (.ref a) = (formV H (x :: d :: r) && unlike (namesV (x :: d :: r))) := by simp only [pageB, ha]
  rw [e]
  cases x with
  | str k =>
    show ((match formsOf k with | some fs => _ | none => false) && _) = false
    cases e2 : formsOf k with
    | none => rfl
    | some fs => exact absurd e2 (h k fs rfl)
  | _ => rfl
theorem look_get {H : Hp} {f : V} {cs : List Nat} {r : List V} (h : ∀ (k c : Nat) (x : V), cs[k]? = some c → r[k]? = some x → okS H f c x = true) : lookS H f cs r = true :=
  all_get fun k p e => by
    rw [List.getElem?_zip_eq_some] at e
    exact h k p.1 p.2 e.1 e.2
theorem look_not {H : Hp} {f : V} {cs : List Nat} {r : List V} {k c : Nat} {x : V} (h1 : cs[k]? = some c) (h2 : r[k]? = some x) (e : okS H f c x = false) : lookS H f cs r = false :=
  all_not (k := k) (x := (c, x)) (List.getElem?_zip_eq_some.mpr ⟨h1, h2⟩) e
theorem cut3 (x d f : V) (r : List V) : cutV (x :: d :: f :: r) (some 3) none = r := by
  unfold cutV
  rw [show HT.sIx (x :: d :: f :: r).length 0 (some 3) = min 3 (x :: d :: f :: r).length from HT.sIx_nat _ _ 3, HT.sIx_none]
  have : min 3 (x :: d :: f :: r).length = 3 := by simp
  rw [this]
  simp
theorem suf_signs {fs : List Str} {s : Str} (h : Suf fs s) : (s.cps.toList.length ≤ 2 ∧ s.length = s.cps.toList.length) ∧ ∀ c ∈ s.cps.toList, c = 104 ∨ c = 109 ∨ c = 110 := by
  rcases h with ⟨_, rfl⟩ | ⟨_, rfl⟩ | ⟨_, rfl⟩ | ⟨_, rfl⟩ <;> decide +kernel
theorem sign_at {x : Str} {i : Nat} {v : V} (h : (x.cps[i]?.map fun c => V.str ⟨#[c]⟩) = some v) : ∃ c, x.cps.toList[i]? = some c ∧ v = .str ⟨#[c]⟩ := by
  rw [Array.getElem?_toList]
  cases e : x.cps[i]? with
  | none => rw [e] at h; cases h
  | some c => rw [e] at h; cases h; exact ⟨c, rfl, rfl⟩
end My

set_option Elab.async false
set_option linter.all false
set_option maxRecDepth 100000
set_option maxHeartbeats 2000000
/-! x >= y of numbers, texts and tuples of these. -/
namespace My
open PySem PySem.Spec PyProof.Rows L2 PySem.SeqAt
section
open AutoSeq1 (wpAny_loadPart')
open MeetsSeq MeetsSeq2 MeetsSeq3 SeqRoads2
theorem tuple_geK (l b : Addr) (items items2 : Array Value) (n n2 : Nat) (dd dd2 : Option Addr) (sl sl2 : Array (Option Value)) (xs ys : List NestedKey) (k : Bool) :
    Meets (Builtin.«tuple.__ge__» ⟨[.ref l, .ref b], []⟩) (fun A R s => s.heap.get? l = some ⟨.type "tuple", dd, .seq items n, sl⟩ ∧ s.heap.get? b = some ⟨.type "tuple", dd2, .seq items2 n2, sl2⟩ ∧
      NsAll s.heap xs items.toList ∧ NsAll s.heap ys items2.toList ∧ ltAll xs ys = some k ∧
      (∀ x ∈ xs, ∀ y u v, Ns s.heap x u → Ns s.heap y v → EqAt A.in1 s u v (decide (x = y))) ∧
      (∀ x ∈ xs, ∀ y u v c, Ns s.heap x u → Ns s.heap y v → ltK x y = some c → RcOp .GtE A.in1 s u v (!c)) ∧ R (.ok (.ret (.bool (!k)))) s) := by
  refine .of_wp fun prog w A R s h => ?_
  obtain ⟨hp, g, d, tk, os⟩ := s
  obtain ⟨hl, hb, h1, h2, hk, heq, hlt, h⟩ := h
  have f2 := AutoSeq1.sub_tuple_tuple
  wp_walk using wpAny_loadPart' hl, wpAny_loadPart' hb, wpAny_forIn_list _ (fun rest c s' => c.1 = none ∧ s' = ⟨hp, g, d, tk, os⟩ ∧ ∃ xs' ys' us vs, rest = List.zip us vs ∧ NsAll hp xs' us ∧ NsAll hp ys' vs ∧ (∀ x ∈ xs', x ∈ xs) ∧
    ltAll xs' ys' = some k ∧ us.length + items2.size = vs.length + items.size) _
  case turn =>
    rintro ⟨u, v⟩ rest c s' ⟨hc, rfl, xs', ys', us, vs, hz, a1, a2, sub, hk', hn⟩
    cases a1 with
    | nil => simp at hz
    | @cons x _ xs2 us2 p1 q1 =>
      cases a2 with
      | nil => simp at hz
      | @cons y _ ys2 vs2 p2 q2 =>
        rw [List.zip_cons_cons] at hz
        cases hz
        refine wpAny_bind (heq x (sub x (.head _)) y _ _ p1 p2 prog w _ _ ?_)
        by_cases e : x = y
        · rw [ltAll, if_pos e] at hk'
          rw [decide_eq_true e]
          wp_walk
          exact ⟨rfl, rfl, xs2, ys2, us2, vs2, rfl, q1, q2, fun z hz => sub z (.tail _ hz), hk', by simp only [List.length_cons] at hn; omega⟩
        · rw [ltAll, if_neg e] at hk'
          rw [decide_eq_false e, if_pos (by decide)]
          dsimp only
          refine wpAny_bind (wpAny_rule ?_)
          refine wpAny_bind (hlt x (sub x (.head _)) y _ _ k p1 p2 hk' prog w _ _ ?_)
          wp_walk
          exact ⟨_, rfl, h⟩
  case fin =>
    rintro ⟨c1, c2⟩ s' ⟨hc, rfl, xs', ys', us, vs, hz, a1, a2, sub, hk', hn⟩
    simp only at hc
    subst hc
    have fin : decide (items.size ≥ items2.size) = !k := by
      cases a1 with
      | nil =>
        cases a2 with
        | nil =>
          rw [ltAll] at hk'
          cases hk'
          simp only [List.length_nil] at hn
          exact decide_eq_true (by omega)
        | cons _ _ =>
          rw [ltAll] at hk'
          cases hk'
          simp only [List.length_nil, List.length_cons] at hn
          exact decide_eq_false (by omega)
      | cons _ _ =>
        cases a2 with
        | nil =>
          rw [ltAll] at hk'
          cases hk'
          simp only [List.length_nil, List.length_cons] at hn
          exact decide_eq_true (by omega)
        | cons _ _ => simp at hz
    wp_walk
    refine ⟨_, rfl, ?_⟩
    rw [← fin] at h
    simpa [Builtin.Tuple.tupleCompareSizes] using h
  case h => exact ⟨rfl, rfl, xs, ys, _, _, rfl, h1, h2, fun _ h => h, hk, by simp; omega⟩
theorem rcGe_num {A : Around} {s : Shared} {i j : Int} {t u : Tok} {k : Bool} (e : ltK (.num i) (.num j) = some k) : RcOp .GtE A s (.int i t) (.int j u) (!k) := by
  rw [ltK] at e
  cases e
  intro prog w E Q h
  refine PySem.P.ge_int ?_
  rw [show decide (i ≥ j) = !decide (i < j) by rw [Bool.eq_iff_iff]; simp]
  exact h
theorem rcGe_text {A : Around} {s : Shared} {x y : Str} {t u : Tok} {k : Bool} (e : ltK (.text x) (.text y) = some k) : RcOp .GtE A s (.str x t) (.str y u) (!k) := by
  rw [ltK] at e
  cases e
  exact fun prog w E Q h => PySem.P.ge_str h
theorem rcGe_tup {A : Around} {s : Shared} {l b : Addr} {o o2 : Obj} {items items2 : Array Value} {n n2 : Nat} {xs ys : List NestedKey} {k : Bool} (ho : s.heap.get? l = some o) (hc : o.cls = .type "tuple") (hd : o.data = .seq items n) (r : NsAll s.heap xs items.toList)
    (ho2 : s.heap.get? b = some o2) (hc2 : o2.cls = .type "tuple") (hd2 : o2.data = .seq items2 n2) (r2 : NsAll s.heap ys items2.toList) (e : ltAll xs ys = some k) (hu : A.units + (NestedKey.depthAll xs + 1) < cLine)
    (ih : ∀ x ∈ xs, ∀ y u v c, Ns s.heap x u → Ns s.heap y v → ltK x y = some c → RcOp .GtE A.in1 s u v (!c)) : RcOp .GtE A s (.ref l) (.ref b) (!k) := fun prog w E Q h => by
  obtain ⟨cls, dd, data, sl⟩ := o
  obtain ⟨cls2, dd2, data2, sl2⟩ := o2
  simp only at hc hd hc2 hd2
  subst hc hd hc2 hd2
  refine richCompare_meets_room (op := .GtE) ⟨_, ho, rfl⟩ ⟨_, ho2, rfl⟩ F.slot_tuple_ge F.entry_tuple_ge (F.args_tuple_ge_2 _ _) (tuple_geK l b items items2 n n2 dd dd2 sl sl2 xs ys k)
    ⟨ho, ho2, r, r2, e, fun x hx y u v p q => ?_, ih, (fun x => nomatch x), h⟩ (by omega)
  rw [NestedKey.decide_eq]
  have := depth_mem hx
  exact eqAt_key x y A.in1 s u v p.is q.is (by show A.units + 1 + min x.depth y.depth < cLine; omega)
end
theorem rcGeN : ∀ (n : Nat) {x y : NestedKey} {A : Around} {s : Shared} {a b : Value} {k : Bool}, x.depth ≤ n → Ns s.heap x a → Ns s.heap y b → ltK x y = some k → A.units + n < cLine → RcOp .GtE A s a b (!k) := by
  intro n
  induction n with
  | zero =>
    intro x y A s a b k hd p q e hu
    cases p with
    | none => cases q <;> simp [ltK] at e
    | int i t => cases q with
      | int j u => exact rcGe_num e
      | _ => simp [ltK] at e
    | text i t => cases q with
      | text j u => exact rcGe_text e
      | _ => simp [ltK] at e
    | tup _ _ _ _ => rw [depth_tup] at hd; omega
  | succ n ih =>
    intro x y A s a b k hd p q e hu
    cases p with
    | none => cases q <;> simp [ltK] at e
    | int i t => cases q with
      | int j u => exact rcGe_num e
      | _ => simp [ltK] at e
    | text i t => cases q with
      | text j u => exact rcGe_text e
      | _ => simp [ltK] at e
    | tup ho hc hdd r => cases q with
      | tup ho2 hc2 hd2 r2 =>
        rw [ltK] at e
        rw [depth_tup] at hd
        refine rcGe_tup ho hc hdd r ho2 hc2 hd2 r2 e (by omega) fun x hx y u v c p q ec => ?_
        have := depth_mem hx
        exact ih (by omega) p q ec (by show A.units + 1 + n < cLine; omega)
      | _ => simp [ltK] at e
def rGeN : R2 := fun x y H Q => ∃ (a b : NestedKey) (k : Bool), Nk H x a ∧ Nk H y b ∧ a.depth ≤ 50 ∧ ltK a b = some k ∧ Q (.bl (!k)) H
theorem op_geN {X : Cx} (hu : X.A.units + 64 < cLine) : OpR X (compareOp .GtE) rGeN := by
  intro pins s σ H x y v u Q I rx ry h
  obtain ⟨a, b, k, ha, hb, hd, e, q⟩ := h
  exact rcGeN 50 hd (ha.ns I rx) (hb.ns I ry) e (by omega) X.prog X.w _ _ ⟨.bl _, H, I, rfl, q⟩
end My

set_option Elab.async false
set_option linter.all false
set_option maxRecDepth 100000
set_option maxHeartbeats 2000000
namespace L05
open PySem PySem.Spec PyProof.Rows L2 My
section
variable {P : Program} {w : World} {K : PySem.W.Frag} {mg : Str → Option Value} {base : Heap}
theorem ok_num (T : Tx K mg w) : FnOk P w K mg base CX0 1 T.f_is_number T.d_is_number ["thing"] (spNum) := by
  refine T.F_is_number.ok S_is_number (fun vs H Q E h => ?_) (fun cdv A outer s H vs Q E hr h => ?_)
  · obtain ⟨v, rfl, _⟩ := h
    rfl
  · obtain ⟨v, rfl, ht, q⟩ := h
    obtain ⟨t1, y1, k1⟩ := ty_kind (K := K) (n := "int") (.inl rfl) ht
    obtain ⟨t2, y2, k2⟩ := ty_kind (K := K) (n := "bool") (.inr (.inl rfl)) ht
    rw [isN_kind ht] at q
    refine ⟨_, (pss_one (ps_ret (pe_and (pe_callB call_isi (by rfl) T.m_isinstance (by decide +kernel) (pa_cons (pv 0) (pa_cons (pe_bltn (v := .ty "int") (by rfl) T.m_int (by decide +kernel) rfl) pa_nil))) (pe_one (pe_not (pe_callB call_isi (by rfl) T.m_isinstance (by decide +kernel) (pa_cons (pv 0) (pa_cons (pe_bltn (v := .ty "bool") (by rfl) T.m_bool (by decide +kernel) rfl) pa_nil)))))))), ?_⟩
    refine ⟨v, rfl, v, _, t1, _, _, rfl, .ty _, y1, k1, _, rfl, ite2 (fun e => ?_) (fun e => ?_)⟩
    · refine ⟨v, rfl, v, _, t2, _, _, rfl, .ty _, y2, k2, _, rfl, ?_⟩
      rw [e, Bool.true_and] at q
      exact q
    · have e : kindB H "int" v = false := by simpa using e
      rw [e, Bool.false_and] at q
      exact q
theorem ok_within (T : Tx K mg w) : FnOk P w K mg base CX0 2 T.f_is_number_within T.d_is_number_within ["thing", "least", "greatest"] (spWithin) := by
  have G_is_number : FnOk P w K mg base CX0 1 T.f_is_number T.d_is_number ["thing"] (spNum) := ok_num T
  refine T.F_is_number_within.ok S_is_number_within (fun vs H Q E h => ?_) (fun cdv A outer s H vs Q E hr h => ?_)
  · obtain ⟨v, a, b, rfl, _⟩ := h
    rfl
  · obtain ⟨v, a, b, rfl, ht, q⟩ := h
    refine ⟨_, (pss_one (ps_ret (pe_and (pe_call G_is_number hr (by rfl) T.g_is_number T.F_is_number.kp T.b_is_number .nil pass0 (pa_cons (pv 0) pa_nil)) (pe_one (pe_chain op_le op_le (pv 1) (pv 0) (pv 2)))))), ?_⟩
    refine ⟨v, rfl, v, rfl, ht, _, rfl, ite2 (fun e => ?_) (fun e => ?_)⟩
    · obtain ⟨i, rfl⟩ := isN_int e
      refine ⟨_, rfl, _, rfl, _, _, rfl, rfl, _, rfl, ite2 (fun e2 => ?_) (fun e2 => ?_)⟩
      · refine ⟨_, rfl, _, _, rfl, rfl, ?_⟩
        have : inW (.int i) a b = decide (i ≤ b) := by
          show (decide (a ≤ i) && decide (i ≤ b)) = _
          rw [e2]; rfl
        rw [this] at q
        exact q
      · have : inW (.int i) a b = false := by
          show (decide (a ≤ i) && decide (i ≤ b)) = _
          cases z : decide (a ≤ i)
          · rfl
          · exact absurd z e2
        rw [this] at q
        exact q
    · rw [inW_not (a := a) (b := b) e] at q
      exact q
/-! ### is_rising -/
def spRis (T : Tx K mg w) : Sp := fun vs H Q _ => ∃ (a : Addr) (ws : List Int), vs = [.ref a] ∧ H a = some (.tup (ws.map V.int)) ∧ ws.length ≤ 1000 ∧ Tbs (tbs T) H ∧ ∀ H', Tk (tbs T) H H' → Q (.bl (risB ws)) H'
theorem ok_ris (T : Tx K mg w) (B : Tb T base) : FnOk P w K mg base CX0 2 T.f_is_rising T.d_is_rising ["things"] (spRis T) := by
  refine T.F_is_rising.ok S_is_rising (fun vs H Q E h => ?_) (fun A outer s H vs Q E hr h => ?_)
  · obtain ⟨a, ws, rfl, _⟩ := h
    rfl
  · obtain ⟨a, ws, rfl, ha, hl, hb, q⟩ := h
    refine ⟨_, (pss_one (ps_ret (GE.pe_allG (own := [("k", 1)]) (g := gName 1) (tt := tYes) (by rfl) S_is_rising.nd hr (by rfl) T.m_all B.b_is_rising rfl ⟨blkOk_by (own := [("k", 1)]) (N := N_is_rising) (sc := defScope s_is_rising) (by decide +kernel), rfl, (by decide +kernel), (by decide +kernel)⟩ (pi_range1 (by rfl) T.m_range (pa_cons (pe_op op_sub (pe_callB call_len_seq (by rfl) T.m_len PySem.boot_len (pa_cons (pv 0) pa_nil)) pe_int) pa_nil)) (fun _ _ _ _ _ _ hr => (pg_name (i := 1) S_is_rising.nd rfl (.inl rfl))) (fun _ _ _ _ _ _ hr => pts_nil) (fun _ _ _ _ _ _ hr => (pe_cmpR op_lt (pe_ix (r := rIxT K) ix_tup (pv 0) (pv 1) (fun _ _ => rfl)) (pe_ix (r := rIxT K) ix_tup (pv 0) (pe_op op_add (pv 1) pe_int) (fun _ _ => rfl)) (nomark _)))))), ?_⟩
    refine ⟨_, rfl, a, _, rfl, .inr (.inl (.inl ha)), _, _, rfl, rfl, _, rfl, ?_, ?_, hb _ (by simp [tbs]), fun H2 tab => ?_⟩
    · rw [List.length_map]; omega
    · rw [List.length_map]; omega
    have tk : Tk (tbs T) H H2 := .of hb (by simp [tbs]) tab
    have ha2 := tk.tup hb ha
    refine GE.ag_it walk_range (fun i H' => H' = H2 ∧ ∀ (k : Nat) (x y : Int), k < i → ws[k]? = some x → ws[k + 1]? = some y → x < y) ⟨rfl, fun k x y hk => by omega⟩ (fun _ _ _ _ => trivial) ?_ ?_
    · rintro i x H3 H4 hi ⟨rfl, hp⟩ ⟨rfl, rfl⟩
      rw [List.length_map] at hi
      have h1 : i < ws.length := by omega
      have h2 : i + 1 < ws.length := by omega
      refine ⟨rfl, tYesT ?_⟩
      refine ⟨_, rfl, _, rfl, a, _, _, .int ws[i], rfl, rfl, .inl (.inl ha2), at_of (j := i) (by omega) (by rw [List.getElem?_map, List.getElem?_eq_getElem h1]; rfl), ?_⟩
      refine ⟨_, rfl, _, rfl, _, _, rfl, rfl, a, _, _, .int ws[i + 1], rfl, rfl, .inl (.inl ha2), at_of (j := i + 1) (by omega) (by rw [List.getElem?_map, List.getElem?_eq_getElem h2]; rfl), ?_⟩
      refine ⟨_, _, rfl, rfl, _, rfl, fun e => ?_, fun e => ⟨rfl, fun k x y hk e1 e2 => ?_⟩⟩
      · have z : risB ws = false := by
          cases z : risB ws
          · rfl
          · have := (ris_iff ws).mp z i _ _ (List.getElem?_eq_getElem h1) (List.getElem?_eq_getElem h2)
            exact absurd this (of_decide_eq_false e)
        have := q H4 tk
        rw [z] at this
        exact this
      · by_cases z : k = i
        · subst z
          rw [List.getElem?_eq_getElem h1] at e1
          rw [List.getElem?_eq_getElem h2] at e2
          cases e1
          cases e2
          exact of_decide_eq_true (by simpa using e)
        · exact hp k x y (by omega) e1 e2
    · rintro H3 ⟨rfl, hp⟩
      have z : risB ws = true := (ris_iff ws).mpr fun k x y e1 e2 => by
        have := (List.getElem?_eq_some_iff.mp e2).1
        refine hp k x y ?_ e1 e2
        rw [List.length_map]
        omega
      have := q H3 tk
      rw [z] at this
      exact this
/-! ### is_home, is_name -/
def spHome (T : Tx K mg w) : Sp := fun vs H Q _ => ∃ v, vs = [v] ∧ Deep H v ∧ Tbs (tbs T) H ∧ ∀ H', Tk (tbs T) H H' → Q (.bl (homeB H v)) H'
theorem ok_home (T : Tx K mg w) (B : Tb T base) : FnOk P w K mg base CX0 4 T.f_is_home T.d_is_home ["thing"] (spHome T) := by
  have G_is_number_within : FnOk P w K mg base CX0 2 T.f_is_number_within T.d_is_number_within ["thing", "least", "greatest"] (spWithin) := ok_within T
  have G_is_rising : FnOk P w K mg base CX0 2 T.f_is_rising T.d_is_rising ["things"] (spRis T) := ok_ris T B
  refine T.F_is_home.ok S_is_home (fun vs H Q E h => ?_) (fun A outer s H vs Q E hr h => ?_)
  · obtain ⟨v, rfl, _⟩ := h
    rfl
  · obtain ⟨v, rfl, ⟨ht, hd⟩, hb, q⟩ := h
    obtain ⟨t1, y1, k1⟩ := ty_kind (K := K) (n := "tuple") (.inr (.inr (.inr rfl))) ht
    refine ⟨_, (pss_cons (ps_if (pt_not (pt_val (pe_callB call_isi (by rfl) T.m_isinstance (by decide +kernel) (pa_cons (pv 0) (pa_cons (pe_bltn (v := .ty "tuple") (by rfl) T.m_tuple (by decide +kernel) rfl) pa_nil))))) (pss_one (ps_ret pe_bl)) pss_nil)
      (pss_one (ps_ret (pe_and (GE.pe_allG (own := [("part", 1)]) (g := gName 1) (tt := tYes) (by rfl) S_is_home.nd hr (by rfl) T.m_all B.b_is_home rfl ⟨blkOk_by (own := [("part", 1)]) (N := N_is_home) (sc := defScope s_is_home) (by decide +kernel), rfl, (by decide +kernel), (by decide +kernel)⟩ (pi_tup (pv 0)) (fun _ _ _ _ _ _ hr => (pg_name (i := 1) S_is_home.nd rfl (.inl rfl))) (fun _ _ _ _ _ _ hr => pts_nil) (fun _ _ _ _ _ _ hr => (pe_call G_is_number_within hr (by rfl) T.g_is_number_within T.F_is_number_within.kp T.b_is_number_within .nil pass0 (pa_cons (pv 1) (pa_cons pe_int (pa_cons (pe_op op_sub (pe_glob (v := .int 7) (by rfl) T.c_WEEK ⟨_, rfl⟩) pe_int) pa_nil)))))) (pe_one (pe_call G_is_rising (hr.mono (by decide)) (by rfl) T.g_is_rising T.F_is_rising.kp T.b_is_rising .nil pass0 (pa_cons (pv 0) pa_nil))))))), ?_⟩
    refine ⟨v, rfl, v, _, t1, _, _, rfl, .ty _, y1, k1, _, rfl, ite2 (fun e => ?_) (fun e => ?_)⟩
    · have := q H (.refl hb)
      rw [not_tup (by intro z; rw [z] at e; exact Bool.noConfusion e)] at this
      exact this
    · obtain ⟨a, xs, rfl, ha⟩ := kind_tup ht (by simpa using e)
      obtain ⟨hl, hx⟩ := hd a xs rfl ha
      have hB : homeB H (.ref a) = homeV xs := by simp only [homeB, ha]
      rw [hB] at q
      refine ⟨_, rfl, a, rfl, ⟨xs, .inl (.inl ha)⟩, hb _ (by simp [tbs]), fun H2 tab => ?_⟩
      have tk : Tk (tbs T) H H2 := .of hb (by simp [tbs]) tab
      have ha2 := tk.tup hb ha
      refine GE.ag_it (walk_tup (K := K) (a := a) (xs := xs)) (fun i H' => H' = H2 ∧ ∀ (k : Nat) (x : V), k < i → xs[k]? = some x → inW x 0 6 = true) ⟨rfl, fun k x hk => by omega⟩ ?_ ?_ ?_
      · rintro i H' _ ⟨rfl, _⟩
        exact .inl (.inl ha2)
      · rintro i x H3 H4 hi ⟨rfl, hp⟩ ⟨rfl, hxi⟩
        have tx : Typed H4 x := (hx x (List.mem_of_getElem? hxi)).tk tk hb
        refine ⟨rfl, tYesT ?_⟩
        refine ⟨_, rfl, _, _, rfl, rfl, x, 0, 6, rfl, tx, _, rfl, fun e => ⟨_, rfl, iteF ?_⟩, fun e => ⟨rfl, fun k y hk ey => ?_⟩⟩
        · have z : homeV xs = false := by rw [homeV, all_not hxi e, Bool.false_and]
          have := q H4 tk
          rw [z] at this
          exact this
        · by_cases z : k = i
          · subst z
            rw [hxi] at ey
            cases ey
            simpa using e
          · exact hp k y (by omega) ey
      · rintro H3 ⟨rfl, hp⟩
        have all : xs.all (fun x => inW x 0 6) = true := all_get fun k x e => hp k x (List.getElem?_eq_some_iff.mp e).1 e
        have ex := map_unI (List.all_eq_true.mp all)
        refine ⟨_, rfl, iteT ⟨_, rfl, a, xs.map unI, rfl, by rw [← ex]; exact ha2, by rw [List.length_map]; exact hl, tk.2, fun H4 tk4 => ?_⟩⟩
        have := q H4 (tk.trans tk4)
        rw [homeV, all, Bool.true_and] at this
        exact this
def spName (T : Tx K mg w) : Sp := fun vs H Q _ => ∃ v, vs = [v] ∧ Typed H v ∧ PlainV v ∧ Tbs (tbs T) H ∧ ∀ H', Tk (tbs T) H H' → Q (.bl (nameB v)) H'
theorem ok_name (T : Tx K mg w) (B : Tb T base) : FnOk P w K mg base CX0 2 T.f_is_name T.d_is_name ["thing"] (spName T) := by
  refine T.F_is_name.ok S_is_name (fun vs H Q E h => ?_) (fun A outer s H vs Q E hr h => ?_)
  · obtain ⟨v, rfl, _⟩ := h
    rfl
  · obtain ⟨v, rfl, ht, hpl, hb, q⟩ := h
    obtain ⟨t1, y1, k1⟩ := ty_kind (K := K) (n := "str") (.inr (.inr (.inl rfl))) ht
    refine ⟨_, (pss_cons (ps_if (PW.pt (pw_or (pt_not (pt_val (pe_callB call_isi (by rfl) T.m_isinstance (by decide +kernel) (pa_cons (pv 0) (pa_cons (pe_bltn (v := .ty "str") (by rfl) T.m_str (by decide +kernel) rfl) pa_nil))))) (pw_or1 (pt_not (pt_chain op_le op_le pe_int (pe_callB call_len_str (by rfl) T.m_len PySem.boot_len (pa_cons (pv 0) pa_nil)) (pe_glob (v := .int 8) (by rfl) T.c_LONGEST_NAME ⟨_, rfl⟩)))))) (pss_one (ps_ret pe_bl)) pss_nil)
      (pss_one (ps_ret (GE.pe_allG (own := [("sign", 1)]) (g := gName 1) (tt := tYes) (by rfl) S_is_name.nd hr (by rfl) T.m_all B.b_is_name rfl ⟨blkOk_by (own := [("sign", 1)]) (N := N_is_name) (sc := defScope s_is_name) (by decide +kernel), rfl, (by decide +kernel), (by decide +kernel)⟩ (pi_str (pv 0)) (fun _ _ _ _ _ _ hr => (pg_name (i := 1) S_is_name.nd rfl (.inl rfl))) (fun _ _ _ _ _ _ hr => pts_nil) (fun _ _ _ _ _ _ hr => (pe_chain op_le_str op_le_str pe_str (pv 1) pe_str)))))), ?_⟩
    refine ⟨v, rfl, v, _, t1, _, _, rfl, .ty _, y1, k1, _, rfl, ite2 (fun e => ?_) (fun e => ?_)⟩
    · refine iteT ?_
      have := q H (.refl hb)
      rw [not_str (by intro z; rw [z] at e; exact Bool.noConfusion e)] at this
      exact this
    · obtain ⟨z, rfl⟩ := kind_str ht (by simpa using e)
      obtain ⟨hlz, hc⟩ : Plain z := hpl
      have fin : ¬ (1 ≤ z.length ∧ z.length ≤ 8) → Q (.bl false) H := fun hn => by
        have := q H (.refl hb)
        have e0 : nameB (.str z) = false := by
          show ((decide (1 ≤ z.length) && decide (z.length ≤ 8)) && z.cps.toList.all signOk) = false
          by_cases h1 : 1 ≤ z.length
          · have h2 : ¬ z.length ≤ 8 := fun h2 => hn ⟨h1, h2⟩
            simp [h2]
          · simp [h1]
        rw [e0] at this
        exact this
      refine ⟨_, rfl, z, rfl, sz (by omega), _, _, rfl, rfl, _, rfl, ite2 (fun e1 => ?_) (fun e1 => ?_)⟩
      · have e1 := of_decide_eq_true e1
        refine ⟨_, _, rfl, rfl, _, rfl, ite2 (fun e2 => ?_) (fun e2 => ?_)⟩
        · have e2 : ¬ (z.length : Int) ≤ 8 := by simpa using e2
          exact fin (by omega)
        · have e2 : (z.length : Int) ≤ 8 := by simpa using e2
          refine ⟨_, rfl, z, rfl, hb _ (by simp [tbs]), fun H2 tab => ?_⟩
          have tk : Tk (tbs T) H H2 := .of hb (by simp [tbs]) tab
          have eN : nameB (.str z) = z.cps.toList.all signOk := by
            show ((decide (1 ≤ z.length) && decide (z.length ≤ 8)) && z.cps.toList.all signOk) = _
            rw [decide_eq_true (show 1 ≤ z.length by omega), decide_eq_true (show z.length ≤ 8 by omega)]
            rfl
          rw [eN] at q
          refine GE.ag_it walk_str (fun i H' => H' = H2 ∧ ∀ (k : Nat) (c : Nat), k < i → z.cps.toList[k]? = some c → signOk c = true) ⟨rfl, fun k x hk => by omega⟩ (fun _ _ _ _ => trivial) ?_ ?_
          · rintro i x H3 H4 hi ⟨rfl, hp⟩ ⟨rfl, c, hci, rfl⟩
            have hci : z.cps.toList[i]? = some c := by rw [Array.getElem?_toList]; exact hci
            refine ⟨rfl, tYesT ?_⟩
            refine ⟨_, rfl, _, _, rfl, rfl, _, rfl, ite2 (fun f1 => ?_) (fun f1 => ?_)⟩
            · have f1 : 97 ≤ c := by
                have : (!decide (([c] : List Nat) < [97])) = true := f1
                rw [le_a] at this
                exact of_decide_eq_true this
              have es : signOk c = (!decide (([122] : List Nat) < [c])) := by
                rw [le_z, signOk, decide_eq_true f1, Bool.true_and]
              refine ⟨_, _, rfl, rfl, signOk c, congrArg V.bl es.symm, fun e => ?_, fun e => ⟨rfl, fun k y hk ey => ?_⟩⟩
              · have := q H4 tk
                rw [all_not hci e] at this
                exact this
              · by_cases zz : k = i
                · subst zz
                  rw [hci] at ey
                  cases ey
                  simpa using e
                · exact hp k y (by omega) ey
            · have f1 : signOk c = false := by
                have : ¬ (!decide (([c] : List Nat) < [97])) = true := f1
                rw [le_a] at this
                have : decide (97 ≤ c) = false := by simpa using this
                rw [signOk, this, Bool.false_and]
              refine ⟨_, rfl, fun _ => ?_, fun e => absurd rfl e⟩
              have := q H4 tk
              rw [all_not hci f1] at this
              exact this
          · rintro H3 ⟨rfl, hp⟩
            have := q H3 tk
            rw [all_get (f := signOk) fun k x e => hp k x (by have := (List.getElem?_eq_some_iff.mp e).1; simpa using this) e] at this
            exact this
      · have e1 : ¬ (1 : Int) ≤ z.length := by simpa using e1
        exact ⟨_, rfl, fin (by omega)⟩
def spDay : Sp := fun vs H Q _ => ∃ v, vs = [v] ∧ Typed H v ∧ Q (.bl (inW v 0 9999)) H
theorem ok_day (T : Tx K mg w) : FnOk P w K mg base CX0 3 T.f_is_day T.d_is_day ["thing"] (spDay) := by
  have G_is_number_within : FnOk P w K mg base CX0 2 T.f_is_number_within T.d_is_number_within ["thing", "least", "greatest"] (spWithin) := ok_within T
  refine T.F_is_day.ok S_is_day (fun vs H Q E h => ?_) (fun cdv A outer s H vs Q E hr h => ?_)
  · obtain ⟨v, rfl, _⟩ := h
    rfl
  · obtain ⟨v, rfl, ht, q⟩ := h
    refine ⟨_, (pss_one (ps_ret (pe_call G_is_number_within hr (by rfl) T.g_is_number_within T.F_is_number_within.kp T.b_is_number_within .nil pass0 (pa_cons (pv 0) (pa_cons pe_int (pa_cons (pe_glob (v := .int 9999) (by rfl) T.c_LAST_DAY ⟨_, rfl⟩) pa_nil)))))), ?_⟩
    exact ⟨v, rfl, v, 0, 9999, rfl, ht, q⟩
def spFits (T : Tx K mg w) : Sp := fun vs H Q _ => ∃ f v, vs = [.str f, v] ∧ Deep H v ∧ PlainV v ∧ Tbs (tbs T) H ∧ ∀ H', Tk (tbs T) H H' → Q (.bl (fitB H f v)) H'
theorem ok_fits (T : Tx K mg w) (B : Tb T base) : FnOk P w K mg base CX0 5 T.f_fits T.d_fits ["form", "thing"] (spFits T) := by
  have G_is_number_within : FnOk P w K mg base CX0 2 T.f_is_number_within T.d_is_number_within ["thing", "least", "greatest"] (spWithin) := ok_within T
  have G_is_home : FnOk P w K mg base CX0 4 T.f_is_home T.d_is_home ["thing"] (spHome T) := ok_home T B
  have G_is_name : FnOk P w K mg base CX0 2 T.f_is_name T.d_is_name ["thing"] (spName T) := ok_name T B
  refine T.F_fits.ok S_fits (fun vs H Q E h => ?_) (fun cdv A outer s H vs Q E hr h => ?_)
  · obtain ⟨f, v, rfl, _⟩ := h
    rfl
  · obtain ⟨f, v, rfl, hd, hp, hb, q⟩ := h
    refine ⟨_, (pss_cons (ps_if (pt_cmpR op_eq (pv 0) pe_str (nomark _)) (pss_one (ps_ret (pe_call G_is_name (hr.mono (by decide)) (by rfl) T.g_is_name T.F_is_name.kp T.b_is_name .nil pass0 (pa_cons (pv 1) pa_nil)))) pss_nil)
      (pss_cons (ps_if (pt_cmpR op_eq (pv 0) pe_str (nomark _)) (pss_one (ps_ret (pe_call G_is_home hr (by rfl) T.g_is_home T.F_is_home.kp T.b_is_home .nil pass0 (pa_cons (pv 1) pa_nil)))) pss_nil)
      (pss_one (ps_ret (pe_call G_is_number_within (hr.mono (by decide)) (by rfl) T.g_is_number_within T.F_is_number_within.kp T.b_is_number_within .nil pass0 (pa_cons (pv 1) (pa_cons pe_int (pa_cons (pe_glob (v := .int 60) (by rfl) T.c_LONGEST_MOURNING ⟨_, rfl⟩) pa_nil)))))))), ?_⟩
    refine ⟨_, rfl, rfl, _, rfl, ite2 (fun e => ?_) (fun e => ?_)⟩
    · have e : V.str f = V.str "name" := of_decide_eq_true e
      cases e
      exact ⟨v, rfl, v, rfl, hd.1, hp, hb, q⟩
    · have e : ¬ V.str f = V.str "name" := fun z => e (decide_eq_true z)
      have e : ¬ f = "name" := fun z => e (by rw [z])
      refine ⟨_, rfl, rfl, _, rfl, ite2 (fun e2 => ?_) (fun e2 => ?_)⟩
      · have e2 : V.str f = V.str "home" := of_decide_eq_true e2
        cases e2
        exact ⟨v, rfl, v, rfl, hd, hb, q⟩
      · have e2 : ¬ V.str f = V.str "home" := fun z => e2 (decide_eq_true z)
        have e2 : ¬ f = "home" := fun z => e2 (by rw [z])
        have z : fitB H f v = inW v 1 60 := by rw [fitB, if_neg e, if_neg e2]
        have := q H (.refl hb)
        rw [z] at this
        exact ⟨v, rfl, v, 1, 60, rfl, hd.1, this⟩
theorem forms_at (T : Tx K mg w) {k : Str} {fs : List Str} (h : formsOf k = some fs) : ∃ r, KDct K w T.a_FORMS k (.ref r) ∧ KT K r (fs.map V.str) := by
  unfold formsOf at h
  split at h
  · rename_i e; subst e; cases h; exact T.w_FORMS_house
  split at h
  · rename_i e; subst e; cases h; exact T.w_FORMS_part
  split at h
  · rename_i e; subst e; cases h; exact T.w_FORMS_join
  split at h
  · rename_i e; subst e; cases h; exact T.w_FORMS_home
  split at h
  · rename_i e; subst e; cases h; exact T.w_FORMS_mourn
  split at h
  · rename_i e; subst e; cases h; exact T.w_FORMS_ahead
  split at h
  · rename_i e; subst e; cases h; exact T.w_FORMS_card
  split at h
  · rename_i e; subst e; cases h; exact T.w_FORMS_visit
  cases h
theorem ok_page_kind (T : Tx K mg w) : FnOk P w K mg base CX0 1 T.f_page_kind T.d_page_kind ["page"] ((spAt 0)) := by
  refine T.F_page_kind.ok S_page_kind (fun vs H Q E h => ?_) (fun cdv A outer s H vs Q E hr h => ?_)
  · obtain ⟨a, xs, v, rfl, _⟩ := h
    rfl
  · obtain ⟨a, xs, v, rfl, ha, hv, q⟩ := h
    refine ⟨_, (pss_one (ps_ret (pe_ix ix_tup (pv 0) pe_int (fun _ _ => rfl)))), ?_⟩
    exact ⟨_, rfl, a, xs, 0, v, rfl, rfl, .inl (.inl ha), at_of (j := 0) rfl hv, q⟩
def spForm (T : Tx K mg w) : Sp := fun vs H Q _ => ∃ v, vs = [v] ∧ Pgd H v ∧ Tbs (tbs T) H ∧ ∀ H', Gk (tbs T) H H' → Q (.bl (formB H v)) H'
theorem ok_form (T : Tx K mg w) (B : Tb T base) : FnOk P w K mg base CX0 7 T.f_has_form T.d_has_form ["thing"] (spForm T) := by
  have G_is_day : FnOk P w K mg base CX0 3 T.f_is_day T.d_is_day ["thing"] (spDay) := ok_day T
  have G_fits : FnOk P w K mg base CX0 5 T.f_fits T.d_fits ["form", "thing"] (spFits T) := ok_fits T B
  refine T.F_has_form.ok S_has_form (fun vs H Q E h => ?_) (fun A outer s H vs Q E hr h => ?_)
  · obtain ⟨v, rfl, _⟩ := h
    rfl
  · obtain ⟨v, rfl, ⟨ht, hd⟩, hb, q⟩ := h
    obtain ⟨t1, y1, k1⟩ := ty_kind (K := K) (n := "tuple") (.inr (.inr (.inr rfl))) ht
    have no : formB H v = false → Q (.bl false) H := fun z => by
      have := q H (.refl hb)
      rw [z] at this
      exact this
    refine ⟨_, (pss_cons (ps_if (PW.pt (pw_or (pt_not (pt_val (pe_callB call_isi (by rfl) T.m_isinstance (by decide +kernel) (pa_cons (pv 0) (pa_cons (pe_bltn (v := .ty "tuple") (by rfl) T.m_tuple (by decide +kernel) rfl) pa_nil))))) (pw_or (pt_cmpR op_lt (pe_callB call_len_seq (by rfl) T.m_len PySem.boot_len (pa_cons (pv 0) pa_nil)) pe_int (nomark _)) (pw_or (pt_cmpR (op_notIn_strs (hu_of hr)) (pe_ix ix_tup (pv 0) pe_int (fun _ _ => rfl)) (pe_glob (v := .ref T.a_KINDS) (by rfl) T.c_KINDS rfl) (by rfl)) (pw_or1 (pt_not (pt_val (pe_call G_is_day (hr.mono (by decide)) (by rfl) T.g_is_day T.F_is_day.kp T.b_is_day .nil pass0 (pa_cons (pe_ix ix_tup (pv 0) pe_int (fun _ _ => rfl)) pa_nil))))))))) (pss_one (ps_ret pe_bl)) pss_nil)
      (pss_cons (ps_set (i := 1) S_has_form.nd rfl (.inl rfl) (pe_ix ix_kdict (pe_glob (v := .ref T.a_FORMS) (by rfl) T.c_FORMS rfl) (pe_ix ix_tup (pv 0) pe_int (fun _ _ => rfl)) (fun _ _ => rfl)))
      (pss_cons (ps_set (i := 2) S_has_form.nd rfl (.inl rfl) (pe_slice sl_tupA (pv 0) (po_some pe_int) po_none))
      (pss_one (ps_ret (pe_and (pe_cmpR op_eq (pe_callB call_len_seq (by rfl) T.m_len PySem.boot_len (pa_cons (pv 2) pa_nil)) (pe_callB call_len_seq (by rfl) T.m_len PySem.boot_len (pa_cons (pv 1) pa_nil)) (nomark _)) (pe_one (GE.pe_allG (own := [("form", 3), ("part", 4)]) (g := gTup K 2 (gCons (gName 3) (gCons (gName 4) gNil))) (tt := tYes) (by rfl) S_has_form.nd hr (by rfl) T.m_all B.b_has_form rfl ⟨blkOk_by (own := [("form", 3), ("part", 4)]) (N := N_has_form) (sc := defScope s_has_form) (by decide +kernel), rfl, (by decide +kernel), (by decide +kernel)⟩ (RZ.pi_zipA (by rfl) T.m_zip (pa_cons (pv 1) (pa_cons (pv 2) pa_nil))) (fun _ _ _ _ _ _ hr => (pg_tup rfl (pgs_cons (pg_name (i := 3) S_has_form.nd rfl (.inl rfl)) (pgs_cons (pg_name (i := 4) S_has_form.nd rfl (.inl rfl)) pgs_nil)))) (fun _ _ _ _ _ _ hr => pts_nil) (fun _ _ _ _ _ _ hr => (pe_call G_fits hr (by rfl) T.g_fits T.F_fits.kp T.b_fits .nil pass0 (pa_cons (pv 3) (pa_cons (pv 4) pa_nil)))))))))))), ?_⟩
    refine ⟨v, rfl, v, _, t1, _, _, rfl, .ty _, y1, k1, _, rfl, ite2 (fun e => ?_) (fun e => ?_)⟩
    · refine iteT ?_
      exact no (not_tupF (by intro z; rw [z] at e; exact Bool.noConfusion e)).1
    · obtain ⟨a, xs, rfl, ha⟩ := kind_tup ht (by simpa using e)
      obtain ⟨hl, hx⟩ := hd a xs rfl ha
      have hB : formB H (.ref a) = formV H xs := by simp only [formB, ha]
      rw [hB] at q no
      refine ⟨_, rfl, a, _, rfl, .inr (.inl (.inl ha)), _, _, rfl, rfl, _, rfl, ite2 (fun e2 => ?_) (fun e2 => ?_)⟩
      · have e2 : (xs.length : Int) < 2 := of_decide_eq_true e2
        refine iteT ?_
        exact no (form_short (by omega))
      · have e2 : ¬ (xs.length : Int) < 2 := fun z => e2 (decide_eq_true z)
        match xs, e2 with
        | [], z => exact absurd (by decide) z
        | [_], z => exact absurd (show ((1 : Nat) : Int) < 2 by decide) z
        | x :: d :: r, _ =>
        have dx := hx x List.mem_cons_self
        have dd := hx d (List.mem_cons_of_mem _ List.mem_cons_self)
        refine ⟨_, rfl, a, _, 0, x, rfl, rfl, .inl (.inl ha), at_of (j := 0) rfl rfl, ?_⟩
        refine ⟨T.a_KINDS, kinds, rfl, .inr T.w_KINDS, dx.1.1, _, rfl, ite2 (fun e3 => ?_) (fun e3 => ?_)⟩
        · have e3 : strIn kinds x = false := by simpa using e3
          refine iteT ?_
          exact no (form_kind e3)
        · have e3 : strIn kinds x = true := by simpa using e3
          obtain ⟨k, fs, rfl, hk⟩ := kind_in e3
          obtain ⟨p, hp, hpT⟩ := forms_at T hk
          have fl := forms_len hk
          have hV : formV H (.str k :: d :: r) = (inW d 0 9999 && (decide (r.length = fs.length) && fitsB H fs r)) := by
            show (match formsOf k with | some fs => _ | none => false) = _
            rw [hk]
          rw [hV] at q no
          refine ⟨_, rfl, a, _, 1, d, rfl, rfl, .inl (.inl ha), at_of (j := 1) rfl rfl, ?_⟩
          refine ⟨d, rfl, dd.1.1, _, rfl, ite2 (fun e4 => ?_) (fun e4 => ?_)⟩
          · have e4 : inW d 0 9999 = false := by simpa using e4
            exact no (by rw [e4, Bool.false_and])
          · have e4 : inW d 0 9999 = true := by simpa using e4
            rw [e4, Bool.true_and] at q
            refine ⟨_, rfl, a, _, 0, .str k, rfl, rfl, .inl (.inl ha), at_of (j := 0) rfl rfl, T.a_FORMS, k, .ref p, rfl, rfl, hp, ?_⟩
            refine ⟨_, rfl, _, rfl, np_in (sl_in ha fun c H1 s1 hc => ?_)⟩
            rw [cut2] at hc
            have b1 := hb.same s1
            have g1 : Gk (tbs T) H H1 := .of_same s1 hb
            refine ⟨_, rfl, c, _, rfl, .inr (.inl (.inl hc)), _, rfl, p, _, rfl, .inr (.inr hpT), rfl, _, rfl, ite2 (fun e5 => ?_) (fun e5 => ?_)⟩
            · have e5 : V.int (r.length : Nat) = V.int ((fs.map V.str).length : Nat) := of_decide_eq_true e5
              have e5 : r.length = fs.length := by
                rw [List.length_map] at e5
                have := V.int.inj e5
                omega
              rw [decide_eq_true e5, Bool.true_and] at q
              refine ⟨_, rfl, _, rfl, p, c, _, _, rfl, .inr ⟨.inr hpT, .inl (.inl hc), b1 _ (by simp [tbs]), fun H2 tab => ?_⟩⟩
              have g2 : Gk (tbs T) H H2 := g1.trans ((Tk.of b1 (by simp [tbs]) tab).gk b1)
              have hc2 : H2 c = some (.tup r) := ((Tk.of b1 (by simp [tbs]) tab).gk b1).tup hc
              refine GE.ag_it (walk_zipT (K := K) (a := p) (b := c) (xs := fs.map V.str) (ys := r) rfl) (fun i H' => (Gk (tbs T) H H' ∧ H' c = some (.tup r)) ∧ ∀ (k : Nat) (f : Str) (x : V), k < i → fs[k]? = some f → r[k]? = some x → fitB H f x = true) ⟨⟨g2, hc2⟩, fun k f x hk => by omega⟩ ?_ ?_ ?_
              · rintro i H' _ ⟨⟨_, hc'⟩, _⟩
                exact ⟨.inr hpT, .inl (.inl hc')⟩
              · rintro i x H3 H4 hi ⟨⟨g3, hc3⟩, hp3⟩ ⟨Tn, xf, xr, rfl, hn, rfl, h1, h2⟩
                obtain ⟨f, rfl, h0⟩ := str_at h1
                clear h1
                have h1 := h0
                have h2 : r[i]? = some xr := h2
                have mr : xr ∈ V.str k :: d :: r := List.mem_cons_of_mem _ (List.mem_cons_of_mem _ (List.mem_of_getElem? h2))
                have g4 : Gk (tbs T) H (upd H3 Tn (.tup [V.str f, xr])) := g3.trans (.new g3.2 hn)
                have hc4 := same_upd (o := .tup [V.str f, xr]) hn _ _ hc3
                refine ⟨Tn, _, rfl, .inl (.inl upd_same), rfl, _, _, rfl, _, _, rfl, rfl, rfl, tYesT ?_⟩
                refine ⟨_, rfl, _, rfl, f, xr, rfl, (hx xr mr).1.gk g4, (hx xr mr).2, g4.2, fun H5 t5 => ?_⟩
                have g5 := g4.trans (t5.gk g4.2)
                rw [fitB_gk (hx xr mr).1.1 g4]
                refine ⟨_, rfl, fun e => ?_, fun e => ⟨⟨g5, (t5.gk g4.2).tup hc4⟩, fun k' f' y hk' ef ey => ?_⟩⟩
                · have := q H5 g5
                  rw [fits_not h1 h2 e] at this
                  exact this
                · by_cases z : k' = i
                  · subst z
                    rw [h1] at ef
                    rw [h2] at ey
                    cases ef
                    cases ey
                    simpa using e
                  · exact hp3 k' f' y (by omega) ef ey
              · rintro H3 ⟨⟨g3, hc3⟩, hp3⟩
                have := q H3 g3
                rw [fits_get (H := H) (fs := fs) (r := r) fun k' f' y ef ey => hp3 k' f' y (by
                  have z1 := (List.getElem?_eq_some_iff.mp ef).1
                  have z2 := (List.getElem?_eq_some_iff.mp ey).1
                  rw [List.length_map]
                  omega) ef ey] at this
                exact this
            · have e5 : ¬ r.length = fs.length := fun z => e5 (by rw [List.length_map, z]; exact decide_eq_true rfl)
              have := q H1 g1
              rw [decide_eq_false e5, Bool.false_and] at this
              exact this
def spNames (T : Tx K mg w) : Sp := fun vs H Q _ => ∃ (a : Addr) (k : Str) (d : V) (r : List V) (fs : List Str), vs = [.ref a] ∧ H a = some (.tup (.str k :: d :: r)) ∧ formsOf k = some fs ∧ Tbs (tbs T) H ∧ ∀ H' q, Gk (tbs T) H H' → H' q = some (.tup (namesB fs r)) → Q (.ref q) H'
theorem ok_names (T : Tx K mg w) (B : Tb T base) : FnOk P w K mg base CX0 3 T.f_names_of T.d_names_of ["page"] (spNames T) := by
  have G_page_kind : FnOk P w K mg base CX0 1 T.f_page_kind T.d_page_kind ["page"] ((spAt 0)) := ok_page_kind T
  refine T.F_names_of.ok S_names_of (fun vs H Q E h => ?_) (fun A outer s H vs Q E hr h => ?_)
  · obtain ⟨a, k, d, r, fs, rfl, _⟩ := h
    rfl
  · obtain ⟨a, k, d, r, fs, rfl, ha, hk, hb, q⟩ := h
    obtain ⟨p, hp, hpT⟩ := forms_at T hk
    have fl := forms_len hk
    refine ⟨_, (pss_one (ps_ret (GE.pe_tupleG (own := [("form", 1), ("part", 2)]) (g := gTup K 2 (gCons (gName 1) (gCons (gName 2) gNil))) (by rfl) S_names_of.nd hr (by rfl) T.m_tuple B.b_names_of rfl ⟨blkOk_by (own := [("form", 1), ("part", 2)]) (N := N_names_of) (sc := defScope s_names_of) (by decide +kernel), rfl, (by decide +kernel), (by decide +kernel)⟩ (RZ.pi_zipA (by rfl) T.m_zip (pa_cons (pe_ix ix_kdict (pe_glob (v := .ref T.a_FORMS) (by rfl) T.c_FORMS rfl) (pe_call G_page_kind (hr.mono (by decide)) (by rfl) T.g_page_kind T.F_page_kind.kp T.b_page_kind .nil pass0 (pa_cons (pv 0) pa_nil)) (fun _ _ => rfl)) (pa_cons (pe_slice sl_tupA (pv 0) (po_some pe_int) po_none) pa_nil))) (fun _ _ _ _ _ _ hr => (pg_tup rfl (pgs_cons (pg_name (i := 1) S_names_of.nd rfl (.inl rfl)) (pgs_cons (pg_name (i := 2) S_names_of.nd rfl (.inl rfl)) pgs_nil)))) (fun _ _ _ _ _ _ hr => (pts_one (pt_cmpR op_eq (pv 1) pe_str (nomark _)))) (fun _ _ _ _ _ _ hr => (pv 2))))), ?_⟩
    refine ⟨_, rfl, a, _, .str k, rfl, ha, rfl, T.a_FORMS, k, .ref p, rfl, rfl, hp, ?_⟩
    refine ⟨_, rfl, _, rfl, np_in (sl_in ha fun c H1 s1 hc => ?_)⟩
    rw [cut2] at hc
    have b1 := hb.same s1
    have g1 : Gk (tbs T) H H1 := .of_same s1 hb
    refine ⟨p, c, _, _, rfl, .inr ⟨.inr hpT, .inl (.inl hc), b1 _ (by simp [tbs]), fun H2 tab => ?_⟩⟩
    have g2 : Gk (tbs T) H H2 := g1.trans ((Tk.of b1 (by simp [tbs]) tab).gk b1)
    have hc2 : H2 c = some (.tup r) := ((Tk.of b1 (by simp [tbs]) tab).gk b1).tup hc
    have len : ∀ i, ((((fs.zip r).take i).filter fun p => decide (p.1 = ("name" : Str))).map (·.2)).length ≤ 3 := fun i => by
      rw [List.length_map]
      refine Nat.le_trans (List.length_filter_le _ _) (Nat.le_trans (by rw [List.length_take]; exact Nat.min_le_right _ _) ?_)
      rw [List.length_zip]
      omega
    refine GE.tg_it (walk_zipT (K := K) (a := p) (b := c) (xs := fs.map V.str) (ys := r) rfl) (fun i ys H' => (Gk (tbs T) H H' ∧ H' c = some (.tup r)) ∧ ys = ((((fs.zip r).take i).filter fun p => decide (p.1 = ("name" : Str))).map (·.2))) ⟨⟨g2, hc2⟩, by simp⟩ ?_ ?_ ?_
    · rintro i ys H' _ ⟨⟨_, hc'⟩, _⟩
      exact ⟨.inr hpT, .inl (.inl hc')⟩
    · rintro i x ys H3 H4 hi ⟨⟨g3, hc3⟩, rfl⟩ ⟨Tn, xf, xr, rfl, hn, rfl, h1, h2⟩
      obtain ⟨f, rfl, h0⟩ := str_at h1
      have h2 : r[i]? = some xr := h2
      have g4 : Gk (tbs T) H (upd H3 Tn (.tup [V.str f, xr])) := g3.trans (.new g3.2 hn)
      have hc4 := same_upd (o := .tup [V.str f, xr]) hn _ _ hc3
      refine ⟨Tn, _, rfl, .inl (.inl upd_same), rfl, _, _, rfl, _, _, rfl, rfl, rfl, ?_⟩
      refine ⟨_, rfl, rfl, _, rfl, ite2 (fun e => ?_) (fun e => ?_)⟩
      · have e : V.str f = V.str "name" := of_decide_eq_true e
        refine ⟨_, rfl, sz' (len i), ⟨g4, hc4⟩, ?_⟩
        rw [names_take h0 h2, if_pos (V.str.inj e)]
      · have e : ¬ V.str f = V.str "name" := fun z => e (decide_eq_true z)
        refine ⟨⟨g4, hc4⟩, ?_⟩
        rw [names_take h0 h2, if_neg (fun z => e (by rw [z])), List.append_nil]
    · rintro ys H3 ⟨⟨g3, hc3⟩, rfl⟩
      refine ⟨Nat.le_of_lt (sz' (len _)), fun n hn => q _ n (g3.trans (.new g3.2 hn)) ?_⟩
      rw [upd_same, List.take_of_length_le]
      · rfl
      · rw [List.length_zip, List.length_map]
        exact Nat.le_refl _
def spPage (T : Tx K mg w) : Sp := fun vs H Q _ => ∃ v, vs = [v] ∧ Pgd H v ∧ Tbs (tbs T) H ∧ ∀ H', Gk (tbs T) H H' → Q (.bl (pageB H v)) H'
theorem ok_page (T : Tx K mg w) (B : Tb T base) : FnOk P w K mg base CX0 8 T.f_is_page T.d_is_page ["thing"] (spPage T) := by
  have G_has_form : FnOk P w K mg base CX0 7 T.f_has_form T.d_has_form ["thing"] (spForm T) := ok_form T B
  have G_names_of : FnOk P w K mg base CX0 3 T.f_names_of T.d_names_of ["page"] (spNames T) := ok_names T B
  refine T.F_is_page.ok S_is_page (fun vs H Q E h => ?_) (fun cdv A outer s H vs Q E hr h => ?_)
  · obtain ⟨v, rfl, _⟩ := h
    rfl
  · obtain ⟨v, rfl, hd, hb, q⟩ := h
    refine ⟨_, (pss_cons (ps_if (pt_not (pt_val (pe_call G_has_form hr (by rfl) T.g_has_form T.F_has_form.kp T.b_has_form .nil pass0 (pa_cons (pv 0) pa_nil)))) (pss_one (ps_ret pe_bl)) pss_nil)
      (pss_cons (ps_set (i := 1) S_is_page.nd rfl (.inl rfl) (pe_call G_names_of (hr.mono (by decide)) (by rfl) T.g_names_of T.F_names_of.kp T.b_names_of .nil pass0 (pa_cons (pv 0) pa_nil)))
      (pss_one (ps_ret (pe_or (pe_cmpR op_eq (pe_callB call_len_seq (by rfl) T.m_len PySem.boot_len (pa_cons (pv 1) pa_nil)) pe_int (nomark _)) (pe_one (pe_cmpR op_ne (pe_ix ix_tup (pv 1) pe_int (fun _ _ => rfl)) (pe_ix ix_tup (pv 1) pe_int (fun _ _ => rfl)) (nomark _)))))))), ?_⟩
    refine ⟨v, rfl, v, rfl, hd, hb, fun H1 g1 => ⟨_, rfl, ite2 (fun e => ?_) (fun e => ?_)⟩⟩
    · have := q H1 g1
      rw [page_form (by simpa using e)] at this
      exact this
    · obtain ⟨a, k, d, r, fs, rfl, ha, hk, hl, hf⟩ := form_inv (by simpa using e)
      refine ⟨_, rfl, a, k, d, r, fs, rfl, g1.tup ha, hk, g1.2, fun H2 n g2 hn => ?_⟩
      have hP : pageB H (.ref a) = unlike (namesB fs r) := by
        have e : formB H (.ref a) = true := by simpa using e
        have e : formV H (.str k :: d :: r) = true := by simpa only [formB, ha] using e
        simp only [pageB, ha, e, Bool.true_and, namesV, hk, Option.getD_some]
      have q := q H2 (g1.trans g2)
      rw [hP] at q
      rcases names_cases hk hl hf with ⟨x, z⟩ | ⟨x, y, z⟩
      · rw [z] at hn q
        refine ⟨_, rfl, n, _, rfl, .inr (.inl (.inl hn)), rfl, _, rfl, ite2 (fun _ => q) (fun e => absurd rfl e)⟩
      · rw [z] at hn q
        refine ⟨_, rfl, n, _, rfl, .inr (.inl (.inl hn)), rfl, _, rfl, ite2 (fun e => Bool.noConfusion (show false = true from e)) (fun _ => ?_)⟩
        refine ⟨_, rfl, n, _, 0, _, rfl, rfl, .inl (.inl hn), at_of (j := 0) rfl rfl, _, rfl, n, _, 1, _, rfl, rfl, .inl (.inl hn), at_of (j := 1) rfl rfl, rfl, ?_⟩
        exact q
theorem ok_wnum (T : Tx K mg w) : FnOk P w K mg base CX0 1 T.f_w_is_number T.d_w_is_number ["_law_thing", "_law_low", "_law_most"] (spWithin) := by
  refine T.F_w_is_number.ok S_w_is_number (fun vs H Q E h => ?_) (fun cdv A outer s H vs Q E hr h => ?_)
  · obtain ⟨v, a, b, rfl, _⟩ := h
    rfl
  · obtain ⟨v, a, b, rfl, ht, q⟩ := h
    obtain ⟨t1, y1, k1⟩ := ty_kind (K := K) (n := "int") (.inl rfl) ht
    obtain ⟨t2, y2, k2⟩ := ty_kind (K := K) (n := "bool") (.inr (.inl rfl)) ht
    have isn := isN_kind ht
    refine ⟨_, (pss_one (ps_ret (pe_and (pe_callB call_isi (by rfl) T.m_isinstance (by decide +kernel) (pa_cons (pv 0) (pa_cons (pe_bltn (v := .ty "int") (by rfl) T.m_int (by decide +kernel) rfl) pa_nil))) (pe_and (pe_not (pe_callB call_isi (by rfl) T.m_isinstance (by decide +kernel) (pa_cons (pv 0) (pa_cons (pe_bltn (v := .ty "bool") (by rfl) T.m_bool (by decide +kernel) rfl) pa_nil)))) (pe_and (pe_cmpR op_le (pv 1) (pv 0) (nomark _)) (pe_one (pe_cmpR op_le (pv 0) (pv 2) (nomark _)))))))), ?_⟩
    refine ⟨v, rfl, v, _, t1, _, _, rfl, .ty _, y1, k1, _, rfl, ite2 (fun e => ?_) (fun e => ?_)⟩
    · refine ⟨v, rfl, v, _, t2, _, _, rfl, .ty _, y2, k2, _, rfl, _, rfl, ite2 (fun e2 => ?_) (fun e2 => ?_)⟩
      · have e2 : kindB H "bool" v = false := by simpa using e2
        obtain ⟨i, rfl⟩ := isN_int (v := v) (by rw [isn, e, e2]; rfl)
        have z : inW (.int i) a b = (decide (a ≤ i) && decide (i ≤ b)) := rfl
        refine ⟨_, rfl, _, rfl, _, _, rfl, rfl, _, rfl, ite2 (fun e3 => ?_) (fun e3 => ?_)⟩
        · have e3 : decide (a ≤ i) = true := e3
          rw [z, e3, Bool.true_and] at q
          exact ⟨_, rfl, _, rfl, _, _, rfl, rfl, q⟩
        · have e3 : decide (a ≤ i) = false := by simpa using e3
          rw [z, e3, Bool.false_and] at q
          exact q
      · have e2 : kindB H "bool" v = true := by simpa using e2
        rw [inW_not (by rw [isn, e, e2]; decide)] at q
        exact q
    · have e : kindB H "int" v = false := by simpa using e
      rw [inW_not (by rw [isn, e]; simp)] at q
      exact q
def spWName : Sp := fun vs H Q _ => ∃ v, vs = [v] ∧ Typed H v ∧ PlainV v ∧ ∀ H', Same H H' → Q (.bl (nameB v)) H'
theorem ok_wname (T : Tx K mg w) : FnOk P w K mg base CX0 1 T.f_w_is_name T.d_w_is_name ["_law_thing"] (spWName) := by
  refine T.F_w_is_name.ok S_w_is_name (fun vs H Q E h => ?_) (fun cdv A outer s H vs Q E hr h => ?_)
  · obtain ⟨v, rfl, _⟩ := h
    rfl
  · obtain ⟨v, rfl, ht, hpl, q⟩ := h
    obtain ⟨t1, y1, k1⟩ := ty_kind (K := K) (n := "str") (.inr (.inr (.inl rfl))) ht
    refine ⟨_, (pss_cons (ps_if (PW.pt (pw_or (pt_not (pt_val (pe_callB call_isi (by rfl) T.m_isinstance (by decide +kernel) (pa_cons (pv 0) (pa_cons (pe_bltn (v := .ty "str") (by rfl) T.m_str (by decide +kernel) rfl) pa_nil))))) (pw_or (pt_cmpR op_lt (pe_callB call_len_str (by rfl) T.m_len PySem.boot_len (pa_cons (pv 0) pa_nil)) pe_int (nomark _)) (pw_or1 (pt_cmpR op_gt (pe_callB call_len_str (by rfl) T.m_len PySem.boot_len (pa_cons (pv 0) pa_nil)) pe_int (nomark _)))))) (pss_one (ps_ret pe_bl)) pss_nil)
      (pss_one (ps_ret (pe_cmpR (op_eqD hr.units) (pe_lc (own := [("_law_sign", 1)]) (g := gName 1) (by rfl) S_w_is_name.nd (pi_str (pv 0)) (blkOk_by (own := [("_law_sign", 1)]) (N := N_w_is_name) (sc := defScope s_w_is_name) (by decide +kernel)) (fun _ _ _ _ _ => (pg_name (i := 1) S_w_is_name.nd rfl (.inl rfl))) (fun _ _ _ _ _ => (pts_one (pt_cmpR op_notIn_sign (pv 1) pe_str (by rfl)))) (fun _ _ _ _ _ => (pv 1))) (pe_lst pa_nil) (nomark _))))), ?_⟩
    refine ⟨v, rfl, v, _, t1, _, _, rfl, .ty _, y1, k1, _, rfl, ite2 (fun e => ?_) (fun e => ?_)⟩
    · refine iteT ?_
      have := q H (Same.refl _)
      rw [not_str (by intro z; rw [z] at e; exact Bool.noConfusion e)] at this
      exact this
    · obtain ⟨z, rfl⟩ := kind_str ht (by simpa using e)
      obtain ⟨hlz, hc⟩ : Plain z := hpl
      have eN : nameB (.str z) = ((decide (1 ≤ z.length) && decide (z.length ≤ 8)) && z.cps.toList.all signOk) := rfl
      refine ⟨_, rfl, z, rfl, sz (by omega), _, _, rfl, rfl, _, rfl, ite2 (fun e1 => ?_) (fun e1 => ?_)⟩
      · have e1 := of_decide_eq_true e1
        have := q H (Same.refl _)
        rw [eN, decide_eq_false (show ¬ 1 ≤ z.length by omega), Bool.false_and, Bool.false_and] at this
        exact iteT this
      · have e1 : ¬ (z.length : Int) < 1 := by simpa using e1
        refine ⟨_, rfl, z, rfl, sz (by omega), _, _, rfl, rfl, _, rfl, ite2 (fun e2 => ?_) (fun e2 => ?_)⟩
        · have e2 : (8 : Int) < z.length := by simpa using e2
          have := q H (Same.refl _)
          rw [eN, decide_eq_false (show ¬ z.length ≤ 8 by omega), Bool.and_false, Bool.false_and] at this
          exact this
        · have e2 : ¬ (8 : Int) < z.length := by simpa using e2
          rw [eN, decide_eq_true (show 1 ≤ z.length by omega), decide_eq_true (show z.length ≤ 8 by omega), Bool.true_and, Bool.true_and] at q
          refine ⟨_, rfl, z, rfl, fun D nD => ?_⟩
          refine lc_it walk_str (fun i H' => H' = upd H D (.lst (((z.cps.toList.take i).filter fun c => !signOk c).map fun c => V.str (sg c)))) rfl (fun _ _ _ _ => trivial) ?_ ?_
          · rintro i x H3 H4 hi rfl ⟨rfl, c, hci, rfl⟩
            have hci : z.cps.toList[i]? = some c := by rw [Array.getElem?_toList]; exact hci
            refine ⟨rfl, _, rfl, c, _, rfl, rfl, _, rfl, ?_⟩
            have el := in_letters c
            have key : upd (upd H D (.lst (((z.cps.toList.take i).filter fun c => !signOk c).map fun c => V.str (sg c)))) D (.lst (((z.cps.toList.take i).filter fun c => !signOk c).map (fun c => V.str (sg c)) ++ [V.str (sg c)])) = upd H D (.lst ((((z.cps.toList.take i).filter fun c => !signOk c) ++ [c]).map fun c => V.str (sg c))) := by
              rw [upd_upd', List.map_append]
              rfl
            refine ite2 (fun f => ?_) (fun f => ?_)
            · have f : signOk c = false := by
                have f : (!decide (c ∈ (Str.ofString "abcdefghijklmnopqrstuvwxyz").cps.toList)) = true := f
                rw [el] at f
                simpa using f
              refine ⟨_, rfl, _, upd_same, ?_, ?_⟩
              · rw [List.length_map]
                refine small1000 (Nat.le_trans (List.length_filter_le _ _) ?_)
                rw [List.length_take]
                have : z.cps.toList.length ≤ 100 := by rw [Array.length_toList]; exact hlz
                omega
              · show upd (upd H D _) D _ = _
                refine key.trans ?_
                rw [take_filter _ hci, f]
                rfl
            · have f : signOk c = true := by
                have f : ¬ (!decide (c ∈ (Str.ofString "abcdefghijklmnopqrstuvwxyz").cps.toList)) = true := f
                rw [el] at f
                simpa using f
              rw [take_filter _ hci, f]
              simp
          · rintro H3 rfl
            have ez : z.cps.toList.take z.cps.size = z.cps.toList := List.take_of_length_le (by simp)
            rw [ez]
            have s1 := same_upd (o := .lst ((z.cps.toList.filter fun c => !signOk c).map fun c => V.str (sg c))) nD
            refine ⟨Nat.zero_le _, fun F nF => ?_⟩
            have s2 := same_upd (o := .lst []) nF
            refine ⟨_, _, .lst (.inl (.inl (s2 _ _ upd_same))) (dp_signs _), .lst (.inl (.inl upd_same)) .nil, shaped_signs fun c hcm => hc c (List.mem_filter.mp hcm).1, by decide, ?_⟩
            have := q _ (s1.trans s2)
            rw [← filter_empty] at this
            rw [eqv_signs]
            exact this
end
end L05

set_option Elab.async false
set_option linter.all false
set_option maxRecDepth 100000
set_option maxHeartbeats 2000000
namespace L05
open PySem PySem.Spec PyProof.Rows L2 My
section
variable {P : Program} {w : World} {K : PySem.W.Frag} {mg : Str → Option Value} {base : Heap}
theorem ok_place (T : Tx K mg w) : FnOk P w K mg base CX0 2 T.f_page_place T.d_page_place ["page"] (spKey place PgK) := by
  have G_page_day : FnOk P w K mg base CX0 1 T.f_page_day T.d_page_day ["page"] ((spAt 1)) := ok_page_day T
  have G_page_kind : FnOk P w K mg base CX0 1 T.f_page_kind T.d_page_kind ["page"] ((spAt 0)) := ok_page_kind T
  refine T.F_page_place.ok S_page_place (fun vs H Q E h => ?_) (fun cdv A outer s H vs Q E hr h => ?_)
  · obtain ⟨x, k, rfl, _⟩ := h
    rfl
  · obtain ⟨x, k, rfl, hx, ⟨z, d, r, rfl, hr2, d0, d1⟩, q⟩ := h
    cases hx with
    | @tup a xs _ ha hk =>
      cases hk with
      | @cons v1 _ xs1 _ n1 hk =>
        cases n1
        cases hk with
        | @cons v2 _ xs2 _ n2 hk =>
          cases n2
          refine ⟨_, (pss_one (ps_ret (pe_tup (pa_cons (pe_call G_page_day hr (by rfl) T.g_page_day T.F_page_day.kp T.b_page_day .nil pass0 (pa_cons (pv 0) pa_nil)) (pa_cons (pe_bm PySem.F.plainAttrs_tuple PySem.F.slot_tuple_index PySem.F.type_tuple_index mt_tup_index (pe_glob (v := .ref T.a_KINDS) (by rfl) T.c_KINDS rfl) (pa_cons (pe_call G_page_kind hr (by rfl) T.g_page_kind T.F_page_kind.kp T.b_page_kind .nil pass0 (pa_cons (pv 0) pa_nil)) pa_nil)) (pa_cons (pv 0) pa_nil)))))), ?_⟩
          obtain ⟨i1, i2⟩ := ixK_at hr2
          refine ⟨_, rfl, a, _, .int d, rfl, ha, rfl, ?_⟩
          refine ⟨.inr (.inl ⟨rfl, T.wn_KINDS⟩), _, rfl, a, _, .str z, rfl, ha, rfl, ?_⟩
          refine ⟨T.a_KINDS, kinds, z, ixK z, rfl, rfl, .inr T.w_KINDS, i1, i2, _, rfl, sz (by show 3 ≤ 1000; decide), fun p np => ?_⟩
          have sm := same_upd (o := .tup [.int d, .int (ixK z), .ref a]) np
          refine q _ _ sm (.tup upd_same (.cons (.int d) (.cons (.int _) (.cons ?_ .nil))))
          exact .tup (sm _ _ ha) (.cons (.str z) (.cons (.int d) (hk.at (.same sm))))
def spAhead : Sp := fun vs H Q _ => ∃ x y k l, vs = [x, y] ∧ Nk H x k ∧ Nk H y l ∧ PgK k ∧ PgK l ∧ ∀ H', Same H H' → Q (.bl (My.ahead k l)) H'
theorem ok_ahead (T : Tx K mg w) : FnOk P w K mg base CX0 3 T.f_stands_ahead T.d_stands_ahead ["one", "other"] (spAhead) := by
  have G_page_place : FnOk P w K mg base CX0 2 T.f_page_place T.d_page_place ["page"] (spKey place PgK) := ok_place T
  refine T.F_stands_ahead.ok S_stands_ahead (fun vs H Q E h => ?_) (fun cdv A outer s H vs Q E hr h => ?_)
  · obtain ⟨x, y, k, l, rfl, _⟩ := h
    rfl
  · obtain ⟨x, y, k, l, rfl, hx, hy, pk, pl, q⟩ := h
    refine ⟨_, (pss_one (ps_ret (pe_cmpR (op_ltN hr.units) (pe_call G_page_place hr (by rfl) T.g_page_place T.F_page_place.kp T.b_page_place .nil pass0 (pa_cons (pv 0) pa_nil)) (pe_call G_page_place hr (by rfl) T.g_page_place T.F_page_place.kp T.b_page_place .nil pass0 (pa_cons (pv 1) pa_nil)) (nomark _)))), ?_⟩
    refine ⟨_, rfl, x, k, rfl, hx, pk, fun v H1 s1 n1 => ⟨_, rfl, y, l, rfl, hy.at (.same s1), pl, fun u H2 s2 n2 => ?_⟩⟩
    exact ⟨_, _, _, n1.at (.same s2), n2, (place_depth pk).1, ahead_lt pk pl, q H2 (s1.trans s2)⟩
theorem ris_len : ∀ (ws : List Int) (a : Int), risB (a :: ws) = true → (∀ w ∈ a :: ws, w ≤ 6) → (ws.length : Int) ≤ 6 - a
  | [], a, _, h => by have := h a (.head _); simp; omega
  | b :: r, a, e, h => by
    have e : (decide (a < b) && risB (b :: r)) = true := e
    rw [Bool.and_eq_true, decide_eq_true_eq] at e
    have := ris_len r b e.2 fun w hw => h w (.tail _ hw)
    rw [List.length_cons]
    omega
theorem home_w {H : Hp} {v : V} (h : homeB H v = true) : ∃ b ws, v = .ref b ∧ H b = some (.tup (ws.map V.int)) ∧ HomeW ws := by
  cases v with
  | ref b =>
    cases e : H b with
    | none => simp [homeB, e] at h
    | some o =>
      cases o with
      | tup xs =>
        have h : homeV xs = true := by simpa only [homeB, e] using h
        unfold homeV at h
        rw [Bool.and_eq_true] at h
        have al := List.all_eq_true.mp h.1
        have ex := map_unI al
        refine ⟨b, xs.map unI, rfl, by rw [← ex]; exact e, ?_, ?_⟩
        · have bd : ∀ w ∈ xs.map unI, 0 ≤ w ∧ w ≤ 6 := fun w hw => by
            have := al (.int w) (by rw [ex]; exact List.mem_map.mpr ⟨w, hw, rfl⟩)
            have : (decide (0 ≤ w) && decide (w ≤ 6)) = true := this
            rw [Bool.and_eq_true, decide_eq_true_eq, decide_eq_true_eq] at this
            exact this
          cases e2 : xs.map unI with
          | nil => simp
          | cons a r =>
            rw [e2] at h bd
            have := ris_len r a h.2 fun w hw => (bd w hw).2
            have := (bd a (.head _)).1
            rw [List.length_cons]
            omega
        · intro w hw
          have := al (.int w) (by rw [ex]; exact List.mem_map.mpr ⟨w, hw, rfl⟩)
          have : (decide (0 ≤ w) && decide (w ≤ 6)) = true := this
          rw [Bool.and_eq_true, decide_eq_true_eq, decide_eq_true_eq] at this
          omega
      | _ => simp [homeB, e] at h
  | _ => cases h
theorem name_p {v : V} (h : nameB v = true) : ∃ z, v = .str z ∧ Plain z := by
  obtain ⟨z, rfl⟩ := name_str h
  have h : ((decide (1 ≤ z.length) && decide (z.length ≤ 8)) && z.cps.toList.all signOk) = true := h
  rw [Bool.and_eq_true, Bool.and_eq_true, decide_eq_true_eq, decide_eq_true_eq, List.all_eq_true] at h
  refine ⟨z, rfl, by omega, fun c hc => ?_⟩
  have := h.2 c hc
  unfold signOk at this
  rw [Bool.and_eq_true, decide_eq_true_eq, decide_eq_true_eq] at this
  omega
theorem in_w {v : V} {a b : Int} (h : inW v a b = true) : ∃ i, v = .int i ∧ a ≤ i ∧ i ≤ b := by
  cases v with
  | int i =>
    have h : (decide (a ≤ i) && decide (i ≤ b)) = true := h
    rw [Bool.and_eq_true, decide_eq_true_eq, decide_eq_true_eq] at h
    exact ⟨i, rfl, h⟩
  | _ => cases h
theorem fit_home {H : Hp} {v : V} (h : fitB H "home" v = true) : homeB H v = true := by
  unfold fitB at h
  rw [if_neg (by decide +kernel), if_pos rfl] at h
  exact h
theorem fit_many {H : Hp} {v : V} (h : fitB H "many" v = true) : inW v 1 60 = true := by
  unfold fitB at h
  rw [if_neg (by decide +kernel), if_neg (by decide +kernel)] at h
  exact h
theorem fits_cons {H : Hp} {f : Str} {fs : List Str} {x : V} {r : List V} (h : fitsB H (f :: fs) (x :: r) = true) : fitB H f x = true ∧ fitsB H fs r = true := by
  unfold fitsB at h
  rw [List.zip_cons_cons, List.all_cons, Bool.and_eq_true] at h
  exact h
/-- what is a page is one by its keys -/
theorem page_key {H : Hp} {v : V} (h : pageB H v = true) : ∃ k, Nk H v k ∧ PgK k := by
  have hf : formB H v = true := by
    cases e : formB H v with
    | true => rfl
    | false => rw [page_form e] at h; cases h
  obtain ⟨a, k, d, r, fs, rfl, ha, hk, hl, hfs⟩ := form_inv hf
  have hd : inW d 0 9999 = true := by
    have e : formV H (.str k :: d :: r) = true := by simpa only [formB, ha] using hf
    simp only [formV, hk, Bool.and_eq_true] at e
    exact e.1
  obtain ⟨i, rfl, i0, i1⟩ := in_w hd
  have mk : ∀ rr, NkAll H r rr → Rest k rr → ∃ k', Nk H (.ref a) k' ∧ PgK k' := fun rr nr re => ⟨.tup (.text k :: .num i :: rr), .tup ha (.cons (.str k) (.cons (.int i) nr)), k, i, rr, rfl, re, i0, by omega⟩
  have nh : fs = [("name" : Str), "home"] → ∃ z ws, NkAll H r [.text z, .tup (ws.map .num)] ∧ Plain z ∧ HomeW ws := fun e => by
    subst e
    match r, hl with
    | [x, y], _ =>
      obtain ⟨f1, f2⟩ := fits_cons hfs
      obtain ⟨z, rfl, pz⟩ := name_p (fit_name f1)
      obtain ⟨b, ws, rfl, hb, hw⟩ := home_w (fit_home (fits_cons f2).1)
      exact ⟨z, ws, .cons (.str z) (.cons (nk_home hb) .nil), pz, hw⟩
  have nn : fs = [("name" : Str), "name"] → ∃ z z', NkAll H r [.text z, .text z'] ∧ Plain z ∧ Plain z' := fun e => by
    subst e
    match r, hl with
    | [x, y], _ =>
      obtain ⟨f1, f2⟩ := fits_cons hfs
      obtain ⟨z, rfl, pz⟩ := name_p (fit_name f1)
      obtain ⟨z', rfl, pz'⟩ := name_p (fit_name (fits_cons f2).1)
      exact ⟨z, z', .cons (.str z) (.cons (.str z') .nil), pz, pz'⟩
  unfold formsOf at hk
  split at hk
  · rename_i e; subst e; cases hk
    obtain ⟨z, ws, n, p1, p2⟩ := nh rfl
    exact mk _ n (.house p1 p2)
  split at hk
  · rename_i e; subst e; cases hk
    match r, hl, hfs, mk with
    | [x, y, t], _, hfs, mk =>
      obtain ⟨f1, f2⟩ := fits_cons hfs
      obtain ⟨f2, f3⟩ := fits_cons f2
      obtain ⟨z, rfl, pz⟩ := name_p (fit_name f1)
      obtain ⟨z', rfl, pz'⟩ := name_p (fit_name f2)
      obtain ⟨b, ws, rfl, hb, hw⟩ := home_w (fit_home (fits_cons f3).1)
      exact mk _ (.cons (.str z) (.cons (.str z') (.cons (nk_home hb) .nil))) (.part pz pz' hw)
  split at hk
  · rename_i e; subst e; cases hk
    obtain ⟨z, z', n, p1, p2⟩ := nn rfl
    exact mk _ n (.join p1 p2)
  split at hk
  · rename_i e; subst e; cases hk
    obtain ⟨z, ws, n, p1, p2⟩ := nh rfl
    exact mk _ n (.home p1 p2)
  split at hk
  · rename_i e; subst e; cases hk
    match r, hl, hfs, mk with
    | [x, y], _, hfs, mk =>
      obtain ⟨f1, f2⟩ := fits_cons hfs
      obtain ⟨z, rfl, pz⟩ := name_p (fit_name f1)
      obtain ⟨m, rfl, m0, m1⟩ := in_w (fit_many (fits_cons f2).1)
      exact mk _ (.cons (.str z) (.cons (.int m) .nil)) (.mourn pz (by omega) m1)
  split at hk
  · rename_i e; subst e; cases hk
    obtain ⟨z, z', n, p1, p2⟩ := nn rfl
    exact mk _ n (.ahead p1 p2)
  split at hk
  · rename_i e; subst e; cases hk
    obtain ⟨z, z', n, p1, p2⟩ := nn rfl
    exact mk _ n (.card p1 p2)
  split at hk
  · rename_i e; subst e; cases hk
    obtain ⟨z, z', n, p1, p2⟩ := nn rfl
    exact mk _ n (.visit p1 p2)
  cases hk
theorem all_like {α : Type} {f g : α → Bool} : ∀ {l : List α}, (∀ p ∈ l, f p = g p) → l.all f = l.all g
  | [], _ => rfl
  | a :: l, h => by rw [List.all_cons, List.all_cons, h a (.head _), all_like fun p hp => h p (.tail _ hp)]
theorem pageB_kn {H H' : Hp} {v : V} (h : Pgd H v) (g : ∀ b o, H b = some o → (∀ ps, o ≠ .tbl ps) → H' b = some o) : pageB H' v = pageB H v := by
  obtain ⟨ht, hd⟩ := h
  cases v with
  | ref a =>
    rcases ht with ⟨xs, e⟩ | ⟨xs, e⟩ | ⟨xs, e⟩
    · have e' := g _ _ e (fun ps z => by cases z)
      obtain ⟨_, hx⟩ := hd a xs rfl e
      simp only [pageB, e, e']
      congr 1
      cases xs with
      | nil => rfl
      | cons x xs =>
        cases xs with
        | nil => cases x <;> rfl
        | cons d r =>
          cases x with
          | str k =>
            simp only [formV]
            cases formsOf k with
            | none => rfl
            | some fs =>
              dsimp only
              congr 2
              unfold fitsB
              refine all_like fun p hp => ?_
              have m := (List.of_mem_zip hp).2
              exact fitB_gk (Ts := []) (hx p.2 (List.mem_cons_of_mem _ (List.mem_cons_of_mem _ m))).1.1 ⟨g, fun _ h => by cases h⟩
          | _ => rfl
    · have e' := g _ _ e (fun ps z => by cases z)
      simp only [pageB, e, e']
    · have e' := g _ _ e (fun ps z => by cases z)
      simp only [pageB, e, e']
  | _ => rfl
/-- each stands ahead of the next -/
def ordB : List NestedKey → Bool
  | a :: b :: r => My.ahead a b && ordB (b :: r)
  | _ => true
theorem ord_iff : ∀ ks : List NestedKey, ordB ks = true ↔ ∀ (i : Nat) (x y : NestedKey), ks[i]? = some x → ks[i + 1]? = some y → My.ahead x y = true
  | [] => by simp [ordB]
  | [a] => by simp [ordB]
  | a :: b :: r => by
    show (My.ahead a b && ordB (b :: r)) = true ↔ _
    rw [Bool.and_eq_true, ord_iff (b :: r)]
    constructor
    · rintro ⟨h1, h2⟩ i x y hx hy
      cases i with
      | zero => cases hx; cases hy; exact h1
      | succ i => exact h2 i x y hx hy
    · intro h
      exact ⟨h 0 a b rfl rfl, fun i x y hx hy => h (i + 1) x y hx hy⟩
/-- a thing that may be a book -/
def Bkd (H : Hp) (v : V) : Prop := Typed H v ∧ ∀ a xs, v = .ref a → H a = some (.tup xs) → xs.length ≤ 900 ∧ ∀ x ∈ xs, Pgd H x
inductive BookIs (H : Hp) : V → Bool → Prop
  | other {v : V} : kindB H "tuple" v = false → BookIs H v false
  | bad {a : Addr} {xs : List V} {x : V} : H a = some (.tup xs) → x ∈ xs → pageB H x = false → BookIs H (.ref a) false
  | good {a : Addr} {xs : List V} {ks : List NestedKey} : H a = some (.tup xs) → NkAll H xs ks → (∀ k ∈ ks, PgK k) → (∀ x ∈ xs, pageB H x = true) → BookIs H (.ref a) (ordB ks)
theorem keys_ex {H : Hp} : ∀ {xs : List V}, (∀ x ∈ xs, pageB H x = true) → ∃ ks, NkAll H xs ks ∧ ∀ k ∈ ks, PgK k
  | [], _ => ⟨[], .nil, fun k hk => by cases hk⟩
  | x :: xs, h => by
    obtain ⟨k, n, p⟩ := page_key (h x (.head _))
    obtain ⟨ks, ns, ps⟩ := keys_ex (xs := xs) fun y hy => h y (.tail _ hy)
    exact ⟨k :: ks, .cons n ns, fun y hy => (List.mem_cons.mp hy).elim (fun e => by rw [e]; exact p) (ps y)⟩
theorem book_is {H : Hp} {v : V} (h : Bkd H v) : ∃ b, BookIs H v b := by
  cases e : kindB H "tuple" v with
  | false => exact ⟨false, .other e⟩
  | true =>
    obtain ⟨a, xs, rfl, ha⟩ := kind_tup h.1 e
    by_cases c : ∀ x ∈ xs, pageB H x = true
    · obtain ⟨ks, n, p⟩ := keys_ex c
      exact ⟨_, .good ha n p c⟩
    · obtain ⟨x, hx, ne⟩ : ∃ x ∈ xs, pageB H x = false := by
        refine Classical.byContradiction fun z => c fun x hx => ?_
        cases e2 : pageB H x with
        | true => rfl
        | false => exact absurd ⟨x, hx, e2⟩ z
      exact ⟨false, .bad ha hx ne⟩
def spBook (T : Tx K mg w) : Sp := fun vs H Q _ => ∃ v b, vs = [v] ∧ Bkd H v ∧ BookIs H v b ∧ Tbs (tbs T) H ∧ ∀ H', Gk (tbs T) H H' → Q (.bl b) H'
theorem ok_isbook (T : Tx K mg w) (B : Tb T base) : FnOk P w K mg base CX0 10 T.f_is_book T.d_is_book ["thing"] (spBook T) := by
  have G_is_page : FnOk P w K mg base CX0 8 T.f_is_page T.d_is_page ["thing"] (spPage T) := ok_page T B
  have G_stands_ahead : FnOk P w K mg base CX0 3 T.f_stands_ahead T.d_stands_ahead ["one", "other"] (spAhead) := ok_ahead T
  refine T.F_is_book.ok S_is_book (fun vs H Q E h => ?_) (fun A outer s H vs Q E hr h => ?_)
  · obtain ⟨v, b, rfl, _⟩ := h
    rfl
  · obtain ⟨v, b, rfl, bd, bi, tb, q⟩ := h
    obtain ⟨t1, y1, k1⟩ := ty_kind (K := K) (n := "tuple") (.inr (.inr (.inr rfl))) bd.1
    refine ⟨_, (pss_cons (ps_if (PW.pt (pw_or (pt_not (pt_val (pe_callB call_isi (by rfl) T.m_isinstance (by decide +kernel) (pa_cons (pv 0) (pa_cons (pe_bltn (v := .ty "tuple") (by rfl) T.m_tuple (by decide +kernel) rfl) pa_nil))))) (pw_or1 (pt_not (pt_val (GE.pe_allG (own := [("part", 1)]) (g := gName 1) (tt := tYes) (by rfl) S_is_book.nd hr (by rfl) T.m_all B.b_is_book rfl ⟨blkOk_by (own := [("part", 1)]) (N := N_is_book) (sc := defScope s_is_book) (by decide +kernel), rfl, (by decide +kernel), (by decide +kernel)⟩ (pi_tup (pv 0)) (fun _ _ _ _ _ _ hr => (pg_name (i := 1) S_is_book.nd rfl (.inl rfl))) (fun _ _ _ _ _ _ hr => pts_nil) (fun _ _ _ _ _ _ hr => (pe_call G_is_page hr (by rfl) T.g_is_page T.F_is_page.kp T.b_is_page .nil pass0 (pa_cons (pv 1) pa_nil))))))))) (pss_one (ps_ret pe_bl)) pss_nil)
      (pss_one (ps_ret (GE.pe_allG (own := [("k", 2)]) (g := gName 2) (tt := tYes) (by rfl) S_is_book.nd hr (by rfl) T.m_all B.b_is_book rfl ⟨blkOk_by (own := [("k", 2)]) (N := N_is_book) (sc := defScope s_is_book) (by decide +kernel), rfl, (by decide +kernel), (by decide +kernel)⟩ (pi_range1 (by rfl) T.m_range (pa_cons (pe_op op_sub (pe_callB call_len_seq (by rfl) T.m_len PySem.boot_len (pa_cons (pv 0) pa_nil)) pe_int) pa_nil)) (fun _ _ _ _ _ _ hr => (pg_name (i := 2) S_is_book.nd rfl (.inl rfl))) (fun _ _ _ _ _ _ hr => pts_nil) (fun _ _ _ _ _ _ hr => (pe_call G_stands_ahead (hr.mono (by decide)) (by rfl) T.g_stands_ahead T.F_stands_ahead.kp T.b_stands_ahead .nil pass0 (pa_cons (pe_ix (r := rIxT K) ix_tup (pv 0) (pv 2) (fun _ _ => rfl)) (pa_cons (pe_ix (r := rIxT K) ix_tup (pv 0) (pe_op op_add (pv 2) pe_int) (fun _ _ => rfl)) pa_nil)))))))), ?_⟩
    refine ⟨v, rfl, v, _, t1, _, _, rfl, .ty _, y1, k1, _, rfl, ite2 (fun e => ?_) (fun e => ?_)⟩
    · have e : kindB H "tuple" v = false := by simpa using e
      refine iteT ?_
      cases bi with
      | other _ => exact q H (.refl tb)
      | bad ha _ _ => simp [kindB, ha] at e
      | good ha _ _ _ => simp [kindB, ha] at e
    · obtain ⟨a, xs, rfl, ha⟩ := kind_tup bd.1 (by simpa using e)
      obtain ⟨hl, hx⟩ := bd.2 a xs rfl ha
      refine ⟨_, rfl, a, rfl, ⟨xs, .inl (.inl ha)⟩, tb _ (by simp [tbs]), fun H1 tab => ?_⟩
      have g1 : Gk (tbs T) H H1 := (Tk.of tb (by simp [tbs]) tab).gk tb
      refine GE.ag_it (walk_tup (xs := xs)) (fun i Hx => Gk (tbs T) H Hx ∧ ∀ (k : Nat) (x : V), k < i → xs[k]? = some x → pageB H x = true) ⟨g1, fun k x hk => by omega⟩ ?_ ?_ ?_
      · rintro i Hx _ ⟨gx, _⟩
        exact .inl (.inl (gx.tup ha))
      · rintro i x H3 H4 hi ⟨g3, hp⟩ ⟨rfl, hxi⟩
        have mx := List.mem_of_getElem? hxi
        have px := hx x mx
        refine ⟨rfl, tYesT ⟨_, rfl, x, rfl, px.of g3.1, g3.2, fun H5 g5 => ⟨_, rfl, fun e2 => ?_, fun e2 => ⟨g3.trans g5, fun k y hk ey => ?_⟩⟩⟩⟩
        · rw [pageB_kn px g3.1] at e2
          refine ⟨_, rfl, ?_⟩
          cases bi with
          | other k => simp [kindB, ha] at k
          | bad _ _ _ => exact q _ (g3.trans g5)
          | good ha' _ _ al =>
            rw [ha] at ha'
            cases ha'
            rw [al x mx] at e2
            cases e2
        · rw [pageB_kn px g3.1] at e2
          by_cases z : k = i
          · subst z
            rw [hxi] at ey
            cases ey
            simpa using e2
          · exact hp k y (by omega) ey
      · rintro H3 ⟨g3, hp⟩
        refine ⟨_, rfl, ?_⟩
        have al : ∀ x ∈ xs, pageB H x = true := fun x hx => by
          obtain ⟨k, hk⟩ := List.mem_iff_getElem?.mp hx
          exact hp k x (List.getElem?_eq_some_iff.mp hk).1 hk
        cases bi with
        | other k => simp [kindB, ha] at k
        | bad ha' hm ne =>
          rw [ha] at ha'
          cases ha'
          rw [al _ hm] at ne
          cases ne
        | @good _ _ ks ha' nk pk _ =>
          rw [ha] at ha'
          cases ha'
          have lk := nk.length
          refine ⟨_, rfl, a, _, rfl, .inr (.inl (.inl (g3.tup ha))), _, _, rfl, rfl, _, rfl, by omega, by omega, g3.2 _ (by simp [tbs]), fun H4 tab4 => ?_⟩
          have g4 : Gk (tbs T) H H4 := g3.trans ((Tk.of g3.2 (by simp [tbs]) tab4).gk g3.2)
          refine GE.ag_it walk_range (fun i Hx => Gk (tbs T) H Hx ∧ ∀ (k : Nat) (x y : NestedKey), k < i → ks[k]? = some x → ks[k + 1]? = some y → My.ahead x y = true) ⟨g4, fun k x y hk => by omega⟩ (fun _ _ _ _ => trivial) ?_ ?_
          · rintro i x H5 H6 hi ⟨g5, hp5⟩ ⟨rfl, rfl⟩
            have h1 : i < xs.length := by omega
            have h2 : i + 1 < xs.length := by omega
            obtain ⟨k1, e1, n1⟩ := nk.get (List.getElem?_eq_getElem h1)
            obtain ⟨k2, e2, n2⟩ := nk.get (List.getElem?_eq_getElem h2)
            have t5 : Tups H H6 := Tups.gk g5
            refine ⟨rfl, tYesT ?_⟩
            refine ⟨_, rfl, _, rfl, a, _, _, xs[i], rfl, rfl, .inl (.inl (g5.tup ha)), at_of (j := i) (by omega) (List.getElem?_eq_getElem h1), ?_⟩
            refine ⟨_, rfl, _, rfl, _, _, rfl, rfl, a, _, _, xs[i + 1], rfl, rfl, .inl (.inl (g5.tup ha)), at_of (j := i + 1) (by omega) (List.getElem?_eq_getElem h2), ?_⟩
            refine ⟨_, _, k1, k2, rfl, n1.at t5, n2.at t5, pk k1 (List.mem_of_getElem? e1), pk k2 (List.mem_of_getElem? e2), fun H7 s7 => ⟨_, rfl, fun e => ?_, fun e => ⟨g5.trans (.of_same s7 g5.2), fun k x y hk ex ey => ?_⟩⟩⟩
            · have z : ordB ks = false := by
                cases z : ordB ks
                · rfl
                · have := (ord_iff ks).mp z i k1 k2 e1 e2
                  rw [this] at e
                  cases e
              have := q H7 (g5.trans (.of_same s7 g5.2))
              rw [z] at this
              exact this
            · by_cases z : k = i
              · subst z
                rw [e1] at ex
                rw [e2] at ey
                cases ex
                cases ey
                simpa using e
              · exact hp5 k x y (by omega) ex ey
          · rintro H5 ⟨g5, hp5⟩
            have z : ordB ks = true := (ord_iff ks).mpr fun k x y e1 e2 => by
              have := (List.getElem?_eq_some_iff.mp e2).1
              refine hp5 k x y ?_ e1 e2
              omega
            have := q H5 g5
            rw [z] at this
            exact this
end
end L05

set_option Elab.async false
set_option linter.all false
set_option maxRecDepth 100000
set_option maxHeartbeats 2000000
/-! xs == [], xs != []: a list of any things against the list of none. -/
namespace My
open PySem PySem.Spec PyProof.Rows L2 PySem.SeqAt
def rEqE (K : PySem.W.Frag) (f : Bool → Bool) : R2 := fun x y H Q => ∃ (p q : Addr) (xs : List V), x = .ref p ∧ y = .ref q ∧ SqL K H p xs ∧ SqL K H q [] ∧ Q (.bl (f xs.isEmpty)) H
section
variable {X : Cx}
theorem op_eqE (hu : X.A.units + 1 < cLine) : OpR X (compareOp .Eq) (rEqE X.K fun b => b) := by
  intro pins s σ H x y v u Q I rx ry h
  obtain ⟨p, q, xs, rfl, rfl, hp, hq, h⟩ := h
  cases (show v = Value.ref p from rx)
  cases (show u = Value.ref q from ry)
  obtain ⟨us, r1, p1, _⟩ := I.list hp
  obtain ⟨ws, r2, p2, _⟩ := I.list hq
  cases r2
  cases r1 with
  | nil => exact RcAt.lists (e := fun _ => true) p1.isList p2.isList rfl (by omega) (fun j h1 _ => absurd h1 (Nat.not_lt_zero j)) X.prog X.w _ _ ⟨.bl true, H, I, rfl, h⟩
  | cons _ _ => exact RcAt.lists_lengths p1.isList p2.isList (by simp) (by omega) X.prog X.w _ _ ⟨.bl false, H, I, rfl, h⟩
theorem op_neE (hu : X.A.units + 1 < cLine) : OpR X (compareOp .NotEq) (rEqE X.K fun b => !b) := by
  intro pins s σ H x y v u Q I rx ry h
  obtain ⟨p, q, xs, rfl, rfl, hp, hq, h⟩ := h
  cases (show v = Value.ref p from rx)
  cases (show u = Value.ref q from ry)
  obtain ⟨us, r1, p1, _⟩ := I.list hp
  obtain ⟨ws, r2, p2, _⟩ := I.list hq
  cases r2
  cases r1 with
  | nil => exact RcNeAt.lists (e := fun _ => true) p1.isList p2.isList rfl (by omega) (fun j h1 _ => absurd h1 (Nat.not_lt_zero j)) X.prog X.w _ _ ⟨.bl false, H, I, rfl, h⟩
  | cons _ _ => exact RcNeAt.lists_lengths p1.isList p2.isList (by simp) (by omega) X.prog X.w _ _ ⟨.bl true, H, I, rfl, h⟩
end
end My

set_option Elab.async false
set_option linter.all false
set_option maxRecDepth 100000
set_option maxHeartbeats 2000000
namespace L05
open PySem PySem.Spec PyProof.Rows L2 My
section
variable {P : Program} {w : World} {K : PySem.W.Frag} {mg : Str → Option Value} {base : Heap}
theorem same_fresh {H H1 : Hp} {p : Addr} {o : HO} (hp : H p = none) (k : Same H H1) : Same H (upd H1 p o) := fun b x h => by
  rw [upd_ne (ne_of_none h hp)]
  exact k _ _ h
theorem filter_no {α : Type} {l : List α} {f : α → Bool} : (l.filter fun x => !f x).isEmpty = l.all f := by
  induction l with
  | nil => rfl
  | cons a l ih =>
    rw [List.filter_cons, List.all_cons]
    cases h : f a with
    | true => simp [ih]
    | false => simp
def spWHome : Sp := fun vs H Q _ => ∃ v, vs = [v] ∧ Deep H v ∧ ∀ H', Same H H' → Q (.bl (homeB H v)) H'
theorem ok_wishome (T : Tx K mg w) : FnOk P w K mg base CX0 2 T.f_w_is_home T.d_w_is_home ["_law_thing"] (spWHome) := by
  have G_w_is_number : FnOk P w K mg base CX0 1 T.f_w_is_number T.d_w_is_number ["_law_thing", "_law_low", "_law_most"] (spWithin) := ok_wnum T
  refine T.F_w_is_home.ok S_w_is_home (fun vs H Q E h => ?_) (fun cdv A outer s H vs Q E hr h => ?_)
  · obtain ⟨v, rfl, _⟩ := h
    rfl
  · obtain ⟨v, rfl, ⟨ht, hd⟩, q⟩ := h
    obtain ⟨t1, y1, k1⟩ := ty_kind (K := K) (n := "tuple") (.inr (.inr (.inr rfl))) ht
    refine ⟨_, (pss_cons (ps_if (PW.pt (pw_or (pt_not (pt_val (pe_callB call_isi (by rfl) T.m_isinstance (by decide +kernel) (pa_cons (pv 0) (pa_cons (pe_bltn (v := .ty "tuple") (by rfl) T.m_tuple (by decide +kernel) rfl) pa_nil))))) (pw_or1 (pt_cmpR (op_neE (hu_of hr)) (pe_lc (own := [("_law_one", 1)]) (g := gName 1) (by rfl) S_w_is_home.nd (pi_tup (pv 0)) (blkOk_by (own := [("_law_one", 1)]) (N := N_w_is_home) (sc := defScope s_w_is_home) (by decide +kernel)) (fun _ _ _ _ _ => (pg_name (i := 1) S_w_is_home.nd rfl (.inl rfl))) (fun _ _ _ _ _ => (pts_one (pt_not (pt_val (pe_call G_w_is_number hr (by rfl) T.g_w_is_number T.F_w_is_number.kp T.b_w_is_number .nil pass0 (pa_cons (pv 1) (pa_cons pe_int (pa_cons pe_int pa_nil)))))))) (fun _ _ _ _ _ => (pv 1))) (pe_lst pa_nil) (nomark _))))) (pss_one (ps_ret pe_bl)) pss_nil)
      (pss_one (ps_ret (pe_cmpR (op_eqE (hu_of hr)) (pe_lc (own := [("_law_k", 2)]) (g := gName 2) (by rfl) S_w_is_home.nd (pi_range2 (by rfl) T.m_range (pa_cons pe_int (pa_cons (pe_callB call_len_seq (by rfl) T.m_len PySem.boot_len (pa_cons (pv 0) pa_nil)) pa_nil))) (blkOk_by (own := [("_law_k", 2)]) (N := N_w_is_home) (sc := defScope s_w_is_home) (by decide +kernel)) (fun _ _ _ _ _ => (pg_name (i := 2) S_w_is_home.nd rfl (.inl rfl))) (fun _ _ _ _ _ => (pts_one (pt_cmpR op_ge (pe_ix (r := rIxT K) ix_tup (pv 0) (pe_op op_sub (pv 2) pe_int) (fun _ _ => rfl)) (pe_ix (r := rIxT K) ix_tup (pv 0) (pv 2) (fun _ _ => rfl)) (nomark _)))) (fun _ _ _ _ _ => (pv 2))) (pe_lst pa_nil) (nomark _))))), ?_⟩
    refine ⟨v, rfl, v, _, t1, _, _, rfl, .ty _, y1, k1, _, rfl, ite2 (fun e => ?_) (fun e => ?_)⟩
    · have := q H (.refl _)
      rw [not_tup (by intro z; rw [z] at e; exact Bool.noConfusion e)] at this
      exact iteT this
    · obtain ⟨a, xs, rfl, ha⟩ := kind_tup ht (by simpa using e)
      obtain ⟨hl, hx⟩ := hd a xs rfl ha
      have hB : homeB H (.ref a) = homeV xs := by simp only [homeB, ha]
      rw [hB] at q
      refine ⟨_, rfl, a, rfl, ⟨xs, .inl (.inl ha)⟩, fun D nD => ?_⟩
      have sD := fun o => same_upd (o := o) nD
      refine lc_it (walk_tup (xs := xs)) (fun i Hx => Hx = upd H D (.lst ((xs.take i).filter fun x => !inW x 0 6))) rfl (fun i Hx _ h => by rw [h]; exact .inl (.inl (sD _ _ _ ha))) ?_ ?_
      · rintro i x Hx Hy hi rfl ⟨rfl, hxi⟩
        have li := (List.getElem?_eq_some_iff.mp hxi).1
        refine ⟨rfl, _, rfl, x, 0, 6, rfl, (hx x (List.mem_of_getElem? hxi)).same (sD _), _, rfl, ?_⟩
        rw [take_filter _ hxi]
        refine ite2 (fun e2 => ?_) (fun e2 => ?_)
        · have e2 : (!inW x 0 6) = true := e2
          refine ⟨_, rfl, _, upd_same, small1000 ?_, ?_⟩
          · refine Nat.le_trans (List.length_filter_le _ _) ?_
            rw [List.length_take]
            omega
          · rw [if_pos e2, upd_upd']
        · have e2 : ¬ (!inW x 0 6) = true := e2
          show upd H D _ = upd H D _
          rw [if_neg e2, List.append_nil]
      · rintro Hx rfl
        rw [List.take_of_length_le (Nat.le_refl _)]
        refine ⟨Nat.zero_le _, fun F nF => ?_⟩
        have sF := same_upd (o := .lst []) nF
        have s2 := (sD _).trans sF
        refine ⟨D, F, _, rfl, rfl, .inl (.inl (sF _ _ upd_same)), .inl (.inl upd_same), _, rfl, ?_⟩
        dsimp only
        rw [filter_no]
        have ha2 := s2 _ _ ha
        generalize upd (upd H D _) F (.lst []) = H2 at s2 ha2 ⊢
        clear sF nF sD nD
        refine ite2 (fun e2 => ?_) (fun e2 => ?_)
        · have e2 : (!xs.all fun x => inW x 0 6) = true := e2
          have := q H2 s2
          rw [homeV, (by simpa using e2 : (xs.all fun x => inW x 0 6) = false), Bool.false_and] at this
          exact this
        · have al : (xs.all fun x => inW x 0 6) = true := by
            have e2 : ¬ (!xs.all fun x => inW x 0 6) = true := e2
            cases h : xs.all (fun x => inW x 0 6) with
            | true => rfl
            | false => rw [h] at e2; exact absurd rfl e2
          have ex := map_unI (List.all_eq_true.mp al)
          rw [homeV, al, Bool.true_and] at q
          obtain ⟨ws, ews⟩ : ∃ ws, ws = xs.map unI := ⟨_, rfl⟩
          rw [← ews] at q ex
          subst ex
          have lw : (ws.map V.int).length = ws.length := List.length_map _
          refine ⟨_, rfl, a, _, rfl, .inr (.inl (.inl ha2)), _, _, rfl, ⟨by decide, by decide, by omega, by omega⟩, fun D nD => ?_⟩
          have sD := fun o => same_upd (o := o) nD
          have en : (((ws.map V.int).length : Int) - 1).toNat = ws.length - 1 := by rw [lw]; omega
          rw [en]
          refine lc_range (lo := 1) (n := ws.length - 1) (fun i Hx => ∃ ks, Hx = upd H2 D (.lst ks) ∧ ks.length ≤ i ∧ (ks = [] ↔ ∀ (j : Nat) (x y : Int), j < i → ws[j]? = some x → ws[j + 1]? = some y → x < y)) ⟨[], rfl, Nat.le_refl _, ⟨fun _ j x y hj => absurd hj (Nat.not_lt_zero _), fun _ => rfl⟩⟩ ?_ ?_
          · rintro i Hx hi ⟨ks, rfl, lk, hk⟩
            have h1 : i < ws.length := by omega
            have h2 : i + 1 < ws.length := by omega
            have hay := sD (.lst ks) _ _ ha2
            refine ⟨rfl, _, rfl, _, rfl, _, _, rfl, rfl, a, _, _, .int ws[i], rfl, rfl, .inl (.inl hay), at_of (j := i) (by omega) (by rw [List.getElem?_map, List.getElem?_eq_getElem h1]; rfl), _, rfl, _, rfl, a, _, _, .int ws[i + 1], rfl, rfl, .inl (.inl hay), at_of (j := i + 1) (by omega) (by rw [List.getElem?_map, List.getElem?_eq_getElem h2]; rfl), _, _, rfl, rfl, _, rfl, ite2 (fun e3 => ?_) (fun e3 => ?_)⟩
            · have e3 := of_decide_eq_true e3
              refine ⟨_, rfl, _, upd_same, small1000 (by omega), ks ++ [.int (1 + (i : Int))], by rw [upd_upd'], by rw [List.length_append]; exact Nat.succ_le_succ lk, ⟨fun z => by simp at z, fun z => ?_⟩⟩
              have := z i _ _ (Nat.lt_succ_self i) (List.getElem?_eq_getElem h1) (List.getElem?_eq_getElem h2)
              omega
            · have e3 : ¬ ws[i] ≥ ws[i + 1] := fun z => e3 (decide_eq_true z)
              refine ⟨ks, rfl, by omega, hk.trans ⟨fun z j x y hj ex ey => ?_, fun z j x y hj => z j x y (by omega)⟩⟩
              by_cases c : j = i
              · subst c
                rw [List.getElem?_eq_getElem h1] at ex
                rw [List.getElem?_eq_getElem h2] at ey
                cases ex
                cases ey
                omega
              · exact z j x y (by omega) ex ey
          · rintro Hx ⟨ks, rfl, lk, hk⟩
            refine ⟨Nat.zero_le _, fun F nF => ?_⟩
            have sF := same_upd (o := .lst []) nF
            refine ⟨D, F, ks, rfl, rfl, .inl (.inl (sF _ _ upd_same)), .inl (.inl upd_same), ?_⟩
            have := q _ ((s2.trans (sD (.lst ks))).trans sF)
            have er : risB ws = ks.isEmpty := by
              rw [Bool.eq_iff_iff, ris_iff, List.isEmpty_iff, hk]
              exact ⟨fun z j x y _ => z j x y, fun z j x y ex ey => z j x y (by have := (List.getElem?_eq_some_iff.mp ey).1; omega) ex ey⟩
            rw [er] at this
            exact this
def spWPage : Sp := fun vs H Q _ => ∃ v, vs = [v] ∧ Pgd H v ∧ ∀ H', Same H H' → Q (.bl (pageB H v)) H'
theorem ok_wpage (T : Tx K mg w) : FnOk P w K mg base CX0 3 T.f_w_is_page T.d_w_is_page ["_law_thing"] (spWPage) := by
  have G_w_is_number : FnOk P w K mg base CX0 1 T.f_w_is_number T.d_w_is_number ["_law_thing", "_law_low", "_law_most"] (spWithin) := ok_wnum T
  have G_w_is_name : FnOk P w K mg base CX0 1 T.f_w_is_name T.d_w_is_name ["_law_thing"] (spWName) := ok_wname T
  have G_w_is_home : FnOk P w K mg base CX0 2 T.f_w_is_home T.d_w_is_home ["_law_thing"] (spWHome) := ok_wishome T
  refine T.F_w_is_page.ok S_w_is_page (fun vs H Q E h => ?_) (fun cdv A outer s H vs Q E hr h => ?_)
  · obtain ⟨v, rfl, _⟩ := h
    rfl
  · obtain ⟨v, rfl, ⟨ht, hd⟩, q⟩ := h
    refine ⟨_, (pss_cons (ps_set (i := 1) S_w_is_page.nd rfl (.inl rfl) (pe_disp (pps_cons pe_str pe_str (pps_cons pe_str pe_str (pps_cons pe_str pe_str (pps_cons pe_str pe_str (pps_cons pe_str pe_str (pps_cons pe_str pe_str (pps_cons pe_str pe_str (pps_cons pe_str pe_str pps_nil)))))))) (by rfl) (by rfl) (fun z => by cases z) (by decide)))
      (pss_cons (ps_if (PW.pt (pw_or (pt_not (pt_val (pe_callB call_isi (by rfl) T.m_isinstance (by decide +kernel) (pa_cons (pv 0) (pa_cons (pe_bltn (v := .ty "tuple") (by rfl) T.m_tuple (by decide +kernel) rfl) pa_nil))))) (pw_or (pt_cmpR op_lt (pe_callB call_len_seq (by rfl) T.m_len PySem.boot_len (pa_cons (pv 0) pa_nil)) pe_int (nomark _)) (pw_or (pt_not (pt_val (pe_callB call_isi (by rfl) T.m_isinstance (by decide +kernel) (pa_cons (pe_ix ix_tup (pv 0) pe_int (fun _ _ => rfl)) (pa_cons (pe_bltn (v := .ty "str") (by rfl) T.m_str (by decide +kernel) rfl) pa_nil))))) (pw_or1 (pt_cmp (pc_dnotin (hu_of hr) (pe_ix ix_tup (pv 0) pe_int (fun _ _ => rfl)) (pv 1)))))))) (pss_one (ps_ret pe_bl)) pss_nil)
      (pss_cons (ps_set (i := 2) S_w_is_page.nd rfl (.inl rfl) (pe_dget (hu_of hr) (pv 1) (pe_ix ix_tup (pv 0) pe_int (fun _ _ => rfl)) (fun _ _ => rfl)))
      (pss_cons (ps_if (PW.pt (pw_or (pt_not (pt_val (pe_call G_w_is_number (hr.mono (by decide)) (by rfl) T.g_w_is_number T.F_w_is_number.kp T.b_w_is_number .nil pass0 (pa_cons (pe_ix ix_tup (pv 0) pe_int (fun _ _ => rfl)) (pa_cons pe_int (pa_cons pe_int pa_nil)))))) (pw_or (pt_not (pt_val (pe_call G_w_is_name (hr.mono (by decide)) (by rfl) T.g_w_is_name T.F_w_is_name.kp T.b_w_is_name .nil pass0 (pa_cons (pe_ix ix_tup (pv 0) pe_int (fun _ _ => rfl)) pa_nil)))) (pw_or1 (pt_cmpR op_ne (pe_callB call_len_seq (by rfl) T.m_len PySem.boot_len (pa_cons (pv 0) pa_nil)) (pe_op op_add pe_int (pe_callB call_len_str (by rfl) T.m_len PySem.boot_len (pa_cons (pv 2) pa_nil))) (nomark _)))))) (pss_one (ps_ret pe_bl)) pss_nil)
      (pss_cons (ps_for PassesOwn.never rfl (My.pi_zipS (by rfl) T.m_zip (pa_cons (pv 2) (pa_cons (pe_slice sl_tupA (pv 0) (po_some pe_int) po_none) pa_nil))) (pg_tup rfl (pgs_cons (pg_name (i := 3) S_w_is_page.nd rfl (.inl rfl)) (pgs_cons (pg_name (i := 4) S_w_is_page.nd rfl (.inl rfl)) pgs_nil)))
      (pss_cons (ps_if (PW.pt (pw_or (PW.pt (pw_and (pt_cmpR op_eq (pv 3) pe_str (nomark _)) (pw_and1 (pt_not (pt_val (pe_call G_w_is_home hr (by rfl) T.g_w_is_home T.F_w_is_home.kp T.b_w_is_home .nil pass0 (pa_cons (pv 4) pa_nil))))))) (pw_or1 (PW.pt (pw_and (pt_cmpR op_eq (pv 3) pe_str (nomark _)) (pw_and1 (pt_not (pt_val (pe_call G_w_is_number (hr.mono (by decide)) (by rfl) T.g_w_is_number T.F_w_is_number.kp T.b_w_is_number .nil pass0 (pa_cons (pv 4) (pa_cons pe_int (pa_cons pe_int pa_nil)))))))))))) (pss_one (ps_ret pe_bl)) pss_nil)
      (pss_one (ps_if (PW.pt (pw_and (pt_cmpR op_eq (pv 3) pe_str (nomark _)) (pw_and1 (PW.pt (pw_or (pt_not (pt_val (pe_call G_w_is_name (hr.mono (by decide)) (by rfl) T.g_w_is_name T.F_w_is_name.kp T.b_w_is_name .nil pass0 (pa_cons (pv 4) pa_nil)))) (pw_or1 (pt_cmpR op_eq (pv 4) (pe_ix ix_tup (pv 0) pe_int (fun _ _ => rfl)) (nomark _)))))))) (pss_one (ps_ret pe_bl)) pss_nil))))
      (pss_one (ps_ret pe_bl))))))), ?_⟩
    intro D nD
    refine ⟨upd_same, fd, rfl, by decide, ?_⟩
    rw [upd_upd', show mergeK [] fd = fd from rfl]
    have s0 : Same H (upd H D (.dK fd)) := same_upd nD
    have hD : upd H D (.dK fd) D = some (.dK fd) := upd_same
    generalize upd H D (.dK fd) = H0 at s0 hD ⊢
    have ht0 : Typed H0 v := ht.same s0
    have no : pageB H v = false → Q (.bl false) H0 := fun z => by
      have := q H0 s0
      rw [z] at this
      exact this
    obtain ⟨t1, y1, k1⟩ := ty_kind (K := K) (n := "tuple") (.inr (.inr (.inr rfl))) ht0
    refine ⟨v, rfl, v, _, t1, _, _, rfl, .ty _, y1, k1, _, rfl, ite2 (fun e => ?_) (fun e => ?_)⟩
    · refine iteT ?_
      refine no (not_tupF ?_).2
      intro z
      obtain ⟨a, xs, rfl, ha⟩ := kind_tup ht z
      rw [show kindB H0 "tuple" (.ref a) = true by simp [kindB, s0 _ _ ha]] at e
      exact Bool.noConfusion e
    · obtain ⟨a, xs, rfl, ha0⟩ := kind_tup ht0 (by simpa using e)
      have ha : H a = some (.tup xs) := by
        rcases ht with ⟨ys, z⟩ | ⟨ys, z⟩ | ⟨ys, z⟩
        · have := s0 _ _ z; rw [ha0] at this; cases this; exact z
        · have := s0 _ _ z; rw [ha0] at this; cases this
        · have := s0 _ _ z; rw [ha0] at this; cases this
      obtain ⟨hl, hx⟩ := hd a xs rfl ha
      refine ⟨_, rfl, a, _, rfl, .inr (.inl (.inl ha0)), _, _, rfl, rfl, _, rfl, ite2 (fun e2 => ?_) (fun e2 => ?_)⟩
      · have e2 : (xs.length : Int) < 3 := of_decide_eq_true e2
        exact iteT (no (page_two ha (by omega)))
      · have e2 : ¬ (xs.length : Int) < 3 := fun z => e2 (decide_eq_true z)
        match xs, e2 with
        | [], z => exact absurd (by decide) z
        | [_], z => exact absurd (show ((1 : Nat) : Int) < 3 by decide) z
        | [_, _], z => exact absurd (show ((2 : Nat) : Int) < 3 by decide) z
        | x :: d :: f :: r, _ =>
        have dx := hx x List.mem_cons_self
        have dd := hx d (List.mem_cons_of_mem _ List.mem_cons_self)
        have df := hx f (List.mem_cons_of_mem _ (List.mem_cons_of_mem _ List.mem_cons_self))
        obtain ⟨t2, y2, k2⟩ := ty_kind (K := K) (n := "str") (.inr (.inr (.inl rfl))) (dx.1.1.same s0)
        refine ⟨_, rfl, a, _, 0, x, rfl, rfl, .inl (.inl ha0), at_of (j := 0) rfl rfl, x, _, t2, _, _, rfl, .ty _, y2, k2, _, rfl, ite2 (fun e3 => ?_) (fun e3 => ?_)⟩
        · refine iteT (no (page_kind ha fun k fs z _ => ?_))
          subst z
          exact Bool.noConfusion (show (!true) = true from e3)
        · obtain ⟨k, rfl⟩ := kind_str (dx.1.1.same s0) (by simpa using e3)
          refine ⟨_, rfl, a, _, 0, _, rfl, rfl, .inl (.inl ha0), at_of (j := 0) rfl rfl, _, rfl, D, _, rfl, DGet.k (k := .inr k) hD, ?_⟩
          refine ⟨_, rfl, ite2 (fun e4 => ?_) (fun e4 => ?_)⟩
          · refine no (page_kind ha fun k' fs z h => ?_)
            cases z
            obtain ⟨s, hs, _⟩ := fd_some h
            rw [hs] at e4
            cases e4
          · obtain ⟨fs, hk⟩ : ∃ fs, formsOf k = some fs := by
              cases h : formsOf k with
              | none => rw [fd_none h] at e4; exact absurd rfl e4
              | some fs => exact ⟨fs, rfl⟩
            obtain ⟨s, hs, suf⟩ := fd_some hk
            have pl := page_look ha hk suf
            obtain ⟨⟨sl, sl2⟩, sg⟩ := suf_signs suf
            rw [pl] at q no
            refine ⟨_, rfl, _, rfl, a, _, 0, _, rfl, rfl, .inl (.inl ha0), at_of (j := 0) rfl rfl, D, .str s, rfl, hs ▸ DGet.k (k := .inr k) hD, ?_⟩
            refine ⟨_, rfl, a, _, 1, d, rfl, rfl, .inl (.inl ha0), at_of (j := 1) rfl rfl, d, 0, 9999, rfl, dd.1.1.same s0, _, rfl, ite2 (fun e5 => ?_) (fun e5 => ?_)⟩
            · have e5 : inW d 0 9999 = false := by simpa using e5
              exact iteT (no (by rw [e5, Bool.false_and]))
            · have e5 : inW d 0 9999 = true := by simpa using e5
              rw [e5, Bool.true_and] at q
              refine ⟨_, rfl, a, _, 2, f, rfl, rfl, .inl (.inl ha0), at_of (j := 2) rfl rfl, f, rfl, df.1.1.same s0, df.2, fun H1 s1 => ⟨_, rfl, ite2 (fun e6 => ?_) (fun e6 => ?_)⟩⟩
              · have e6 : nameB f = false := by simpa using e6
                have := q H1 (s0.trans s1)
                rw [e6, Bool.false_and] at this
                exact iteT this
              · have e6 : nameB f = true := by simpa using e6
                rw [e6, Bool.true_and] at q
                have hD1 := s1 _ _ hD
                have ha1 := s1 _ _ ha0
                have dg : ∀ {H'}, Same H1 H' → DGet H' D (.str k) (some (.str s)) := fun h => hs ▸ DGet.k (k := .inr k) (h _ _ hD1)
                refine ⟨_, rfl, a, _, rfl, .inr (.inl (.inl ha1)), _, rfl, s, rfl, sz (by omega), _, _, rfl, rfl, rfl, _, rfl, ite2 (fun e7 => ?_) (fun e7 => ?_)⟩
                · have e7 : ¬ r.length = s.cps.toList.length := fun z => by
                    have z2 : ((.str k :: d :: f :: r : List V).length : Int) = 3 + (s.length : Int) := by
                      simp only [List.length_cons]
                      omega
                    rw [z2] at e7
                    simp at e7
                  have := q H1 (s0.trans s1)
                  rw [decide_eq_false e7, Bool.false_and] at this
                  exact this
                · have e7 : r.length = s.cps.toList.length := by
                    have z2 : V.int ((.str k :: d :: f :: r : List V).length : Int) = V.int (3 + (s.length : Int)) := by simpa using e7
                    have z2 := V.int.inj z2
                    simp only [List.length_cons] at z2
                    omega
                  rw [decide_eq_true e7, Bool.true_and] at q
                  refine ⟨_, rfl, _, rfl, _, rfl, np_in (sl_in ha1 fun c H2 s2 hc => ⟨s, c, r, rfl, .inl (.inl (by rw [cut3] at hc; exact hc)), ?_⟩)⟩
                  rw [cut3] at hc
                  refine for_it (walk_zipS (K := K) (x := s) (b := c) (ys := r) rfl) (fun i σ H' => Same H2 H' ∧ (∃ y z, σ = [some (.ref a), some (.ref D), some (.str s), y, z]) ∧ ∀ (j m : Nat) (x : V), j < i → s.cps.toList[j]? = some m → r[j]? = some x → okS H f m x = true) ⟨Same.refl _, ⟨_, _, rfl⟩, fun j m x h => by omega⟩ ?_ ?_ ?_
                  · rintro i σ H' _ ⟨s3, _⟩
                    exact .inl (.inl (s3 _ _ hc))
                  · rintro i x σ H3 H4 hi ⟨s3, ⟨y, z, rfl⟩, hp⟩ ⟨Tn, xs1, xr, rfl, hn, rfl, h1, h2⟩
                    obtain ⟨m, h0, rfl⟩ := sign_at h1
                    clear h1
                    have h1 := h0
                    have h2 : r[i]? = some xr := h2
                    have s4 := s3.trans (same_upd (o := .tup [V.str ⟨#[m]⟩, xr]) hn)
                    refine ⟨Tn, _, rfl, .inl (.inl upd_same), rfl, _, _, rfl, _, _, rfl, rfl, ?_⟩
                    generalize upd H3 Tn (.tup [V.str ⟨#[m]⟩, xr]) = H5 at s4 ⊢
                    have mr : xr ∈ V.str k :: d :: f :: r := List.mem_cons_of_mem _ (List.mem_cons_of_mem _ (List.mem_cons_of_mem _ (List.mem_of_getElem? h2)))
                    have S5 := s0.trans (s1.trans (s2.trans s4))
                    have dr := hx xr mr
                    have bad : ∀ {H'}, Same H5 H' → okS H f m xr = false → Q (.bl false) H' := fun sx z => by
                      have := q _ (S5.trans sx)
                      rw [look_not h1 h2 z] at this
                      exact this
                    have good : okS H f m xr = true → ∀ (j m' : Nat) (x : V), j < i + 1 → s.cps.toList[j]? = some m' → r[j]? = some x → okS H f m' x = true := fun z j m' x hj e1 e2 => by
                      by_cases zz : j = i
                      · subst zz
                        rw [h1] at e1
                        rw [h2] at e2
                        cases e1
                        cases e2
                        exact z
                      · exact hp j m' x (by omega) e1 e2
                    rcases sg m (List.mem_of_getElem? h1) with rfl | rfl | rfl
                    · have ok : okS H f 104 xr = homeB H xr := rfl
                      refine ⟨_, rfl, rfl, _, rfl, ite2 (fun _ => ?_) (fun z => absurd (by decide) z)⟩
                      refine ⟨_, rfl, xr, rfl, dr.1.of (fun b o e _ => S5 b o e), fun H6 s6 => ⟨_, rfl, ?_⟩⟩
                      rw [homeB_gk (Ts := []) dr.1.1 (.of_same S5 fun _ h => by cases h)]
                      refine ite2 (fun e => ?_) (fun e => ?_)
                      · exact iteT (bad s6 (by rw [ok]; simpa using e))
                      · refine ⟨_, rfl, rfl, _, rfl, ite2 (fun z => absurd z (by decide)) (fun _ => ?_)⟩
                        refine ⟨_, rfl, rfl, _, rfl, ite2 (fun z => absurd z (by decide)) (fun _ => ?_)⟩
                        exact ⟨s4.trans s6, ⟨_, _, rfl⟩, good (by rw [ok]; simpa using e)⟩
                    · have ok : okS H f 109 xr = inW xr 1 60 := rfl
                      refine ⟨_, rfl, rfl, _, rfl, ite2 (fun z => absurd z (by decide)) (fun _ => ?_)⟩
                      refine ⟨_, rfl, rfl, _, rfl, ite2 (fun _ => ?_) (fun z => absurd (by decide) z)⟩
                      refine ⟨_, rfl, xr, 1, 60, rfl, dr.1.1.same S5, _, rfl, ite2 (fun e => ?_) (fun e => ?_)⟩
                      · exact bad (Same.refl _) (by rw [ok]; simpa using e)
                      · refine ⟨_, rfl, rfl, _, rfl, ite2 (fun z => absurd z (by decide)) (fun _ => ?_)⟩
                        exact ⟨s4, ⟨_, _, rfl⟩, good (by rw [ok]; simpa using e)⟩
                    · have ok : okS H f 110 xr = (nameB xr && !decide (xr = f)) := rfl
                      refine ⟨_, rfl, rfl, _, rfl, ite2 (fun z => absurd z (by decide)) (fun _ => ?_)⟩
                      refine ⟨_, rfl, rfl, _, rfl, ite2 (fun z => absurd z (by decide)) (fun _ => ?_)⟩
                      refine ⟨_, rfl, rfl, _, rfl, ite2 (fun _ => ?_) (fun z => absurd (by decide) z)⟩
                      refine ⟨_, rfl, xr, rfl, dr.1.1.same S5, dr.2, fun H6 s6 => ⟨_, rfl, ite2 (fun e => ?_) (fun e => ?_)⟩⟩
                      · have e : nameB xr = false := by simpa using e
                        exact iteT (bad s6 (by rw [ok, e, Bool.false_and]))
                      · have e : nameB xr = true := by simpa using e
                        have ha6 := s6 _ _ (s4 _ _ (s2 _ _ ha1))
                        have sc : scal xr f = true := by
                          obtain ⟨z1, rfl⟩ := name_str e
                          obtain ⟨z2, rfl⟩ := name_str e6
                          rfl
                        refine ⟨_, rfl, _, rfl, a, _, 2, f, rfl, rfl, .inl (.inl ha6), at_of (j := 2) rfl rfl, sc, _, rfl, ite2 (fun e8 => ?_) (fun e8 => ?_)⟩
                        · have e8 : decide (xr = f) = true := e8
                          exact bad s6 (by rw [ok, e, e8]; rfl)
                        · have e8 : decide (xr = f) = false := by simpa using e8
                          exact ⟨s4.trans s6, ⟨_, _, rfl⟩, good (by rw [ok, e, e8]; rfl)⟩
                  · rintro σ H' ⟨s3, ⟨y, z, rfl⟩, hp⟩
                    have := q H' (s0.trans (s1.trans (s2.trans s3)))
                    rw [look_get (H := H) (f := f) fun j m x e1 e2 => hp j m x (by
                      have z1 := (List.getElem?_eq_some_iff.mp e1).1
                      have z2 := (List.getElem?_eq_some_iff.mp e2).1
                      have : s.cps.size = s.cps.toList.length := by simp
                      omega) e1 e2] at this
                    exact this
def spWIsBook : Sp := fun vs H Q _ => ∃ v b, vs = [v] ∧ Bkd H v ∧ BookIs H v b ∧ ∀ H', Same H H' → Q (.bl b) H'
theorem ok_wisbook (T : Tx K mg w) : FnOk P w K mg base CX0 4 T.f_w_is_book T.d_w_is_book ["_law_thing"] (spWIsBook) := by
  have G_w_is_page : FnOk P w K mg base CX0 3 T.f_w_is_page T.d_w_is_page ["_law_thing"] (spWPage) := ok_wpage T
  have G_w_rank : FnOk P w K mg base CX0 1 T.f_w_rank T.d_w_rank ["_law_page_here"] (spKey rank PgK) := ok_wrank T
  refine T.F_w_is_book.ok S_w_is_book (fun vs H Q E h => ?_) (fun cdv A outer s H vs Q E hr h => ?_)
  · obtain ⟨v, b, rfl, _⟩ := h
    rfl
  · obtain ⟨v, b, rfl, bd, bi, q⟩ := h
    obtain ⟨t1, y1, k1⟩ := ty_kind (K := K) (n := "tuple") (.inr (.inr (.inr rfl))) bd.1
    refine ⟨_, (pss_cons (ps_if (PW.pt (pw_or (pt_not (pt_val (pe_callB call_isi (by rfl) T.m_isinstance (by decide +kernel) (pa_cons (pv 0) (pa_cons (pe_bltn (v := .ty "tuple") (by rfl) T.m_tuple (by decide +kernel) rfl) pa_nil))))) (pw_or1 (pt_cmpR (op_neE (hu_of hr)) (pe_lc (own := [("_law_one", 1)]) (g := gName 1) (by rfl) S_w_is_book.nd (pi_tup (pv 0)) (blkOk_by (own := [("_law_one", 1)]) (N := N_w_is_book) (sc := defScope s_w_is_book) (by decide +kernel)) (fun _ _ _ _ _ => (pg_name (i := 1) S_w_is_book.nd rfl (.inl rfl))) (fun _ _ _ _ _ => (pts_one (pt_not (pt_val (pe_call G_w_is_page hr (by rfl) T.g_w_is_page T.F_w_is_page.kp T.b_w_is_page .nil pass0 (pa_cons (pv 1) pa_nil)))))) (fun _ _ _ _ _ => (pv 1))) (pe_lst pa_nil) (nomark _))))) (pss_one (ps_ret pe_bl)) pss_nil)
      (pss_one (ps_ret (pe_cmpR (op_eqE (hu_of hr)) (pe_lc (own := [("_law_k", 2)]) (g := gName 2) (by rfl) S_w_is_book.nd (pi_range2 (by rfl) T.m_range (pa_cons pe_int (pa_cons (pe_callB call_len_seq (by rfl) T.m_len PySem.boot_len (pa_cons (pv 0) pa_nil)) pa_nil))) (blkOk_by (own := [("_law_k", 2)]) (N := N_w_is_book) (sc := defScope s_w_is_book) (by decide +kernel)) (fun _ _ _ _ _ => (pg_name (i := 2) S_w_is_book.nd rfl (.inl rfl))) (fun _ _ _ _ _ => (pts_one (pt_cmpR (op_geN hr.units) (pe_call G_w_rank (hr.mono (by decide)) (by rfl) T.g_w_rank T.F_w_rank.kp T.b_w_rank .nil pass0 (pa_cons (pe_ix (r := rIxT K) ix_tup (pv 0) (pe_op op_sub (pv 2) pe_int) (fun _ _ => rfl)) pa_nil)) (pe_call G_w_rank (hr.mono (by decide)) (by rfl) T.g_w_rank T.F_w_rank.kp T.b_w_rank .nil pass0 (pa_cons (pe_ix (r := rIxT K) ix_tup (pv 0) (pv 2) (fun _ _ => rfl)) pa_nil)) (nomark _)))) (fun _ _ _ _ _ => (pv 2))) (pe_lst pa_nil) (nomark _))))), ?_⟩
    refine ⟨v, rfl, v, _, t1, _, _, rfl, .ty _, y1, k1, _, rfl, ite2 (fun e => ?_) (fun e => ?_)⟩
    · have e : kindB H "tuple" v = false := by simpa using e
      refine iteT ?_
      cases bi with
      | other _ => exact q H (.refl _)
      | bad ha _ _ => simp [kindB, ha] at e
      | good ha _ _ _ => simp [kindB, ha] at e
    · obtain ⟨a, xs, rfl, ha⟩ := kind_tup bd.1 (by simpa using e)
      obtain ⟨hl, hx⟩ := bd.2 a xs rfl ha
      refine ⟨_, rfl, a, rfl, ⟨xs, .inl (.inl ha)⟩, fun D nD => ?_⟩
      have sD := fun o => same_upd (o := o) nD
      refine lc_it (walk_tup (xs := xs)) (fun i Hx => Same H Hx ∧ Hx D = some (.lst ((xs.take i).filter fun x => !pageB H x))) ⟨sD _, upd_same⟩ (fun i Hx _ h => .inl (.inl (h.1 _ _ ha))) ?_ ?_
      · rintro i x Hx Hy hi ⟨sx, hD⟩ ⟨rfl, hxi⟩
        have li := (List.getElem?_eq_some_iff.mp hxi).1
        have px := hx x (List.mem_of_getElem? hxi)
        refine ⟨rfl, _, rfl, x, rfl, px.of (fun b o e _ => sx b o e), fun H1 s1 => ⟨_, rfl, ?_⟩⟩
        rw [pageB_kn px (fun b o e _ => sx b o e)]
        have hD1 := s1 _ _ hD
        refine ite2 (fun e2 => ?_) (fun e2 => ?_)
        · have e2 : (!pageB H x) = true := e2
          refine ⟨_, rfl, _, hD1, small1000 ?_, same_fresh nD (sx.trans s1), ?_⟩
          · refine Nat.le_trans (List.length_filter_le _ _) ?_
            rw [List.length_take]
            omega
          · rw [upd_same, take_filter _ hxi, if_pos e2]
        · have e2 : ¬ (!pageB H x) = true := e2
          refine ⟨sx.trans s1, ?_⟩
          rw [take_filter _ hxi, if_neg e2, List.append_nil]
          exact hD1
      · rintro Hx ⟨sx, hD⟩
        rw [List.take_of_length_le (Nat.le_refl _)] at hD
        refine ⟨Nat.zero_le _, fun F nF => ?_⟩
        have sF := same_upd (o := .lst []) nF
        have s2 := sx.trans sF
        refine ⟨D, F, _, rfl, rfl, .inl (.inl (sF _ _ hD)), .inl (.inl upd_same), _, rfl, ?_⟩
        dsimp only
        rw [filter_no]
        have ha2 := s2 _ _ ha
        generalize upd Hx F (.lst []) = H2 at s2 ha2 ⊢
        clear sF nF sD nD hD sx
        refine ite2 (fun e2 => ?_) (fun e2 => ?_)
        · have e2 : (xs.all (pageB H)) = false := by simpa using e2
          cases bi with
          | other k => simp [kindB, ha] at k
          | bad _ _ _ => exact q _ s2
          | good ha' _ _ al =>
            rw [ha] at ha'
            cases ha'
            rw [List.all_eq_true.mpr al] at e2
            cases e2
        · have al : xs.all (pageB H) = true := by
            have e2 : ¬ (!xs.all (pageB H)) = true := e2
            cases h : xs.all (pageB H) with
            | true => rfl
            | false => rw [h] at e2; exact absurd rfl e2
          cases bi with
          | other k => simp [kindB, ha] at k
          | bad ha' hm ne =>
            rw [ha] at ha'
            cases ha'
            rw [List.all_eq_true.mp al _ hm] at ne
            cases ne
          | @good _ _ ks ha' nk pk _ =>
            rw [ha] at ha'
            cases ha'
            have lk := nk.length
            refine ⟨_, rfl, a, _, rfl, .inr (.inl (.inl ha2)), _, _, rfl, ⟨by decide, by decide, by omega, by omega⟩, fun D nD => ?_⟩
            have sD := fun o => same_upd (o := o) nD
            have en : ((xs.length : Int) - 1).toNat = xs.length - 1 := by omega
            rw [en]
            refine lc_range (lo := 1) (n := xs.length - 1) (fun i Hx => ∃ ms, Same H2 Hx ∧ Hx D = some (.lst ms) ∧ ms.length ≤ i ∧ (ms = [] ↔ ∀ (j : Nat) (x y : NestedKey), j < i → ks[j]? = some x → ks[j + 1]? = some y → My.ahead x y = true)) ⟨[], sD _, upd_same, Nat.le_refl _, ⟨fun _ j x y hj => absurd hj (Nat.not_lt_zero _), fun _ => rfl⟩⟩ ?_ ?_
            · rintro i Hx hi ⟨ms, sx, hD, lm, hk⟩
              have h1 : i < xs.length := by omega
              have h2 : i + 1 < xs.length := by omega
              obtain ⟨k1, e1, n1⟩ := nk.get (List.getElem?_eq_getElem h1)
              obtain ⟨k2, e2, n2⟩ := nk.get (List.getElem?_eq_getElem h2)
              have p1 := pk k1 (List.mem_of_getElem? e1)
              have p2 := pk k2 (List.mem_of_getElem? e2)
              have sH := s2.trans sx
              have hay := sx _ _ ha2
              refine ⟨rfl, _, rfl, _, rfl, _, _, rfl, rfl, a, _, _, xs[i], rfl, rfl, .inl (.inl hay), at_of (j := i) (by omega) (List.getElem?_eq_getElem h1), xs[i], k1, rfl, n1.at (.same sH), p1, fun v1 H3 s3 m1 => ?_⟩
              refine ⟨_, rfl, _, rfl, a, _, _, xs[i + 1], rfl, rfl, .inl (.inl (s3 _ _ hay)), at_of (j := i + 1) (by omega) (List.getElem?_eq_getElem h2), xs[i + 1], k2, rfl, n2.at (.same (sH.trans s3)), p2, fun v2 H4 s4 m2 => ?_⟩
              have sx4 := sx.trans (s3.trans s4)
              have hD4 := s4 _ _ (s3 _ _ hD)
              refine ⟨_, _, _, m1.at (.same s4), m2, rank_depth p1, (rank_place p1 p2).trans (ahead_lt p1 p2), _, rfl, ite2 (fun e3 => ?_) (fun e3 => ?_)⟩
              · have e3 : (!My.ahead k1 k2) = true := e3
                refine ⟨_, rfl, _, hD4, small1000 (by omega), ms ++ [.int (1 + (i : Int))], same_fresh nD sx4, upd_same, by rw [List.length_append]; exact Nat.succ_le_succ lm, ⟨fun z => by simp at z, fun z => ?_⟩⟩
                have := z i _ _ (Nat.lt_succ_self i) e1 e2
                rw [this] at e3
                cases e3
              · have e3 : My.ahead k1 k2 = true := by
                  cases h : My.ahead k1 k2 with
                  | true => rfl
                  | false => rw [h] at e3; exact absurd rfl e3
                refine ⟨ms, sx4, hD4, by omega, hk.trans ⟨fun z j x y hj ex ey => ?_, fun z j x y hj => z j x y (by omega)⟩⟩
                by_cases c : j = i
                · subst c
                  rw [e1] at ex
                  rw [e2] at ey
                  cases ex
                  cases ey
                  exact e3
                · exact z j x y (by omega) ex ey
            · rintro Hx ⟨ms, sx, hD, lm, hk⟩
              refine ⟨Nat.zero_le _, fun F nF => ?_⟩
              have sF := same_upd (o := .lst []) nF
              refine ⟨D, F, ms, rfl, rfl, .inl (.inl (sF _ _ hD)), .inl (.inl upd_same), ?_⟩
              have := q _ ((s2.trans sx).trans sF)
              have er : ordB ks = ms.isEmpty := by
                rw [Bool.eq_iff_iff, ord_iff, List.isEmpty_iff, hk]
                exact ⟨fun z j x y _ => z j x y, fun z j x y ex ey => z j x y (by have := (List.getElem?_eq_some_iff.mp ey).1; omega) ex ey⟩
              rw [er] at this
              exact this
end
end L05

set_option Elab.async false
set_option linter.all false
set_option maxRecDepth 100000
set_option maxHeartbeats 2000000
namespace L05
open PySem PySem.Spec PyProof.Rows L2 My
section
variable {P : Program} {w : World} {K : PySem.W.Frag} {mg : Str → Option Value} {base : Heap}
/-- a part of a page, or an odd thing in its place -/
inductive Fl (H : Hp) : V → Prop
  | non : Fl H .non
  | bl (b : Bool) : Fl H (.bl b)
  | int (i : Int) : Fl H (.int i)
  | str {z : Str} : Plain z → Fl H (.str z)
  | home {b : Addr} {ws : List Int} : H b = some (.tup (ws.map V.int)) → ws.length ≤ 1000 → Fl H (.ref b)
theorem Fl.at {H H' : Hp} {x : V} (h : Fl H x) (t : Tups H H') : Fl H' x := by
  cases h with
  | non => exact .non
  | bl b => exact .bl b
  | int i => exact .int i
  | str p => exact .str p
  | home e l => exact .home (t _ _ e) l
theorem Fl.deep {H : Hp} {x : V} (h : Fl H x) : Deep H x ∧ PlainV x := by
  cases h with
  | non => exact ⟨deep_flat trivial (fun a z => by cases z), trivial⟩
  | bl b => exact ⟨deep_flat trivial (fun a z => by cases z), trivial⟩
  | int i => exact ⟨deep_flat trivial (fun a z => by cases z), trivial⟩
  | str p => exact ⟨deep_flat trivial (fun a z => by cases z), p⟩
  | home e l => exact ⟨deep_tup e (by rw [List.length_map]; exact l) ty_ints, trivial⟩
theorem pgd_tup {H : Hp} {r : Addr} {xs : List V} (e : H r = some (.tup xs)) (l : xs.length ≤ 100) (h : ∀ x ∈ xs, Fl H x) : Pgd H (.ref r) := by
  refine ⟨.inl ⟨xs, e⟩, fun a ys z hy => ?_⟩
  cases z
  rw [e] at hy
  cases hy
  exact ⟨l, fun x hx => (h x hx).deep⟩
theorem pgd_flat {H : Hp} {v : V} (h : Typed H v) (n : ∀ a, v ≠ .ref a) : Pgd H v := ⟨h, fun a _ e => absurd e (n a)⟩
theorem pgd_lst {H : Hp} {r : Addr} {xs : List V} (e : H r = some (.lst xs)) : Pgd H (.ref r) := ⟨.inr (.inl ⟨xs, e⟩), fun a ys z hy => by
  cases z
  rw [e] at hy
  cases hy⟩
theorem bkd_tup {H : Hp} {r : Addr} {zs : List V} (e : H r = some (.tup zs)) (l : zs.length ≤ 900) (p : ∀ z ∈ zs, Pgd H z) : Bkd H (.ref r) := by
  refine ⟨.inl ⟨zs, e⟩, fun a ys z hy => ?_⟩
  cases z
  rw [e] at hy
  cases hy
  exact ⟨l, p⟩
theorem bkd_flat {H : Hp} {v : V} (h : Typed H v) (n : ∀ a, v ≠ .ref a) : Bkd H v := ⟨h, fun a _ e => absurd e (n a)⟩
theorem bkd_lst {H : Hp} {r : Addr} {xs : List V} (e : H r = some (.lst xs)) : Bkd H (.ref r) := ⟨.inr (.inl ⟨xs, e⟩), fun a ys z hy => by
  cases z
  rw [e] at hy
  cases hy⟩
theorem bkd_dic {H : Hp} {r : Addr} {xs : List (Key × V)} (e : H r = some (.dK xs)) : Bkd H (.ref r) := ⟨.inr (.inr ⟨xs, e⟩), fun a ys z hy => by
  cases z
  rw [e] at hy
  cases hy⟩
/-- a page's parts -/
def Pgx (H : Hp) (y : V) : Prop := ∃ pa xs, y = .ref pa ∧ H pa = some (.tup xs) ∧ xs.length ≤ 5 ∧ ∀ x ∈ xs, Fl H x
theorem Pgx.at {H H' : Hp} {y : V} (h : Pgx H y) (t : Tups H H') : Pgx H' y := let ⟨pa, xs, a, b, c, d⟩ := h; ⟨pa, xs, a, t _ _ b, c, fun x hx => (d x hx).at t⟩
theorem Pgx.pgd {H : Hp} {y : V} (h : Pgx H y) : Pgd H y := by
  obtain ⟨pa, xs, rfl, b, c, d⟩ := h
  exact pgd_tup b (by omega) d
theorem nk_nums {H : Hp} : ∀ {ws : List Int} {us : List V}, NkAll H us (ws.map .num) → us = ws.map V.int
  | [], _, .nil => rfl
  | w :: ws, _, .cons m1 m2 => by
    cases m1
    rw [nk_nums m2]
    rfl
def Gd (k : NestedKey) : Prop := (∃ z, k = .text z ∧ Plain z) ∨ (∃ i, k = .num i) ∨ ∃ ws : List Int, k = .tup (ws.map .num) ∧ ws.length ≤ 1000
theorem Gd.text {z : Str} (h : Plain z) : Gd (.text z) := .inl ⟨z, rfl, h⟩
theorem Gd.home {ws : List Int} (h : HomeW ws) : Gd (.tup (ws.map .num)) := .inr (.inr ⟨ws, rfl, Nat.le_trans h.1 (by decide)⟩)
theorem rest_gd {z : Str} {r : List NestedKey} (re : Rest z r) : r.length ≤ 3 ∧ ∀ k ∈ r, Gd k := by
  have two : ∀ {a b : NestedKey}, Gd a → Gd b → [a, b].length ≤ 3 ∧ ∀ k ∈ [a, b], Gd k := fun ha hb => ⟨by simp, fun k hk => by
    rcases List.mem_cons.mp hk with e | hk
    · rw [e]; exact ha
    · rw [List.mem_singleton.mp hk]; exact hb⟩
  cases re with
  | house a h => exact two (.text a) (.home h)
  | home a h => exact two (.text a) (.home h)
  | part a b h =>
    refine ⟨by simp, fun k hk => ?_⟩
    rcases List.mem_cons.mp hk with e | hk
    · rw [e]; exact .text a
    · exact (two (.text b) (.home h)).2 k hk
  | mourn a _ _ => exact two (.text a) (.inr (.inl ⟨_, rfl⟩))
  | join a b => exact two (.text a) (.text b)
  | ahead a b => exact two (.text a) (.text b)
  | card a b => exact two (.text a) (.text b)
  | visit a b => exact two (.text a) (.text b)
theorem gd_fl {H : Hp} {k : NestedKey} {x : V} (g : Gd k) (n : Nk H x k) : Fl H x := by
  rcases g with ⟨z, rfl, pz⟩ | ⟨i, rfl⟩ | ⟨ws, rfl, lw⟩
  · cases n; exact .str pz
  · cases n; exact .int i
  · cases n with
    | tup hb hu =>
      rw [nk_nums hu] at hb
      exact .home hb lw
theorem gd_all {H : Hp} : ∀ {ks : List NestedKey} {xs : List V}, NkAll H xs ks → (∀ k ∈ ks, Gd k) → ∀ x ∈ xs, Fl H x
  | [], _, .nil, _, x, hx => by cases hx
  | k :: ks, _, .cons n1 n2, g, x, hx => by
    rcases List.mem_cons.mp hx with e | hx
    · rw [e]; exact gd_fl (g k (.head _)) n1
    · exact gd_all n2 (fun k' hk' => g k' (.tail _ hk')) x hx
theorem pgx_of {H : Hp} {y : V} {k : NestedKey} (n : Nk H y k) (p : PgK k) : Pgx H y := by
  obtain ⟨z, d, r, rfl, re, _⟩ := p
  obtain ⟨l3, gr⟩ := rest_gd re
  cases n with
  | @tup pa xs _ ha hk =>
    refine ⟨pa, xs, rfl, ha, ?_, gd_all hk fun k hkm => ?_⟩
    · rw [hk.length, List.length_cons, List.length_cons]
      omega
    · rcases List.mem_cons.mp hkm with e | hkm
      · rw [e]; exact .text (plain_kind re)
      rcases List.mem_cons.mp hkm with e | hkm
      · exact .inr (.inl ⟨d, e⟩)
      · exact gr k hkm
theorem at_v {ys : List V} {u : Int} {j : Nat} (h : j < ys.length) (e : u = (j : Int)) : atI ys u = some ys[j] := by
  rw [e]
  exact atI_nat (List.getElem?_eq_getElem h)
def spBent : Sp := fun vs H Q _ => ∃ (t b c : Addr) (n : Nat) (ys : List V), vs = [.ref t, .ref b] ∧ TapC H t c n ∧ n < 10000 ∧ H b = some (.tup ys) ∧ ys.length ≤ 80 ∧ (∀ y ∈ ys, Pgx H y) ∧
  ∀ v H', Bkd H' v → TapC H' t c (n + 4) → Kp t H H' → Q v H'
theorem ok_bent (T : Tx K mg w) : FnOk P w K mg base CX0 2 T.f_w_bent T.d_w_bent ["_law_tap_here", "_law_book_here"] (spBent) := by
  have G_w_take : FnOk P w K mg base CX0 1 T.f_w_take T.d_w_take ["_law_tap_here", "_law_many"] (spTakeC) := ok_takeC T
  refine T.F_w_bent.ok S_w_bent (fun vs H Q E h => ?_) (fun cdv A outer s H vs Q E hr h => ?_)
  · obtain ⟨t, b, c, n, ys, rfl, _⟩ := h
    rfl
  · obtain ⟨t, b, c, n, ys, rfl, hT, hn, hb, ly, py, q⟩ := h
    have bt : b ≠ t := fun z => by
      obtain ⟨_, _, _, _, e, _⟩ := hT
      rw [z, e] at hb; cases hb
    have k1 : ∀ (us : List V) (lo hi : Option Int), (cutV us lo hi).length ≤ us.length := fun us lo hi => cut_len us lo hi
    refine ⟨_, (pss_cons (ps_set (i := 2) S_w_bent.nd rfl (.inl rfl) (pe_call G_w_take hr (by rfl) T.g_w_take T.F_w_take.kp T.b_w_take .nil pass0 (pa_cons (pv 0) (pa_cons pe_int pa_nil))))
      (pss_cons (ps_set (i := 3) S_w_bent.nd rfl (.inl rfl) (pe_callB call_len_seq (by rfl) T.m_len PySem.boot_len (pa_cons (pv 1) pa_nil)))
      (pss_cons (ps_if (pt_cmpR op_eq (pv 2) pe_int (nomark _)) (pss_one (ps_ret (pe_callTy call_list_of (by rfl) T.m_list (by decide +kernel) (pa_cons (pv 1) pa_nil)))) pss_nil)
      (pss_cons (ps_if (PW.pt (pw_and (pt_cmpR op_eq (pv 2) pe_int (nomark _)) (pw_and1 (pt_cmpR op_gt (pv 3) pe_int (nomark _))))) (pss_cons (ps_set (i := 4) S_w_bent.nd rfl (.inl rfl) (pe_call G_w_take hr (by rfl) T.g_w_take T.F_w_take.kp T.b_w_take .nil pass0 (pa_cons (pv 0) (pa_cons (pe_op op_sub (pv 3) pe_int) pa_nil))))
      (pss_one (ps_ret (pe_op op_catA (pe_op op_catA (pe_slice sl_tupA (pv 1) po_none (po_some (pv 4))) (pe_tup (pa_cons (pe_ix ix_tup (pv 1) (pe_op op_add (pv 4) pe_int) (fun _ _ => rfl)) (pa_cons (pe_ix ix_tup (pv 1) (pv 4) (fun _ _ => rfl)) pa_nil)))) (pe_slice sl_tupA (pv 1) (po_some (pe_op op_add (pv 4) pe_int)) po_none))))) pss_nil)
      (pss_cons (ps_if (PW.pt (pw_and (pt_cmpR op_eq (pv 2) pe_int (nomark _)) (pw_and1 (pt_cmpR op_gt (pv 3) pe_int (nomark _))))) (pss_cons (ps_set (i := 4) S_w_bent.nd rfl (.inl rfl) (pe_call G_w_take hr (by rfl) T.g_w_take T.F_w_take.kp T.b_w_take .nil pass0 (pa_cons (pv 0) (pa_cons (pv 3) pa_nil))))
      (pss_one (ps_ret (pe_op op_catA (pe_slice sl_tupA (pv 1) po_none (po_some (pe_op op_add (pv 4) pe_int))) (pe_slice sl_tupA (pv 1) (po_some (pv 4)) po_none))))) pss_nil)
      (pss_cons (ps_if (PW.pt (pw_and (pt_cmpR op_eq (pv 2) pe_int (nomark _)) (pw_and1 (pt_cmpR op_gt (pv 3) pe_int (nomark _))))) (pss_cons (ps_set (i := 4) S_w_bent.nd rfl (.inl rfl) (pe_call G_w_take hr (by rfl) T.g_w_take T.F_w_take.kp T.b_w_take .nil pass0 (pa_cons (pv 0) (pa_cons (pv 3) pa_nil))))
      (pss_cons (ps_set (i := 5) S_w_bent.nd rfl (.inl rfl) (pe_op op_catA (pe_slice sl_tupA (pv 1) po_none (po_some (pv 4))) (pe_slice sl_tupA (pv 1) (po_some (pe_op op_add (pv 4) pe_int)) po_none)))
      (pss_cons (ps_set (i := 6) S_w_bent.nd rfl (.inl rfl) (pe_call G_w_take hr (by rfl) T.g_w_take T.F_w_take.kp T.b_w_take .nil pass0 (pa_cons (pv 0) (pa_cons (pv 3) pa_nil))))
      (pss_one (ps_ret (pe_op op_catA (pe_op op_catA (pe_slice sl_tupA (pv 5) po_none (po_some (pv 6))) (pe_tup (pa_cons (pe_ix ix_tup (pv 1) (pv 4) (fun _ _ => rfl)) pa_nil))) (pe_slice sl_tupA (pv 5) (po_some (pv 6)) po_none))))))) pss_nil)
      (pss_cons (ps_if (PW.pt (pw_and (pt_cmpR op_eq (pv 2) pe_int (nomark _)) (pw_and1 (pt_cmpR op_gt (pv 3) pe_int (nomark _))))) (pss_cons (ps_set (i := 4) S_w_bent.nd rfl (.inl rfl) (pe_call G_w_take hr (by rfl) T.g_w_take T.F_w_take.kp T.b_w_take .nil pass0 (pa_cons (pv 0) (pa_cons (pv 3) pa_nil))))
      (pss_cons (ps_set (i := 7) S_w_bent.nd rfl (.inl rfl) (pe_call G_w_take hr (by rfl) T.g_w_take T.F_w_take.kp T.b_w_take .nil pass0 (pa_cons (pv 0) (pa_cons pe_int pa_nil))))
      (pss_cons (ps_set (i := 8) S_w_bent.nd rfl (.inl rfl) (pe_ix ix_list (pe_lst (pa_cons pe_non (pa_cons pe_bl (pa_cons (pe_un un_neg pe_int) (pa_cons pe_int (pa_cons pe_str (pa_cons pe_str (pa_cons (pe_tup (pa_cons pe_int pa_nil)) (pa_cons pe_int pa_nil))))))))) (pe_call G_w_take hr (by rfl) T.g_w_take T.F_w_take.kp T.b_w_take .nil pass0 (pa_cons (pv 0) (pa_cons pe_int pa_nil))) (fun _ _ => rfl)))
      (pss_cons (ps_set (i := 9) S_w_bent.nd rfl (.inl rfl) (pe_op op_catA (pe_op op_catA (pe_slice sl_tupA (pe_ix ix_tup (pv 1) (pv 4) (fun _ _ => rfl)) po_none (po_some (pv 7))) (pe_tup (pa_cons (pv 8) pa_nil))) (pe_slice sl_tupA (pe_ix ix_tup (pv 1) (pv 4) (fun _ _ => rfl)) (po_some (pe_op op_add (pv 7) pe_int)) po_none)))
      (pss_one (ps_ret (pe_op op_catA (pe_op op_catA (pe_slice sl_tupA (pv 1) po_none (po_some (pv 4))) (pe_tup (pa_cons (pv 9) pa_nil))) (pe_slice sl_tupA (pv 1) (po_some (pe_op op_add (pv 4) pe_int)) po_none)))))))) pss_nil)
      (pss_cons (ps_if (pt_cmpR op_eq (pv 2) pe_int (nomark _)) (pss_cons (ps_set (i := 8) S_w_bent.nd rfl (.inl rfl) (pe_ix ix_list (pe_lst (pa_cons pe_non (pa_cons (pe_tup pa_nil) (pa_cons pe_str (pa_cons pe_int (pa_cons (pe_tup (pa_cons pe_str (pa_cons pe_int pa_nil))) (pa_cons (pe_lst (pa_cons pe_str (pa_cons pe_int (pa_cons pe_str (pa_cons (pe_tup pa_nil) pa_nil))))) pa_nil))))))) (pe_call G_w_take hr (by rfl) T.g_w_take T.F_w_take.kp T.b_w_take .nil pass0 (pa_cons (pv 0) (pa_cons pe_int pa_nil))) (fun _ _ => rfl)))
      (pss_cons (ps_set (i := 4) S_w_bent.nd rfl (.inl rfl) (pe_call G_w_take hr (by rfl) T.g_w_take T.F_w_take.kp T.b_w_take .nil pass0 (pa_cons (pv 0) (pa_cons (pe_op op_add (pv 3) pe_int) pa_nil))))
      (pss_one (ps_ret (pe_op op_catA (pe_op op_catA (pe_slice sl_tupA (pv 1) po_none (po_some (pv 4))) (pe_tup (pa_cons (pv 8) pa_nil))) (pe_slice sl_tupA (pv 1) (po_some (pv 4)) po_none)))))) pss_nil)
      (pss_one (ps_ret (pe_ifExp (pt_cmpR op_eq (pv 2) pe_int (nomark _)) (pe_ix ix_list (pe_lst (pa_cons pe_non (pa_cons pe_str (pa_cons pe_dnewK (pa_cons pe_int (pa_cons (pe_tup (pa_cons (pe_tup pa_nil) pa_nil)) (pa_cons (pe_lst (pa_cons (pe_tup pa_nil) pa_nil)) pa_nil))))))) (pe_call G_w_take hr (by rfl) T.g_w_take T.F_w_take.kp T.b_w_take .nil pass0 (pa_cons (pv 0) (pa_cons pe_int pa_nil))) (fun _ _ => rfl)) (pv 1)))))))))))), ?_⟩
    refine ⟨_, rfl, t, 8, n, c, rfl, by decide, by decide, hT, by omega, fun v H1 v0 v1 hT1 hK1 => ?_⟩
    have hb1 := hK1 _ _ bt hb
    have py1 : ∀ y ∈ ys, Pgx H1 y := fun y hy => (py y hy).at (Tups.kpc hT hK1)
    refine ⟨_, rfl, b, ys, rfl, .inr (.inl (.inl hb1)), ?_⟩
    have book : Q (.ref b) H1 := q _ _ (bkd_tup hb1 (by omega) fun z hz => (py1 z hz).pgd) (hT1.mono (by omega)) hK1
    clear hT hb py
    have h8 : v = 0 ∨ v = 1 ∨ v = 2 ∨ v = 3 ∨ v = 4 ∨ v = 5 ∨ v = 6 ∨ v = 7 := by omega
    rcases h8 with rfl | rfl | rfl | rfl | rfl | rfl | rfl | rfl
    · iterate 6 refine ⟨_, rfl, rfl, _, rfl, ite2 (fun e => absurd e (by decide)) (fun _ => ?_)⟩
      exact ⟨_, rfl, rfl, _, rfl, ite2 (fun e => absurd e (by decide)) (fun _ => ⟨_, rfl, book⟩)⟩
    · refine ⟨_, rfl, rfl, _, rfl, ite2 (fun _ => ?_) (fun z => absurd (by decide) z)⟩
      exact ⟨_, rfl, b, ys, rfl, .inr (.inl (.inl hb1)), fun l nl => q _ _ (bkd_lst upd_same) ((hT1.new nl).mono (by omega)) (hK1.new nl)⟩
    · refine ⟨_, rfl, rfl, _, rfl, ite2 (fun e => absurd e (by decide)) (fun _ => ?_)⟩
      refine ⟨_, rfl, rfl, _, rfl, ite2 (fun _ => ?_) (fun z => absurd (by decide) z)⟩
      refine ⟨_, rfl, _, _, rfl, rfl, _, rfl, ite2 (fun e2 => ?_) (fun _ => ?_)⟩
      · have e2 : (ys.length : Int) > 1 := of_decide_eq_true e2
        refine ⟨_, rfl, _, rfl, _, _, rfl, rfl, t, _, _, c, rfl, by omega, by omega, hT1, by omega, fun u H2 u0 u1 hT2 hK2 => ?_⟩
        have hb2 := hK2 _ _ bt hb1
        have l1 : u.toNat < ys.length := by omega
        have l2 : u.toNat + 1 < ys.length := by omega
        refine ⟨_, rfl, np_in ⟨_, rfl, u, rfl, sl_in hb2 fun c1 H3 s3 hc1 => ?_⟩⟩
        have hb3 := s3 _ _ hb2
        refine ⟨_, rfl, _, rfl, _, _, rfl, rfl, b, ys, _, ys[u.toNat + 1], rfl, rfl, .inl (.inl hb3), at_v l2 (by omega), _, rfl, _, rfl, b, ys, u, ys[u.toNat], rfl, rfl, .inl (.inl hb3), at_v l1 (by omega), sz (by show 2 ≤ 1000; decide), fun p4 n4 => ?_⟩
        have s4 := same_upd (o := .tup [ys[u.toNat + 1], ys[u.toNat]]) n4
        have e3 := k1 ys none (some u)
        have e4 := k1 ys (some (u + 2)) none
        refine cat_in (s4 _ _ hc1) upd_same (by show _ + 2 ≤ _; omega) fun r5 H5 s5 h5 => ?_
        have s35 := (s3.trans s4).trans s5
        refine ⟨_, rfl, _, rfl, _, _, rfl, rfl, _, rfl, np_in (sl_in (s35 _ _ hb2) fun c6 H6 s6 hc6 => ?_)⟩
        refine cat_in (s6 _ _ h5) hc6 (by rw [List.length_append]; show _ + 2 + _ ≤ _; omega) fun r7 H7 s7 h7 => ?_
        have sA := (s35.trans s6).trans s7
        refine q _ _ (bkd_tup h7 (by rw [List.length_append, List.length_append]; show _ + 2 + _ ≤ _; omega) fun z hz => ?_) ((hT2.same sA).mono (by omega)) (hK1.trans (hK2.trans (.of_same sA)))
        have hz : z ∈ ys := by
          rcases List.mem_append.mp hz with hz | hz
          · rcases List.mem_append.mp hz with hz | hz
            · exact cut_mem hz
            · rcases List.mem_cons.mp hz with e | hz
              · rw [e]; exact List.getElem_mem l2
              · rw [List.mem_singleton.mp hz]; exact List.getElem_mem l1
          · exact cut_mem hz
        exact (((py1 z hz).at (Tups.kpc hT1 hK2)).at (.same sA)).pgd
      · iterate 4 refine ⟨_, rfl, rfl, _, rfl, ite2 (fun e => absurd e (by decide)) (fun _ => ?_)⟩
        exact ⟨_, rfl, rfl, _, rfl, ite2 (fun e => absurd e (by decide)) (fun _ => ⟨_, rfl, book⟩)⟩
    · iterate 2 refine ⟨_, rfl, rfl, _, rfl, ite2 (fun e => absurd e (by decide)) (fun _ => ?_)⟩
      refine ⟨_, rfl, rfl, _, rfl, ite2 (fun _ => ?_) (fun z => absurd (by decide) z)⟩
      refine ⟨_, rfl, _, _, rfl, rfl, _, rfl, ite2 (fun e2 => ?_) (fun _ => ?_)⟩
      · have e2 : (ys.length : Int) > 0 := of_decide_eq_true e2
        refine ⟨_, rfl, _, rfl, t, _, _, c, rfl, by omega, by omega, hT1, by omega, fun u H2 u0 u1 hT2 hK2 => ?_⟩
        have hb2 := hK2 _ _ bt hb1
        refine ⟨_, rfl, np_in ⟨_, rfl, _, _, rfl, rfl, _, rfl, sl_in hb2 fun c1 H3 s3 hc1 => ?_⟩⟩
        refine ⟨_, rfl, _, rfl, u, rfl, np_in (sl_in (s3 _ _ hb2) fun c4 H4 s4 hc4 => ?_)⟩
        have e3 := k1 ys none (some (u + 1))
        have e4 := k1 ys (some u) none
        refine cat_in (s4 _ _ hc1) hc4 (by omega) fun r5 H5 s5 h5 => ?_
        have sA := (s3.trans s4).trans s5
        refine q _ _ (bkd_tup h5 (by rw [List.length_append]; omega) fun z hz => ?_) ((hT2.same sA).mono (by omega)) (hK1.trans (hK2.trans (.of_same sA)))
        have hz : z ∈ ys := (List.mem_append.mp hz).elim cut_mem cut_mem
        exact (((py1 z hz).at (Tups.kpc hT1 hK2)).at (.same sA)).pgd
      · iterate 3 refine ⟨_, rfl, rfl, _, rfl, ite2 (fun e => absurd e (by decide)) (fun _ => ?_)⟩
        exact ⟨_, rfl, rfl, _, rfl, ite2 (fun e => absurd e (by decide)) (fun _ => ⟨_, rfl, book⟩)⟩
    · iterate 3 refine ⟨_, rfl, rfl, _, rfl, ite2 (fun e => absurd e (by decide)) (fun _ => ?_)⟩
      refine ⟨_, rfl, rfl, _, rfl, ite2 (fun _ => ?_) (fun z => absurd (by decide) z)⟩
      refine ⟨_, rfl, _, _, rfl, rfl, _, rfl, ite2 (fun e2 => ?_) (fun _ => ?_)⟩
      · have e2 : (ys.length : Int) > 0 := of_decide_eq_true e2
        refine ⟨_, rfl, _, rfl, t, _, _, c, rfl, by omega, by omega, hT1, by omega, fun u H2 u0 u1 hT2 hK2 => ?_⟩
        have hb2 := hK2 _ _ bt hb1
        have l1 : u.toNat < ys.length := by omega
        refine ⟨_, rfl, np_in ⟨_, rfl, u, rfl, sl_in hb2 fun c1 H3 s3 hc1 => ?_⟩⟩
        refine ⟨_, rfl, _, rfl, _, _, rfl, rfl, _, rfl, np_in (sl_in (s3 _ _ hb2) fun c4 H4 s4 hc4 => ?_)⟩
        have e3 := k1 ys none (some u)
        have e4 := k1 ys (some (u + 1)) none
        refine cat_in (s4 _ _ hc1) hc4 (by omega) fun r5 H5 s5 h5 => ?_
        have sA := (s3.trans s4).trans s5
        have r5t : r5 ≠ t := fun z => by
          obtain ⟨_, _, _, _, e, _⟩ := hT2.same sA
          rw [z, e] at h5; cases h5
        obtain ⟨zs, ezs⟩ : ∃ zs, zs = cutV ys none (some u) ++ cutV ys (some (u + 1)) none := ⟨_, rfl⟩
        have lzs : zs.length ≤ 160 := by rw [ezs, List.length_append]; omega
        have mzs : ∀ z ∈ zs, z ∈ ys := fun z hz => by rw [ezs] at hz; exact (List.mem_append.mp hz).elim cut_mem cut_mem
        rw [← ezs] at h5
        refine ⟨_, rfl, _, rfl, t, _, _, c, rfl, by omega, by omega, hT2.same sA, by omega, fun u2 H6 u20 u21 hT6 hK6 => ?_⟩
        have h6 := hK6 _ _ r5t h5
        have hb6 := hK6 _ _ bt (sA _ _ hb2)
        refine ⟨_, rfl, np_in ⟨_, rfl, u2, rfl, sl_in h6 fun c7 H7 s7 hc7 => ?_⟩⟩
        refine ⟨_, rfl, _, rfl, b, ys, u, ys[u.toNat], rfl, rfl, .inl (.inl (s7 _ _ hb6)), at_v l1 (by omega), sz (by show 1 ≤ 1000; decide), fun p8 n8 => ?_⟩
        have s8 := same_upd (o := .tup [ys[u.toNat]]) n8
        have e5 := k1 zs none (some u2)
        have e6 := k1 zs (some u2) none
        refine cat_in (s8 _ _ hc7) upd_same (by show _ + 1 ≤ _; omega) fun r9 H9 s9 h9 => ?_
        have s79 := (s7.trans s8).trans s9
        refine ⟨_, rfl, _, rfl, u2, rfl, np_in (sl_in (s79 _ _ h6) fun c10 H10 s10 hc10 => ?_)⟩
        refine cat_in (s10 _ _ h9) hc10 (by rw [List.length_append]; show _ + 1 + _ ≤ _; omega) fun r11 H11 s11 h11 => ?_
        have sB := (s79.trans s10).trans s11
        refine q _ _ (bkd_tup h11 (by rw [List.length_append, List.length_append]; show _ + 1 + _ ≤ _; omega) fun z hz => ?_) ((hT6.same sB).mono (by omega)) (hK1.trans (hK2.trans ((Kp.of_same sA).trans (hK6.trans (.of_same sB)))))
        have hz : z ∈ ys := by
          rcases List.mem_append.mp hz with hz | hz
          · rcases List.mem_append.mp hz with hz | hz
            · exact mzs z (cut_mem hz)
            · rw [List.mem_singleton.mp hz]; exact List.getElem_mem l1
          · exact mzs z (cut_mem hz)
        exact (((((py1 z hz).at (Tups.kpc hT1 hK2)).at (.same sA)).at (Tups.kpc (hT2.same sA) hK6)).at (.same sB)).pgd
      · iterate 2 refine ⟨_, rfl, rfl, _, rfl, ite2 (fun e => absurd e (by decide)) (fun _ => ?_)⟩
        exact ⟨_, rfl, rfl, _, rfl, ite2 (fun e => absurd e (by decide)) (fun _ => ⟨_, rfl, book⟩)⟩
    · iterate 4 refine ⟨_, rfl, rfl, _, rfl, ite2 (fun e => absurd e (by decide)) (fun _ => ?_)⟩
      refine ⟨_, rfl, rfl, _, rfl, ite2 (fun _ => ?_) (fun z => absurd (by decide) z)⟩
      refine ⟨_, rfl, _, _, rfl, rfl, _, rfl, ite2 (fun e2 => ?_) (fun _ => ?_)⟩
      · have e2 : (ys.length : Int) > 0 := of_decide_eq_true e2
        refine ⟨_, rfl, _, rfl, t, _, _, c, rfl, by omega, by omega, hT1, by omega, fun u H2 u0 u1 hT2 hK2 => ?_⟩
        have hb2 := hK2 _ _ bt hb1
        have py2 : ∀ y ∈ ys, Pgx H2 y := fun y hy => (py1 y hy).at (Tups.kpc hT1 hK2)
        have l1 : u.toNat < ys.length := by omega
        refine ⟨_, rfl, t, 3, _, c, rfl, by decide, by decide, hT2, by omega, fun pl H3 pl0 pl1 hT3 hK3 => ?_⟩
        have hb3 := hK3 _ _ bt hb2
        have py3 : ∀ y ∈ ys, Pgx H3 y := fun y hy => (py2 y hy).at (Tups.kpc hT2 hK3)
        refine ⟨1, rfl, sz (by show 1 ≤ 1000; decide), fun pT nT => ⟨sz (by show 8 ≤ 1000; decide), fun pL nL => ?_⟩⟩
        have sT := same_upd (o := .tup [.int 1]) nT
        have sL := same_upd (o := .lst [.non, .bl true, .int (-1), .int 10000, .str "", .str "Ab", .ref pT, .int 1000]) nL
        have hL : upd (upd H3 pT (.tup [.int 1])) pL (.lst [.non, .bl true, .int (-1), .int 10000, .str "", .str "Ab", .ref pT, .int 1000]) pL = _ := upd_same
        have hpT := sL _ _ (upd_same (H := H3) (a := pT) (o := .tup [.int 1]))
        have sTL := sT.trans sL
        have hT5 := hT3.same sTL
        have Lt := ((hT3.same sT).ne nL).1
        generalize upd (upd H3 pT (.tup [.int 1])) pL (.lst [.non, .bl true, .int (-1), .int 10000, .str "", .str "Ab", .ref pT, .int 1000]) = H5 at sTL hT5 hL hpT ⊢
        refine ⟨_, rfl, t, 8, _, c, rfl, by decide, by decide, hT5, by omega, fun o H6 o0 o1 hT6 hK6 => ?_⟩
        have tk6 := Tups.kpc hT5 hK6
        have hpT6 := tk6 _ _ hpT
        have hL6 := hK6 _ _ Lt hL
        have hb6 := hK6 _ _ bt (sTL _ _ hb3)
        have py6 : ∀ y ∈ ys, Pgx H6 y := fun y hy => ((py3 y hy).at (.same sTL)).at tk6
        have hKA : Kp t H H6 := hK1.trans (hK2.trans (hK3.trans ((Kp.of_same sTL).trans hK6)))
        obtain ⟨od, eod, fod⟩ : ∃ od, atI [V.non, .bl true, .int (-1), .int 10000, .str "", .str "Ab", .ref pT, .int 1000] o = some od ∧ Fl H6 od := by
          have h8 : o = 0 ∨ o = 1 ∨ o = 2 ∨ o = 3 ∨ o = 4 ∨ o = 5 ∨ o = 6 ∨ o = 7 := by omega
          rcases h8 with rfl | rfl | rfl | rfl | rfl | rfl | rfl | rfl
          · exact ⟨_, rfl, .non⟩
          · exact ⟨_, rfl, .bl _⟩
          · exact ⟨_, rfl, .int _⟩
          · exact ⟨_, rfl, .int _⟩
          · exact ⟨_, rfl, .str ⟨by decide +kernel, by decide +kernel⟩⟩
          · exact ⟨_, rfl, .str ⟨by decide +kernel, by decide +kernel⟩⟩
          · exact ⟨_, rfl, .home (ws := [1]) hpT6 (by decide)⟩
          · exact ⟨_, rfl, .int _⟩
        refine ⟨pL, _, o, od, rfl, rfl, .inl (.inl hL6), eod, ?_⟩
        clear hT2 hK2 hb2 py2 hT3 hK3 hb3 py3 sT sL nT nL hT5 hK6 hL hpT sTL hL6 hK1 hT1 hb1 py1 hpT6 tk6
        obtain ⟨pa, xs, epa, hpa, lx, fx⟩ := py6 _ (List.getElem_mem l1)
        refine ⟨_, rfl, _, rfl, b, ys, u, .ref pa, rfl, rfl, .inl (.inl hb6), by rw [← epa]; exact at_v l1 (by omega), np_in ⟨_, rfl, pl, rfl, sl_in hpa fun c1 H7 s7 hc1 => ?_⟩⟩
        refine ⟨_, rfl, sz (by show 1 ≤ 1000; decide), fun p8 n8 => ?_⟩
        have s8 := same_upd (o := .tup [od]) n8
        have e3 := k1 xs none (some pl)
        have e4 := k1 xs (some (pl + 1)) none
        refine cat_in (s8 _ _ hc1) upd_same (by show _ + 1 ≤ _; omega) fun r9 H9 s9 h9 => ?_
        have s79 := (s7.trans s8).trans s9
        refine ⟨_, rfl, _, rfl, b, ys, u, .ref pa, rfl, rfl, .inl (.inl (s79 _ _ hb6)), by rw [← epa]; exact at_v l1 (by omega), _, rfl, _, _, rfl, rfl, _, rfl, np_in (sl_in (s79 _ _ hpa) fun c10 H10 s10 hc10 => ?_)⟩
        refine cat_in (s10 _ _ h9) hc10 (by rw [List.length_append]; show _ + 1 + _ ≤ _; omega) fun r11 H11 s11 h11 => ?_
        have sB := (s79.trans s10).trans s11
        have pg : Pgd H11 (.ref r11) := pgd_tup h11 (by rw [List.length_append, List.length_append]; show _ + 1 + _ ≤ _; omega) fun x hx => by
          refine Fl.at ?_ (.same sB)
          rcases List.mem_append.mp hx with hx | hx
          · rcases List.mem_append.mp hx with hx | hx
            · exact fx x (cut_mem hx)
            · rw [List.mem_singleton.mp hx]; exact fod
          · exact fx x (cut_mem hx)
        refine ⟨_, rfl, np_in ⟨_, rfl, u, rfl, sl_in (sB _ _ hb6) fun c12 H12 s12 hc12 => ?_⟩⟩
        refine ⟨_, rfl, sz (by show 1 ≤ 1000; decide), fun p13 n13 => ?_⟩
        have s13 := same_upd (o := .tup [.ref r11]) n13
        have e5 := k1 ys none (some u)
        have e6 := k1 ys (some (u + 1)) none
        refine cat_in (s13 _ _ hc12) upd_same (by show _ + 1 ≤ _; omega) fun r14 H14 s14 h14 => ?_
        have s124 := (s12.trans s13).trans s14
        refine ⟨_, rfl, _, rfl, _, _, rfl, rfl, _, rfl, np_in (sl_in (s124 _ _ (sB _ _ hb6)) fun c15 H15 s15 hc15 => ?_)⟩
        refine cat_in (s15 _ _ h14) hc15 (by rw [List.length_append]; show _ + 1 + _ ≤ _; omega) fun r16 H16 s16 h16 => ?_
        have sC := (s124.trans s15).trans s16
        refine q _ _ (bkd_tup h16 (by rw [List.length_append, List.length_append]; show _ + 1 + _ ≤ _; omega) fun z hz => ?_) ((hT6.same (sB.trans sC)).mono (by omega)) (hKA.trans (.of_same (sB.trans sC)))
        rcases List.mem_append.mp hz with hz | hz
        · rcases List.mem_append.mp hz with hz | hz
          · exact ((py6 z (cut_mem hz)).at (.same (sB.trans sC))).pgd
          · rw [List.mem_singleton.mp hz]; exact pg.of (fun b o e _ => sC b o e)
        · exact ((py6 z (cut_mem hz)).at (.same (sB.trans sC))).pgd
      · iterate 1 refine ⟨_, rfl, rfl, _, rfl, ite2 (fun e => absurd e (by decide)) (fun _ => ?_)⟩
        exact ⟨_, rfl, rfl, _, rfl, ite2 (fun e => absurd e (by decide)) (fun _ => ⟨_, rfl, book⟩)⟩
    · iterate 5 refine ⟨_, rfl, rfl, _, rfl, ite2 (fun e => absurd e (by decide)) (fun _ => ?_)⟩
      refine ⟨_, rfl, rfl, _, rfl, ite2 (fun _ => ?_) (fun z => absurd (by decide) z)⟩
      refine ⟨Nat.zero_le _, fun q1 n1 => ⟨sz (by show 2 ≤ 1000; decide), fun q2 n2 => ⟨Nat.zero_le _, fun q3 n3 => ⟨sz (by show 4 ≤ 1000; decide), fun q4 n4 => ⟨sz (by show 6 ≤ 1000; decide), fun pL nL => ?_⟩⟩⟩⟩⟩
      have s1 := same_upd (o := .tup []) n1
      have s2 := same_upd (o := .tup [.str "house", .int 5]) n2
      have s3 := same_upd (o := .tup []) n3
      have s4 := same_upd (o := .lst [.str "house", .int 5, .str "a", .ref q3]) n4
      have sL := same_upd (o := .lst [.non, .ref q1, .str "page", .int 7, .ref q2, .ref q4]) nL
      have g1 := sL _ _ (s4 _ _ (s3 _ _ (s2 _ _ (upd_same (H := H1) (a := q1) (o := .tup [])))))
      have g2 := sL _ _ (s4 _ _ (s3 _ _ (upd_same (H := upd H1 q1 (.tup [])) (a := q2) (o := .tup [.str "house", .int 5]))))
      have g4 := sL _ _ (upd_same (H := upd (upd (upd H1 q1 (.tup [])) q2 (.tup [.str "house", .int 5])) q3 (.tup [])) (a := q4) (o := .lst [.str "house", .int 5, .str "a", .ref q3]))
      have sA := (((s1.trans s2).trans s3).trans s4).trans sL
      have Lt := (((((hT1.same s1).same s2).same s3).same s4).ne nL).1
      have q4t := ((((hT1.same s1).same s2).same s3).ne n4).1
      have hL := upd_same (H := upd (upd (upd (upd H1 q1 (.tup [])) q2 (.tup [.str "house", .int 5])) q3 (.tup [])) q4 (.lst [.str "house", .int 5, .str "a", .ref q3])) (a := pL) (o := .lst [.non, .ref q1, .str "page", .int 7, .ref q2, .ref q4])
      generalize upd (upd (upd (upd (upd H1 q1 (.tup [])) q2 (.tup [.str "house", .int 5])) q3 (.tup [])) q4 (.lst [.str "house", .int 5, .str "a", .ref q3])) pL (.lst [.non, .ref q1, .str "page", .int 7, .ref q2, .ref q4]) = H5 at g1 g2 g4 sA hL ⊢
      have hT5 := hT1.same sA
      refine ⟨_, rfl, t, 6, _, c, rfl, by decide, by decide, hT5, by omega, fun o H6 o0 o1 hT6 hK6 => ?_⟩
      have tk6 := Tups.kpc hT5 hK6
      have hb6 := hK6 _ _ bt (sA _ _ hb1)
      have py6 : ∀ y ∈ ys, Pgx H6 y := fun y hy => ((py1 y hy).at (.same sA)).at tk6
      obtain ⟨od, eod, fod⟩ : ∃ od, atI [V.non, .ref q1, .str "page", .int 7, .ref q2, .ref q4] o = some od ∧ Pgd H6 od := by
        have h6 : o = 0 ∨ o = 1 ∨ o = 2 ∨ o = 3 ∨ o = 4 ∨ o = 5 := by omega
        rcases h6 with rfl | rfl | rfl | rfl | rfl | rfl
        · exact ⟨_, rfl, pgd_flat trivial fun a z => by cases z⟩
        · exact ⟨_, rfl, pgd_tup (tk6 _ _ g1) (by decide) fun x hx => by cases hx⟩
        · exact ⟨_, rfl, pgd_flat trivial fun a z => by cases z⟩
        · exact ⟨_, rfl, pgd_flat trivial fun a z => by cases z⟩
        · refine ⟨_, rfl, pgd_tup (tk6 _ _ g2) (by decide) fun x hx => ?_⟩
          rcases List.mem_cons.mp hx with e | hx
          · rw [e]; exact .str ⟨by decide +kernel, by decide +kernel⟩
          · rw [List.mem_singleton.mp hx]; exact .int _
        · exact ⟨_, rfl, pgd_lst (hK6 _ _ q4t g4)⟩
      refine ⟨pL, _, o, od, rfl, rfl, .inl (.inl (hK6 _ _ Lt hL)), eod, ?_⟩
      refine ⟨_, rfl, _, rfl, _, _, rfl, rfl, t, _, _, c, rfl, by omega, by omega, hT6, by omega, fun u H7 u0 u1 hT7 hK7 => ?_⟩
      have tk7 := Tups.kpc hT6 hK7
      have hb7 := hK7 _ _ bt hb6
      have fod : Pgd H7 od := by
        rcases o0 with _
        have h6 : o = 0 ∨ o = 1 ∨ o = 2 ∨ o = 3 ∨ o = 4 ∨ o = 5 := by omega
        rcases h6 with rfl | rfl | rfl | rfl | rfl | rfl
        · cases eod; exact pgd_flat trivial fun a z => by cases z
        · cases eod; exact pgd_tup (tk7 _ _ (tk6 _ _ g1)) (by decide) fun x hx => by cases hx
        · cases eod; exact pgd_flat trivial fun a z => by cases z
        · cases eod; exact pgd_flat trivial fun a z => by cases z
        · cases eod
          refine pgd_tup (tk7 _ _ (tk6 _ _ g2)) (by decide) fun x hx => ?_
          rcases List.mem_cons.mp hx with e | hx
          · rw [e]; exact .str ⟨by decide +kernel, by decide +kernel⟩
          · rw [List.mem_singleton.mp hx]; exact .int _
        · cases eod; exact pgd_lst (hK7 _ _ q4t (hK6 _ _ q4t g4))
      refine ⟨_, rfl, np_in ⟨_, rfl, u, rfl, sl_in hb7 fun c12 H12 s12 hc12 => ?_⟩⟩
      refine ⟨_, rfl, sz (by show 1 ≤ 1000; decide), fun p13 n13 => ?_⟩
      have s13 := same_upd (o := .tup [od]) n13
      have e5 := k1 ys none (some u)
      have e6 := k1 ys (some u) none
      refine cat_in (s13 _ _ hc12) upd_same (by show _ + 1 ≤ _; omega) fun r14 H14 s14 h14 => ?_
      have s124 := (s12.trans s13).trans s14
      refine ⟨_, rfl, _, rfl, u, rfl, np_in (sl_in (s124 _ _ hb7) fun c15 H15 s15 hc15 => ?_)⟩
      refine cat_in (s15 _ _ h14) hc15 (by rw [List.length_append]; show _ + 1 + _ ≤ _; omega) fun r16 H16 s16 h16 => ?_
      have sC := (s124.trans s15).trans s16
      refine q _ _ (bkd_tup h16 (by rw [List.length_append, List.length_append]; show _ + 1 + _ ≤ _; omega) fun z hz => ?_) ((hT7.same sC).mono (by omega)) (hK1.trans ((Kp.of_same sA).trans (hK6.trans (hK7.trans (.of_same sC)))))
      rcases List.mem_append.mp hz with hz | hz
      · rcases List.mem_append.mp hz with hz | hz
        · exact (((py6 z (cut_mem hz)).at tk7).at (.same sC)).pgd
        · rw [List.mem_singleton.mp hz]; exact fod.of (fun b o e _ => sC b o e)
      · exact (((py6 z (cut_mem hz)).at tk7).at (.same sC)).pgd
    · iterate 6 refine ⟨_, rfl, rfl, _, rfl, ite2 (fun e => absurd e (by decide)) (fun _ => ?_)⟩
      refine ⟨_, rfl, rfl, _, rfl, ite2 (fun _ => ?_) (fun z => absurd (by decide) z)⟩
      intro q1 n1
      refine ⟨Nat.zero_le _, fun q2 n2 => ⟨sz (by show 1 ≤ 1000; decide), fun q3 n3 => ⟨Nat.zero_le _, fun q4 n4 => ⟨sz (by show 1 ≤ 1000; decide), fun q5 n5 => ⟨sz (by show 6 ≤ 1000; decide), fun pL nL => ?_⟩⟩⟩⟩⟩
      have s1 := same_upd (o := .dK []) n1
      have s2 := same_upd (o := .tup []) n2
      have s3 := same_upd (o := .tup [.ref q2]) n3
      have s4 := same_upd (o := .tup []) n4
      have s5 := same_upd (o := .lst [.ref q4]) n5
      have sL := same_upd (o := .lst [.non, .str "", .ref q1, .int 0, .ref q3, .ref q5]) nL
      have g1 := sL _ _ (s5 _ _ (s4 _ _ (s3 _ _ (s2 _ _ (upd_same (H := H1) (a := q1) (o := .dK []))))))
      have g2 := sL _ _ (s5 _ _ (s4 _ _ (s3 _ _ (upd_same (H := upd H1 q1 (.dK [])) (a := q2) (o := .tup [])))))
      have g3 := sL _ _ (s5 _ _ (s4 _ _ (upd_same (H := upd (upd H1 q1 (.dK [])) q2 (.tup [])) (a := q3) (o := .tup [.ref q2]))))
      have g5 := sL _ _ (upd_same (H := upd (upd (upd (upd H1 q1 (.dK [])) q2 (.tup [])) q3 (.tup [.ref q2])) q4 (.tup [])) (a := q5) (o := .lst [.ref q4]))
      have sA := ((((s1.trans s2).trans s3).trans s4).trans s5).trans sL
      have Lt := ((((((hT1.same s1).same s2).same s3).same s4).same s5).ne nL).1
      have q5t := (((((hT1.same s1).same s2).same s3).same s4).ne n5).1
      have q1t := (hT1.ne n1).1
      have hL := upd_same (H := upd (upd (upd (upd (upd H1 q1 (.dK [])) q2 (.tup [])) q3 (.tup [.ref q2])) q4 (.tup [])) q5 (.lst [.ref q4])) (a := pL) (o := .lst [.non, .str "", .ref q1, .int 0, .ref q3, .ref q5])
      generalize upd (upd (upd (upd (upd (upd H1 q1 (.dK [])) q2 (.tup [])) q3 (.tup [.ref q2])) q4 (.tup [])) q5 (.lst [.ref q4])) pL (.lst [.non, .str "", .ref q1, .int 0, .ref q3, .ref q5]) = H5 at g1 g2 g3 g5 sA hL ⊢
      have hT5 := hT1.same sA
      refine ⟨_, rfl, t, 6, _, c, rfl, by decide, by decide, hT5, by omega, fun o H6 o0 o1 hT6 hK6 => ?_⟩
      have tk6 := Tups.kpc hT5 hK6
      obtain ⟨od, eod, fod⟩ : ∃ od, atI [V.non, .str "", .ref q1, .int 0, .ref q3, .ref q5] o = some od ∧ Bkd H6 od := by
        have h6 : o = 0 ∨ o = 1 ∨ o = 2 ∨ o = 3 ∨ o = 4 ∨ o = 5 := by omega
        rcases h6 with rfl | rfl | rfl | rfl | rfl | rfl
        · exact ⟨_, rfl, bkd_flat trivial fun a z => by cases z⟩
        · exact ⟨_, rfl, bkd_flat trivial fun a z => by cases z⟩
        · exact ⟨_, rfl, bkd_dic (hK6 _ _ q1t g1)⟩
        · exact ⟨_, rfl, bkd_flat trivial fun a z => by cases z⟩
        · refine ⟨_, rfl, bkd_tup (tk6 _ _ g3) (by show 1 ≤ 900; decide) fun x hx => ?_⟩
          rw [List.mem_singleton.mp hx]
          exact pgd_tup (tk6 _ _ g2) (by decide) fun x hx => by cases hx
        · exact ⟨_, rfl, bkd_lst (hK6 _ _ q5t g5)⟩
      exact ⟨pL, _, o, od, rfl, rfl, .inl (.inl (hK6 _ _ Lt hL)), eod, q _ _ fod (hT6.mono (by omega)) (hK1.trans ((Kp.of_same sA).trans hK6))⟩
end
end L05

set_option Elab.async false
set_option linter.all false
set_option maxRecDepth 100000
set_option maxHeartbeats 2000000
namespace L05
open PySem PySem.Spec PyProof.Rows L2 My
section
variable {P : Program} {w : World} {K : PySem.W.Frag} {mg : Str → Option Value} {base : Heap}
/-- the keys of values -/
theorem mem_key {H : Hp} : ∀ {ks : List NestedKey} {xs : List V}, NkAll H xs ks → ∀ k, k ∈ ks → ∃ x ∈ xs, Nk H x k
  | k0 :: ks, x0 :: xs, .cons h r, k, hk => by
    rcases List.mem_cons.mp hk with e | hk
    · exact ⟨x0, .head _, by rw [e]; exact h⟩
    · obtain ⟨x, hx, n⟩ := mem_key r k hk
      exact ⟨x, .tail _ hx, n⟩
theorem book_pn {zs : List Str} {H H' : Hp} {r : Addr} {xs ys : List V} {ks ls : List NestedKey} (pn : PgN zs H xs) (nk : NkAll H xs ks) (h : H' r = some (.tup ys)) (n : NkAll H' ys ls) (o : My.Ord ls) (m : ∀ k, k ∈ ls ↔ k ∈ ks) (pk : ∀ k ∈ ks, PgK k) (l : ys.length ≤ xs.length) :
    PgN zs H' ys := fun x hx => by
  obtain ⟨i, hi⟩ := List.mem_iff_getElem?.mp hx
  obtain ⟨k, hk, nx⟩ := n.get hi
  have km := (m k).mp (List.mem_of_getElem? hk)
  obtain ⟨y, hy, ny⟩ := mem_key nk k km
  obtain ⟨k', n', _, c'⟩ := pn y hy
  rw [← ny.inj n'] at c'
  exact ⟨k, nx, pk k km, c'⟩
def Kn (H H' : Hp) : Prop := ∀ b o, H b = some o → (∀ ps, o ≠ .tbl ps) → H' b = some o
theorem Kn.refl (H : Hp) : Kn H H := fun _ _ e _ => e
theorem Kn.trans {H H1 H2 : Hp} (a : Kn H H1) (b : Kn H1 H2) : Kn H H2 := fun c o e n => b c o (a c o e n) n
theorem Kn.same {H H' : Hp} (s : Same H H') : Kn H H' := fun b o e _ => s b o e
theorem Kn.gk {Ts : List Addr} {H H' : Hp} (g : Gk Ts H H') : Kn H H' := g.1
theorem Kn.tups {H H' : Hp} (k : Kn H H') : Tups H H' := fun b xs e => k b _ e (fun ps z => by cases z)
theorem TapC.kn {H H' : Hp} {t c : Addr} {n : Nat} (h : TapC H t c n) (k : Kn H H') : TapC H' t c n := by
  obtain ⟨ns, sp, re, ca, h1, h2, h3⟩ := h
  exact ⟨ns, sp, re, ca, k _ _ h1 (fun ps z => by cases z), k _ _ h2 (fun ps z => by cases z), h3⟩
theorem nm_name {z : Str} (h : Nm z) : nameB (.str z) = true := by
  show ((decide (1 ≤ z.length) && decide (z.length ≤ 8)) && z.cps.toList.all signOk) = true
  rw [decide_eq_true h.1, decide_eq_true h.2.1, Bool.true_and, Bool.true_and, List.all_eq_true]
  intro c hc
  unfold signOk
  obtain ⟨a, b⟩ := h.2.2 c hc
  rw [decide_eq_true a, decide_eq_true b]
  rfl
theorem ris_pw : ∀ {ws : List Int}, ws.Pairwise (· < ·) → risB ws = true
  | [], _ => rfl
  | [_], _ => rfl
  | a :: b :: r, h => by
    show (decide (a < b) && risB (b :: r)) = true
    rw [List.pairwise_cons] at h
    rw [decide_eq_true (h.1 b (.head _)), ris_pw h.2]
    rfl
theorem map_un : ∀ ws : List Int, (ws.map V.int).map unI = ws
  | [] => rfl
  | w :: ws => by
    show w :: (ws.map V.int).map unI = w :: ws
    rw [map_un ws]
theorem home_b {H : Hp} {b : Addr} {ws : List Int} (e : H b = some (.tup (ws.map V.int))) (hw : HomeW ws) (hp : ws.Pairwise (· < ·)) : homeB H (.ref b) = true := by
  simp only [homeB, e]
  unfold homeV
  rw [map_un, ris_pw hp, Bool.and_true, List.all_eq_true]
  intro x hx
  obtain ⟨i, hi, rfl⟩ := List.mem_map.mp hx
  have := hw.2 i hi
  show (decide (0 ≤ i) && decide (i ≤ 6)) = true
  rw [decide_eq_true this.1, decide_eq_true (by omega)]
  rfl
theorem page_true {H : Hp} {pa : Addr} {k : Str} {i : Int} {r : List V} {fs : List Str} (ha : H pa = some (.tup (.str k :: .int i :: r))) (hk : formsOf k = some fs) (i0 : 0 ≤ i) (i1 : i < 10000) (hl : r.length = fs.length) (hf : fitsB H fs r = true) (hu : unlike (namesB fs r) = true) : pageB H (.ref pa) = true := by
  have hd : inW (.int i) 0 9999 = true := by
    show (decide (0 ≤ i) && decide (i ≤ 9999)) = true
    rw [decide_eq_true i0, decide_eq_true (by omega)]
    rfl
  simp only [pageB, ha, formV, hk, namesV, Option.getD_some, hd, decide_eq_true hl, hf, hu, Bool.and_true]
theorem fit1 {H : Hp} {f : Str} {x : V} {fs : List Str} {r : List V} (h1 : fitB H f x = true) (h2 : fitsB H fs r = true) : fitsB H (f :: fs) (x :: r) = true := by
  unfold fitsB
  rw [List.zip_cons_cons, List.all_cons, h1, Bool.true_and]
  exact h2
theorem fit0 {H : Hp} : fitsB H [] [] = true := rfl
theorem fitN {H : Hp} {z : Str} (h : Nm z) : fitB H "name" (.str z) = true := by
  unfold fitB
  rw [if_pos rfl]
  exact nm_name h
theorem fitH {H : Hp} {b : Addr} {ws : List Int} (e : H b = some (.tup (ws.map V.int))) (hw : HomeW ws) (hp : ws.Pairwise (· < ·)) : fitB H "home" (.ref b) = true := by
  unfold fitB
  rw [if_neg (by decide +kernel), if_pos rfl]
  exact home_b e hw hp
theorem fitM {H : Hp} {m : Int} (h0 : 1 ≤ m) (h1 : m ≤ 60) : fitB H "many" (.int m) = true := by
  unfold fitB
  rw [if_neg (by decide +kernel), if_neg (by decide +kernel)]
  show (decide (1 ≤ m) && decide (m ≤ 60)) = true
  rw [decide_eq_true h0, decide_eq_true h1]
  rfl
theorem nb_cons (x : V) (fs : List Str) (r : List V) : namesB (("name" : Str) :: fs) (x :: r) = x :: namesB fs r := by
  unfold namesB
  rw [List.zip_cons_cons, List.filter_cons, if_pos (by simp), List.map_cons]
theorem nb_skip {f : Str} (h : f ≠ "name") (x : V) (fs : List Str) (r : List V) : namesB (f :: fs) (x :: r) = namesB fs r := by
  unfold namesB
  rw [List.zip_cons_cons, List.filter_cons, if_neg (by simp [h])]
theorem nb_nil : namesB [] [] = [] := rfl
theorem nh_ne : ("home" : Str) ≠ "name" := by decide +kernel
theorem nm_ne : ("many" : Str) ≠ "name" := by decide +kernel
theorem unl2 {a b : Str} (ne : a ≠ b) : unlike [.str a, .str b] = true := by
  show (!decide (V.str a = V.str b)) = true
  rw [decide_eq_false (fun z => ne (V.str.inj z))]
  rfl
theorem unx_page {H : Hp} {y : V} {k : NestedKey} (n : Nk H y k) (u : UnX k) : pageB H y = true := by
  obtain ⟨z, d, r, rfl, re, d0, d1⟩ := u
  cases n with
  | @tup pa xs _ ha hk =>
    cases hk with
    | cons n1 hk =>
      cases n1
      cases hk with
      | cons n2 hk =>
        cases n2
        cases re with
        | house na hw hp =>
          cases hk with
          | cons n3 hk =>
            cases n3
            cases hk with
            | cons n4 hk =>
              cases hk
              cases n4 with
              | tup hb hu =>
                rw [nk_nums hu] at hb
                refine page_true ha (fs := ["name", "home"]) (by decide +kernel) d0 d1 rfl (fit1 (fitN na) (fit1 (fitH hb hw hp) fit0)) ?_
                rw [nb_cons, nb_skip nh_ne, nb_nil]
                rfl
        | home na hw hp =>
          cases hk with
          | cons n3 hk =>
            cases n3
            cases hk with
            | cons n4 hk =>
              cases hk
              cases n4 with
              | tup hb hu =>
                rw [nk_nums hu] at hb
                refine page_true ha (fs := ["name", "home"]) (by decide +kernel) d0 d1 rfl (fit1 (fitN na) (fit1 (fitH hb hw hp) fit0)) ?_
                rw [nb_cons, nb_skip nh_ne, nb_nil]
                rfl
        | part na nb ne hw hp =>
          cases hk with
          | cons n3 hk =>
            cases n3
            cases hk with
            | cons n4 hk =>
              cases n4
              cases hk with
              | cons n5 hk =>
                cases hk
                cases n5 with
                | tup hb hu =>
                  rw [nk_nums hu] at hb
                  refine page_true ha (fs := ["name", "name", "home"]) (by decide +kernel) d0 d1 rfl (fit1 (fitN na) (fit1 (fitN nb) (fit1 (fitH hb hw hp) fit0))) ?_
                  rw [nb_cons, nb_cons, nb_skip nh_ne, nb_nil]
                  exact unl2 ne
        | mourn na m0 m1 =>
          cases hk with
          | cons n3 hk =>
            cases n3
            cases hk with
            | cons n4 hk =>
              cases n4
              cases hk
              refine page_true ha (fs := ["name", "many"]) (by decide +kernel) d0 d1 rfl (fit1 (fitN na) (fit1 (fitM m0 m1) fit0)) ?_
              rw [nb_cons, nb_skip nm_ne, nb_nil]
              rfl
        | join na nb ne | ahead na nb ne | card na nb ne | visit na nb ne =>
          cases hk with
          | cons n3 hk =>
            cases n3
            cases hk with
            | cons n4 hk =>
              cases n4
              cases hk
              refine page_true ha (fs := ["name", "name"]) (by decide +kernel) d0 d1 rfl (fit1 (fitN na) (fit1 (fitN nb) fit0)) ?_
              rw [nb_cons, nb_cons, nb_nil]
              exact unl2 ne
theorem ord_b : ∀ {ks : List NestedKey}, My.Ord ks → ordB ks = true
  | [], _ => rfl
  | [_], _ => rfl
  | a :: b :: r, h => by
    show (My.ahead a b && ordB (b :: r)) = true
    have h : List.Pairwise _ (a :: b :: r) := h
    rw [List.pairwise_cons] at h
    rw [h.1 b (.head _), ord_b (ks := b :: r) h.2]
    rfl
theorem BookIs.kn {H H' : Hp} {v : V} {b : Bool} (h : BookIs H v b) (d : Bkd H v) (k : Kn H H') : BookIs H' v b := by
  have tp : ∀ {a : Addr} {xs : List V}, H a = some (.tup xs) → H' a = some (.tup xs) := fun e => k _ _ e (fun ps z => by cases z)
  cases h with
  | other e =>
    refine .other ?_
    cases v with
    | ref a =>
      rcases d.1 with ⟨xs, h⟩ | ⟨xs, h⟩ | ⟨xs, h⟩
      · simp [kindB, h] at e
      · have h2 := k _ _ h (fun ps z => by cases z)
        simp [kindB, h2]
      · have h2 := k _ _ h (fun ps z => by cases z)
        simp [kindB, h2]
    | _ => exact e
  | bad ha hx e =>
    obtain ⟨_, hp⟩ := d.2 _ _ rfl ha
    exact .bad (tp ha) hx (by rw [pageB_kn (hp _ hx) k]; exact e)
  | good ha n p al =>
    obtain ⟨_, hp⟩ := d.2 _ _ rfl ha
    exact .good (tp ha) (n.at k.tups) p fun x hx => by rw [pageB_kn (hp _ hx) k]; exact al x hx
theorem Bkd.kn {H H' : Hp} {v : V} (d : Bkd H v) (k : Kn H H') : Bkd H' v := by
  obtain ⟨ht, hd⟩ := d
  refine ⟨ht.of fun b o e n _ => k b o e n, fun a xs e he => ?_⟩
  subst e
  rcases ht with ⟨ys, h⟩ | ⟨ys, h⟩ | ⟨ys, h⟩
  · have h2 := k _ _ h (fun ps z => by cases z)
    rw [he] at h2
    cases h2
    obtain ⟨l, p⟩ := hd a _ rfl h
    exact ⟨l, fun x hx => (p x hx).of k⟩
  · have h2 := k _ _ h (fun ps z => by cases z)
    rw [he] at h2
    cases h2
  · have h2 := k _ _ h (fun ps z => by cases z)
    rw [he] at h2
    cases h2
def spLaw {K : PySem.W.Frag} {mg : Str → Option Value} {w : World} (T : Tx K mg w) : Sp := fun vs H Q _ => ∃ (a : Addr) (ns : List Int), vs = [.ref a] ∧ SqL K H a (ns.map V.int) ∧ ns.length ≤ 63 ∧ (∀ P ∈ tbs T, GxR.TabG H P) ∧ ∀ H', Q (.bl true) H'
theorem ok_law (T : Tx K mg w) (B : Tb T base) : FnOk P w K mg base CX0 11 T.f_law T.d_law ["_law_script"] (spLaw T) := by
  have G_w_tap : FnOk P w K mg base CX0 1 T.f_w_tap T.d_w_tap ["_law_script"] (spTap K) := ok_tap T
  have G_w_story : FnOk P w K mg base CX0 4 T.f_w_story T.d_w_story ["_law_tap_here"] (spStory) := ok_wstory T
  have G_w_book : FnOk P w K mg base CX0 3 T.f_w_book T.d_w_book ["_law_some"] (spWBook) := ok_wbook T
  have G_w_bent : FnOk P w K mg base CX0 2 T.f_w_bent T.d_w_bent ["_law_tap_here", "_law_book_here"] (spBent) := ok_bent T
  have G_is_book : FnOk P w K mg base CX0 10 T.f_is_book T.d_is_book ["thing"] (spBook T) := ok_isbook T B
  have G_w_is_book : FnOk P w K mg base CX0 4 T.f_w_is_book T.d_w_is_book ["_law_thing"] (spWIsBook) := ok_wisbook T
  refine T.F_law.ok S_law (fun vs H Q E h => ?_) (fun cdv A outer s H vs Q E hr h => ?_)
  · obtain ⟨a, ns, rfl, _⟩ := h
    rfl
  · obtain ⟨a, ns, rfl, hS, hlen, hB, q⟩ := h
    have hB : Tbs (tbs T) H := hB
    refine ⟨_, (pss_cons (ps_set (i := 1) S_law.nd rfl (.inl rfl) (pe_call G_w_tap (hr.mono (by decide)) (by rfl) T.g_w_tap T.F_w_tap.kp T.b_w_tap .nil pass0 (pa_cons (pv 0) pa_nil)))
      (pss_cons (ps_set (i := 2) S_law.nd rfl (.inl rfl) (pe_call G_w_book (hr.mono (by decide)) (by rfl) T.g_w_book T.F_w_book.kp T.b_w_book .nil pass0 (pa_cons (pe_ix ix_tup (pe_call G_w_story (hr.mono (by decide)) (by rfl) T.g_w_story T.F_w_story.kp T.b_w_story .nil pass0 (pa_cons (pv 1) pa_nil)) pe_int (fun _ _ => rfl)) pa_nil)))
      (pss_cons (ps_if (pt_cmpR op_ne (pe_callB call_reprF (by rfl) T.m_repr (by decide +kernel) (pa_cons (pe_call G_is_book hr (by rfl) T.g_is_book T.F_is_book.kp T.b_is_book .nil pass0 (pa_cons (pv 2) pa_nil)) pa_nil)) pe_str (nomark _)) (pss_one (ps_ret pe_bl)) pss_nil)
      (pss_cons (ps_for PassesOwn.never rfl (pi_range1 (by rfl) T.m_range (pa_cons pe_int pa_nil)) (pg_name (i := 3) S_law.nd rfl (.inl rfl))
      (pss_cons (ps_set (i := 4) S_law.nd rfl (.inl rfl) (pe_call G_w_bent (hr.mono (by decide)) (by rfl) T.g_w_bent T.F_w_bent.kp T.b_w_bent .nil pass0 (pa_cons (pv 1) (pa_cons (pv 2) pa_nil))))
      (pss_one (ps_if (pt_cmpR op_ne (pe_callB call_reprF (by rfl) T.m_repr (by decide +kernel) (pa_cons (pe_call G_is_book hr (by rfl) T.g_is_book T.F_is_book.kp T.b_is_book .nil pass0 (pa_cons (pv 4) pa_nil)) pa_nil)) (pe_callB call_reprF (by rfl) T.m_repr (by decide +kernel) (pa_cons (pe_call G_w_is_book (hr.mono (by decide)) (by rfl) T.g_w_is_book T.F_w_is_book.kp T.b_w_is_book .nil pass0 (pa_cons (pv 4) pa_nil)) pa_nil)) (nomark _)) (pss_one (ps_ret pe_bl)) pss_nil))))
      (pss_one (ps_ret pe_bl)))))), ?_⟩
    refine ⟨_, rfl, a, ns, rfl, hS, fun t H1 s1 n1 hT1 => ?_⟩
    refine ⟨_, rfl, t, 0, rfl, hT1, by decide, fun r p b xs zs H2 hr2 hp2 pn2 lzs pz pnd lx l1 b0 b1 pt hT2 hK2 => ?_⟩
    have hB2 := (hB.same s1).kp hT1 hK2
    refine ⟨r, _, 1, .ref p, rfl, rfl, .inl (.inl hr2), rfl, ?_⟩
    obtain ⟨c, hT2⟩ := tapC_of hT2
    refine ⟨p, xs, rfl, hp2, pn2.pgp, by omega, fun bk yb l ks4 H4 s4 nk4 h4 n4 o4 m4 pk4 l4 => ?_⟩
    have pb4 := book_pn pn2 nk4 h4 n4 o4 m4 pk4 l4
    have hT4 := hT2.same s4
    have hB4 := hB2.same s4
    have al4 : ∀ x ∈ yb, pageB H4 x = true := fun x hx => by
      obtain ⟨k, nx, _, o⟩ := pb4 x hx
      exact unx_page nx o.2
    have px4 : ∀ x ∈ yb, Pgx H4 x := fun x hx => by
      obtain ⟨k, nx, p, _⟩ := pb4 x hx
      exact pgx_of nx p
    have bd4 : Bkd H4 (.ref bk) := bkd_tup h4 (by omega) fun z hz => (px4 z hz).pgd
    have bi4 : BookIs H4 (.ref bk) true := by
      rw [← ord_b o4]
      exact .good h4 n4 (fun k hk => pk4 k ((m4 k).mp hk)) al4
    refine ⟨_, rfl, .ref bk, true, rfl, bd4, bi4, hB4, fun H5 g5 => ?_⟩
    refine ⟨_, rfl, True.intro, rfl, _, rfl, iteNS rfl ?_⟩
    have h5 := g5.tup h4
    have px5 : ∀ x ∈ yb, Pgx H5 x := fun x hx => (px4 x hx).at (Kn.gk g5).tups
    have hT5 := hT4.kn (Kn.gk g5)
    clear al4 px4 bd4 bi4 pb4 nk4 n4 o4 m4 pk4
    refine ⟨6, rfl, by decide, by decide, ?_⟩
    refine for_range (lo := 0) (n := 6) (fun i σ Hx => (∃ y3 y4, σ = [some (.ref a), some (.ref t), some (.ref bk), y3, y4]) ∧ TapC Hx t c (700 + 4 * i) ∧ Tbs (tbs T) Hx ∧ Hx bk = some (.tup yb) ∧ ∀ x ∈ yb, Pgx Hx x) ⟨⟨_, _, rfl⟩, hT5.mono (by omega), g5.2, h5, px5⟩ ?_ ?_
    · clear h5 px5 hT5 g5
      rintro i σ Hx hi ⟨⟨y3, y4, rfl⟩, hTx, hBx, hbx, pxx⟩
      have bt : bk ≠ t := fun z => by
        obtain ⟨_, _, _, _, e, _⟩ := hTx
        rw [z, e] at hbx; cases hbx
      refine ⟨_, rfl, _, rfl, t, bk, c, _, yb, rfl, hTx, by omega, hbx, by omega, pxx, fun v H6 bd6 hT6 hK6 => ?_⟩
      have hB6 := hBx.kp hTx.tap hK6
      have tk6 := Tups.kpc hTx hK6
      obtain ⟨b6, bi6⟩ := book_is bd6
      refine ⟨_, rfl, v, b6, rfl, bd6, bi6, hB6, fun H7 g7 => ?_⟩
      refine ⟨_, rfl, True.intro, _, rfl, v, b6, rfl, bd6.kn (Kn.gk g7), bi6.kn bd6 (Kn.gk g7), fun H8 s8 => ?_⟩
      refine ⟨_, rfl, True.intro, rfl, _, rfl, iteNS rfl ?_⟩
      have k8 : Kn H6 H8 := (Kn.gk g7).trans (.same s8)
      exact ⟨⟨_, _, rfl⟩, (hT6.kn k8).mono (by omega), g7.2.same s8, k8.tups _ _ (hK6 _ _ bt hbx), fun x hx => ((pxx x hx).at tk6).at k8.tups⟩
    · rintro σ Hx ⟨⟨y3, y4, rfl⟩, _⟩
      exact q _
end
theorem all_mk {l : PySem.W.OpenLaw} {w : World} {K : PySem.W.Frag} {h : Heap} {mg : Str → Option Value} {fa : Addr} {q : Program} (X : K.In h) (G : h.Ns mainGlobals mg) (hfa : mg "law" = some (.ref fa)) (tabs : GE.TabsIn q K h)
    {f1 : Addr} {od1 an1 : Option Addr} {sl1 : Array (Option Value)} {oc1 kV1 dc1 pm1 cd1 ct1 : Value}
    {f2 : Addr} {od2 an2 : Option Addr} {sl2 : Array (Option Value)} {oc2 kV2 dc2 pm2 cd2 ct2 : Value}
    {f3 : Addr} {od3 an3 : Option Addr} {sl3 : Array (Option Value)} {oc3 kV3 dc3 pm3 cd3 ct3 : Value}
    {q3 P3 : Addr} {ge3 : Value} {gd3 : Option Addr} {gv3 : Array Value} {gs3 : Array (Option Value)}
    {f4 : Addr} {od4 an4 : Option Addr} {sl4 : Array (Option Value)} {oc4 kV4 dc4 pm4 cd4 ct4 : Value}
    {f5 : Addr} {od5 an5 : Option Addr} {sl5 : Array (Option Value)} {oc5 kV5 dc5 pm5 cd5 ct5 : Value}
    {q5 P5 : Addr} {ge5 : Value} {gd5 : Option Addr} {gv5 : Array Value} {gs5 : Array (Option Value)}
    {f6 : Addr} {od6 an6 : Option Addr} {sl6 : Array (Option Value)} {oc6 kV6 dc6 pm6 cd6 ct6 : Value}
    {q6 P6 : Addr} {ge6 : Value} {gd6 : Option Addr} {gv6 : Array Value} {gs6 : Array (Option Value)}
    {f7 : Addr} {od7 an7 : Option Addr} {sl7 : Array (Option Value)} {oc7 kV7 dc7 pm7 cd7 ct7 : Value}
    {f8 : Addr} {od8 an8 : Option Addr} {sl8 : Array (Option Value)} {oc8 kV8 dc8 pm8 cd8 ct8 : Value}
    {q8 P8 : Addr} {ge8 : Value} {gd8 : Option Addr} {gv8 : Array Value} {gs8 : Array (Option Value)}
    {f9 : Addr} {od9 an9 : Option Addr} {sl9 : Array (Option Value)} {oc9 kV9 dc9 pm9 cd9 ct9 : Value}
    {f10 : Addr} {od10 an10 : Option Addr} {sl10 : Array (Option Value)} {oc10 kV10 dc10 pm10 cd10 ct10 : Value}
    {f11 : Addr} {od11 an11 : Option Addr} {sl11 : Array (Option Value)} {oc11 kV11 dc11 pm11 cd11 ct11 : Value}
    {f12 : Addr} {od12 an12 : Option Addr} {sl12 : Array (Option Value)} {oc12 kV12 dc12 pm12 cd12 ct12 : Value}
    {q12 P12 : Addr} {ge12 : Value} {gd12 : Option Addr} {gv12 : Array Value} {gs12 : Array (Option Value)}
    {f13 : Addr} {od13 an13 : Option Addr} {sl13 : Array (Option Value)} {oc13 kV13 dc13 pm13 cd13 ct13 : Value}
    {f14 : Addr} {od14 an14 : Option Addr} {sl14 : Array (Option Value)} {oc14 kV14 dc14 pm14 cd14 ct14 : Value}
    {f15 : Addr} {od15 an15 : Option Addr} {sl15 : Array (Option Value)} {oc15 kV15 dc15 pm15 cd15 ct15 : Value}
    {q15 P15 : Addr} {ge15 : Value} {gd15 : Option Addr} {gv15 : Array Value} {gs15 : Array (Option Value)}
    {f16 : Addr} {od16 an16 : Option Addr} {sl16 : Array (Option Value)} {oc16 kV16 dc16 pm16 cd16 ct16 : Value}
    {f17 : Addr} {od17 an17 : Option Addr} {sl17 : Array (Option Value)} {oc17 kV17 dc17 pm17 cd17 ct17 : Value}
    {f18 : Addr} {od18 an18 : Option Addr} {sl18 : Array (Option Value)} {oc18 kV18 dc18 pm18 cd18 ct18 : Value}
    {f19 : Addr} {od19 an19 : Option Addr} {sl19 : Array (Option Value)} {oc19 kV19 dc19 pm19 cd19 ct19 : Value}
    {f20 : Addr} {od20 an20 : Option Addr} {sl20 : Array (Option Value)} {oc20 kV20 dc20 pm20 cd20 ct20 : Value}
    {f21 : Addr} {od21 an21 : Option Addr} {sl21 : Array (Option Value)} {oc21 kV21 dc21 pm21 cd21 ct21 : Value}
    {f22 : Addr} {od22 an22 : Option Addr} {sl22 : Array (Option Value)} {oc22 kV22 dc22 pm22 cd22 ct22 : Value}
    {f23 : Addr} {od23 an23 : Option Addr} {sl23 : Array (Option Value)} {oc23 kV23 dc23 pm23 cd23 ct23 : Value}
    {f24 : Addr} {od24 an24 : Option Addr} {sl24 : Array (Option Value)} {oc24 kV24 dc24 pm24 cd24 ct24 : Value}
    {f25 : Addr} {od25 an25 : Option Addr} {sl25 : Array (Option Value)} {oc25 kV25 dc25 pm25 cd25 ct25 : Value}
    {f26 : Addr} {od26 an26 : Option Addr} {sl26 : Array (Option Value)} {oc26 kV26 dc26 pm26 cd26 ct26 : Value}
    {f27 : Addr} {od27 an27 : Option Addr} {sl27 : Array (Option Value)} {oc27 kV27 dc27 pm27 cd27 ct27 : Value}
    {f28 : Addr} {od28 an28 : Option Addr} {sl28 : Array (Option Value)} {oc28 kV28 dc28 pm28 cd28 ct28 : Value}
    {f29 : Addr} {od29 an29 : Option Addr} {sl29 : Array (Option Value)} {oc29 kV29 dc29 pm29 cd29 ct29 : Value}
    {f30 : Addr} {od30 an30 : Option Addr} {sl30 : Array (Option Value)} {oc30 kV30 dc30 pm30 cd30 ct30 : Value}
    {f31 : Addr} {od31 an31 : Option Addr} {sl31 : Array (Option Value)} {oc31 kV31 dc31 pm31 cd31 ct31 : Value}
    {tk1 : Tok}
    {tk2 : Tok}
    {tk3 : Tok}
    {av4 : Addr}
    {we4 : Value} {wd4 : Option Addr} {wi4 : Array Value} {wn4 : Nat} {ws4 : Array (Option Value)}
    {av5 : Addr}
    {es5 : Array DictEntry} {en5 : Nat}
    {r5_0 : Addr} {we5_0 : Value} {wd5_0 : Option Addr} {wi5_0 : Array Value} {wn5_0 : Nat} {ws5_0 : Array (Option Value)}
    {r5_1 : Addr} {we5_1 : Value} {wd5_1 : Option Addr} {wi5_1 : Array Value} {wn5_1 : Nat} {ws5_1 : Array (Option Value)}
    {r5_2 : Addr} {we5_2 : Value} {wd5_2 : Option Addr} {wi5_2 : Array Value} {wn5_2 : Nat} {ws5_2 : Array (Option Value)}
    {r5_3 : Addr} {we5_3 : Value} {wd5_3 : Option Addr} {wi5_3 : Array Value} {wn5_3 : Nat} {ws5_3 : Array (Option Value)}
    {r5_4 : Addr} {we5_4 : Value} {wd5_4 : Option Addr} {wi5_4 : Array Value} {wn5_4 : Nat} {ws5_4 : Array (Option Value)}
    {r5_5 : Addr} {we5_5 : Value} {wd5_5 : Option Addr} {wi5_5 : Array Value} {wn5_5 : Nat} {ws5_5 : Array (Option Value)}
    {r5_6 : Addr} {we5_6 : Value} {wd5_6 : Option Addr} {wi5_6 : Array Value} {wn5_6 : Nat} {ws5_6 : Array (Option Value)}
    {r5_7 : Addr} {we5_7 : Value} {wd5_7 : Option Addr} {wi5_7 : Array Value} {wn5_7 : Nat} {ws5_7 : Array (Option Value)}
    {tk6 : Tok}
    {d3 : DefRec}
    {d5 : DefRec}
    {d6 : DefRec}
    {d8 : DefRec}
    {d12 : DefRec}
    {d15 : DefRec}
    (a1 : PySem.W.nsIn K mainGlobals "is_number" = some (some (.ref f1))) (l1 : K.lookup f1 = some ⟨oc1, od1, .func (PySem.W.fnOf "is_number" "is_number" (defArgs s_is_number) (defBody s_is_number) (defScope s_is_number) .none kV1 dc1 pm1 an1 cd1 ct1), sl1⟩) (c1 : PySem.W.codeIn K cd1 "is_number" = true) (k1 : PySem.W.keepIn K (.ref f1) = true)
    (a2 : PySem.W.nsIn K mainGlobals "is_number_within" = some (some (.ref f2))) (l2 : K.lookup f2 = some ⟨oc2, od2, .func (PySem.W.fnOf "is_number_within" "is_number_within" (defArgs s_is_number_within) (defBody s_is_number_within) (defScope s_is_number_within) .none kV2 dc2 pm2 an2 cd2 ct2), sl2⟩) (c2 : PySem.W.codeIn K cd2 "is_number_within" = true) (k2 : PySem.W.keepIn K (.ref f2) = true)
    (a3 : PySem.W.nsIn K mainGlobals "is_rising" = some (some (.ref f3))) (l3 : K.lookup f3 = some ⟨oc3, od3, .func (PySem.W.fnOf "is_rising" "is_rising" (defArgs s_is_rising) (defBody s_is_rising) (defScope s_is_rising) .none kV3 dc3 pm3 an3 cd3 ct3), sl3⟩) (c3 : PySem.W.codeIn K cd3 "is_rising" = true) (k3 : PySem.W.keepIn K (.ref f3) = true)
    (e3 : cd3 = .ref q3) (u3 : K.lookup q3 = some ⟨ge3, gd3, .fields gv3, gs3⟩) (v3t : gv3[11]? = some (.ref P3)) (n3 : K.lookup P3 = none)
    (a4 : PySem.W.nsIn K mainGlobals "is_day" = some (some (.ref f4))) (l4 : K.lookup f4 = some ⟨oc4, od4, .func (PySem.W.fnOf "is_day" "is_day" (defArgs s_is_day) (defBody s_is_day) (defScope s_is_day) .none kV4 dc4 pm4 an4 cd4 ct4), sl4⟩) (c4 : PySem.W.codeIn K cd4 "is_day" = true) (k4 : PySem.W.keepIn K (.ref f4) = true)
    (a5 : PySem.W.nsIn K mainGlobals "is_home" = some (some (.ref f5))) (l5 : K.lookup f5 = some ⟨oc5, od5, .func (PySem.W.fnOf "is_home" "is_home" (defArgs s_is_home) (defBody s_is_home) (defScope s_is_home) .none kV5 dc5 pm5 an5 cd5 ct5), sl5⟩) (c5 : PySem.W.codeIn K cd5 "is_home" = true) (k5 : PySem.W.keepIn K (.ref f5) = true)
    (e5 : cd5 = .ref q5) (u5 : K.lookup q5 = some ⟨ge5, gd5, .fields gv5, gs5⟩) (v5t : gv5[11]? = some (.ref P5)) (n5 : K.lookup P5 = none)
    (a6 : PySem.W.nsIn K mainGlobals "is_name" = some (some (.ref f6))) (l6 : K.lookup f6 = some ⟨oc6, od6, .func (PySem.W.fnOf "is_name" "is_name" (defArgs s_is_name) (defBody s_is_name) (defScope s_is_name) .none kV6 dc6 pm6 an6 cd6 ct6), sl6⟩) (c6 : PySem.W.codeIn K cd6 "is_name" = true) (k6 : PySem.W.keepIn K (.ref f6) = true)
    (e6 : cd6 = .ref q6) (u6 : K.lookup q6 = some ⟨ge6, gd6, .fields gv6, gs6⟩) (v6t : gv6[11]? = some (.ref P6)) (n6 : K.lookup P6 = none)
    (a7 : PySem.W.nsIn K mainGlobals "fits" = some (some (.ref f7))) (l7 : K.lookup f7 = some ⟨oc7, od7, .func (PySem.W.fnOf "fits" "fits" (defArgs s_fits) (defBody s_fits) (defScope s_fits) .none kV7 dc7 pm7 an7 cd7 ct7), sl7⟩) (c7 : PySem.W.codeIn K cd7 "fits" = true) (k7 : PySem.W.keepIn K (.ref f7) = true)
    (a8 : PySem.W.nsIn K mainGlobals "has_form" = some (some (.ref f8))) (l8 : K.lookup f8 = some ⟨oc8, od8, .func (PySem.W.fnOf "has_form" "has_form" (defArgs s_has_form) (defBody s_has_form) (defScope s_has_form) .none kV8 dc8 pm8 an8 cd8 ct8), sl8⟩) (c8 : PySem.W.codeIn K cd8 "has_form" = true) (k8 : PySem.W.keepIn K (.ref f8) = true)
    (e8 : cd8 = .ref q8) (u8 : K.lookup q8 = some ⟨ge8, gd8, .fields gv8, gs8⟩) (v8t : gv8[11]? = some (.ref P8)) (n8 : K.lookup P8 = none)
    (a9 : PySem.W.nsIn K mainGlobals "is_page" = some (some (.ref f9))) (l9 : K.lookup f9 = some ⟨oc9, od9, .func (PySem.W.fnOf "is_page" "is_page" (defArgs s_is_page) (defBody s_is_page) (defScope s_is_page) .none kV9 dc9 pm9 an9 cd9 ct9), sl9⟩) (c9 : PySem.W.codeIn K cd9 "is_page" = true) (k9 : PySem.W.keepIn K (.ref f9) = true)
    (a10 : PySem.W.nsIn K mainGlobals "page_day" = some (some (.ref f10))) (l10 : K.lookup f10 = some ⟨oc10, od10, .func (PySem.W.fnOf "page_day" "page_day" (defArgs s_page_day) (defBody s_page_day) (defScope s_page_day) .none kV10 dc10 pm10 an10 cd10 ct10), sl10⟩) (c10 : PySem.W.codeIn K cd10 "page_day" = true) (k10 : PySem.W.keepIn K (.ref f10) = true)
    (a11 : PySem.W.nsIn K mainGlobals "page_kind" = some (some (.ref f11))) (l11 : K.lookup f11 = some ⟨oc11, od11, .func (PySem.W.fnOf "page_kind" "page_kind" (defArgs s_page_kind) (defBody s_page_kind) (defScope s_page_kind) .none kV11 dc11 pm11 an11 cd11 ct11), sl11⟩) (c11 : PySem.W.codeIn K cd11 "page_kind" = true) (k11 : PySem.W.keepIn K (.ref f11) = true)
    (a12 : PySem.W.nsIn K mainGlobals "names_of" = some (some (.ref f12))) (l12 : K.lookup f12 = some ⟨oc12, od12, .func (PySem.W.fnOf "names_of" "names_of" (defArgs s_names_of) (defBody s_names_of) (defScope s_names_of) .none kV12 dc12 pm12 an12 cd12 ct12), sl12⟩) (c12 : PySem.W.codeIn K cd12 "names_of" = true) (k12 : PySem.W.keepIn K (.ref f12) = true)
    (e12 : cd12 = .ref q12) (u12 : K.lookup q12 = some ⟨ge12, gd12, .fields gv12, gs12⟩) (v12t : gv12[11]? = some (.ref P12)) (n12 : K.lookup P12 = none)
    (a13 : PySem.W.nsIn K mainGlobals "page_place" = some (some (.ref f13))) (l13 : K.lookup f13 = some ⟨oc13, od13, .func (PySem.W.fnOf "page_place" "page_place" (defArgs s_page_place) (defBody s_page_place) (defScope s_page_place) .none kV13 dc13 pm13 an13 cd13 ct13), sl13⟩) (c13 : PySem.W.codeIn K cd13 "page_place" = true) (k13 : PySem.W.keepIn K (.ref f13) = true)
    (a14 : PySem.W.nsIn K mainGlobals "stands_ahead" = some (some (.ref f14))) (l14 : K.lookup f14 = some ⟨oc14, od14, .func (PySem.W.fnOf "stands_ahead" "stands_ahead" (defArgs s_stands_ahead) (defBody s_stands_ahead) (defScope s_stands_ahead) .none kV14 dc14 pm14 an14 cd14 ct14), sl14⟩) (c14 : PySem.W.codeIn K cd14 "stands_ahead" = true) (k14 : PySem.W.keepIn K (.ref f14) = true)
    (a15 : PySem.W.nsIn K mainGlobals "is_book" = some (some (.ref f15))) (l15 : K.lookup f15 = some ⟨oc15, od15, .func (PySem.W.fnOf "is_book" "is_book" (defArgs s_is_book) (defBody s_is_book) (defScope s_is_book) .none kV15 dc15 pm15 an15 cd15 ct15), sl15⟩) (c15 : PySem.W.codeIn K cd15 "is_book" = true) (k15 : PySem.W.keepIn K (.ref f15) = true)
    (e15 : cd15 = .ref q15) (u15 : K.lookup q15 = some ⟨ge15, gd15, .fields gv15, gs15⟩) (v15t : gv15[11]? = some (.ref P15)) (n15 : K.lookup P15 = none)
    (a16 : PySem.W.nsIn K mainGlobals "_law_tap" = some (some (.ref f16))) (l16 : K.lookup f16 = some ⟨oc16, od16, .func (PySem.W.fnOf "_law_tap" "_law_tap" (defArgs s_w_tap) (defBody s_w_tap) (defScope s_w_tap) .none kV16 dc16 pm16 an16 cd16 ct16), sl16⟩) (c16 : PySem.W.codeIn K cd16 "_law_tap" = true) (k16 : PySem.W.keepIn K (.ref f16) = true)
    (a17 : PySem.W.nsIn K mainGlobals "_law_take" = some (some (.ref f17))) (l17 : K.lookup f17 = some ⟨oc17, od17, .func (PySem.W.fnOf "_law_take" "_law_take" (defArgs s_w_take) (defBody s_w_take) (defScope s_w_take) .none kV17 dc17 pm17 an17 cd17 ct17), sl17⟩) (c17 : PySem.W.codeIn K cd17 "_law_take" = true) (k17 : PySem.W.keepIn K (.ref f17) = true)
    (a18 : PySem.W.nsIn K mainGlobals "_law_home" = some (some (.ref f18))) (l18 : K.lookup f18 = some ⟨oc18, od18, .func (PySem.W.fnOf "_law_home" "_law_home" (defArgs s_w_home) (defBody s_w_home) (defScope s_w_home) .none kV18 dc18 pm18 an18 cd18 ct18), sl18⟩) (c18 : PySem.W.codeIn K cd18 "_law_home" = true) (k18 : PySem.W.keepIn K (.ref f18) = true)
    (a19 : PySem.W.nsIn K mainGlobals "_law_names" = some (some (.ref f19))) (l19 : K.lookup f19 = some ⟨oc19, od19, .func (PySem.W.fnOf "_law_names" "_law_names" (defArgs s_w_names) (defBody s_w_names) (defScope s_w_names) .none kV19 dc19 pm19 an19 cd19 ct19), sl19⟩) (c19 : PySem.W.codeIn K cd19 "_law_names" = true) (k19 : PySem.W.keepIn K (.ref f19) = true)
    (a20 : PySem.W.nsIn K mainGlobals "_law_page" = some (some (.ref f20))) (l20 : K.lookup f20 = some ⟨oc20, od20, .func (PySem.W.fnOf "_law_page" "_law_page" (defArgs s_w_page) (defBody s_w_page) (defScope s_w_page) .none kV20 dc20 pm20 an20 cd20 ct20), sl20⟩) (c20 : PySem.W.codeIn K cd20 "_law_page" = true) (k20 : PySem.W.keepIn K (.ref f20) = true)
    (a21 : PySem.W.nsIn K mainGlobals "_law_base" = some (some (.ref f21))) (l21 : K.lookup f21 = some ⟨oc21, od21, .func (PySem.W.fnOf "_law_base" "_law_base" (defArgs s_w_base) (defBody s_w_base) (defScope s_w_base) .none kV21 dc21 pm21 an21 cd21 ct21), sl21⟩) (c21 : PySem.W.codeIn K cd21 "_law_base" = true) (k21 : PySem.W.keepIn K (.ref f21) = true)
    (a22 : PySem.W.nsIn K mainGlobals "_law_story" = some (some (.ref f22))) (l22 : K.lookup f22 = some ⟨oc22, od22, .func (PySem.W.fnOf "_law_story" "_law_story" (defArgs s_w_story) (defBody s_w_story) (defScope s_w_story) .none kV22 dc22 pm22 an22 cd22 ct22), sl22⟩) (c22 : PySem.W.codeIn K cd22 "_law_story" = true) (k22 : PySem.W.keepIn K (.ref f22) = true)
    (a23 : PySem.W.nsIn K mainGlobals "_law_rank" = some (some (.ref f23))) (l23 : K.lookup f23 = some ⟨oc23, od23, .func (PySem.W.fnOf "_law_rank" "_law_rank" (defArgs s_w_rank) (defBody s_w_rank) (defScope s_w_rank) .none kV23 dc23 pm23 an23 cd23 ct23), sl23⟩) (c23 : PySem.W.codeIn K cd23 "_law_rank" = true) (k23 : PySem.W.keepIn K (.ref f23) = true)
    (a24 : PySem.W.nsIn K mainGlobals "_law_book" = some (some (.ref f24))) (l24 : K.lookup f24 = some ⟨oc24, od24, .func (PySem.W.fnOf "_law_book" "_law_book" (defArgs s_w_book) (defBody s_w_book) (defScope s_w_book) .none kV24 dc24 pm24 an24 cd24 ct24), sl24⟩) (c24 : PySem.W.codeIn K cd24 "_law_book" = true) (k24 : PySem.W.keepIn K (.ref f24) = true)
    (a25 : PySem.W.nsIn K mainGlobals "_law_bent" = some (some (.ref f25))) (l25 : K.lookup f25 = some ⟨oc25, od25, .func (PySem.W.fnOf "_law_bent" "_law_bent" (defArgs s_w_bent) (defBody s_w_bent) (defScope s_w_bent) .none kV25 dc25 pm25 an25 cd25 ct25), sl25⟩) (c25 : PySem.W.codeIn K cd25 "_law_bent" = true) (k25 : PySem.W.keepIn K (.ref f25) = true)
    (a26 : PySem.W.nsIn K mainGlobals "_law_is_number" = some (some (.ref f26))) (l26 : K.lookup f26 = some ⟨oc26, od26, .func (PySem.W.fnOf "_law_is_number" "_law_is_number" (defArgs s_w_is_number) (defBody s_w_is_number) (defScope s_w_is_number) .none kV26 dc26 pm26 an26 cd26 ct26), sl26⟩) (c26 : PySem.W.codeIn K cd26 "_law_is_number" = true) (k26 : PySem.W.keepIn K (.ref f26) = true)
    (a27 : PySem.W.nsIn K mainGlobals "_law_is_name" = some (some (.ref f27))) (l27 : K.lookup f27 = some ⟨oc27, od27, .func (PySem.W.fnOf "_law_is_name" "_law_is_name" (defArgs s_w_is_name) (defBody s_w_is_name) (defScope s_w_is_name) .none kV27 dc27 pm27 an27 cd27 ct27), sl27⟩) (c27 : PySem.W.codeIn K cd27 "_law_is_name" = true) (k27 : PySem.W.keepIn K (.ref f27) = true)
    (a28 : PySem.W.nsIn K mainGlobals "_law_is_home" = some (some (.ref f28))) (l28 : K.lookup f28 = some ⟨oc28, od28, .func (PySem.W.fnOf "_law_is_home" "_law_is_home" (defArgs s_w_is_home) (defBody s_w_is_home) (defScope s_w_is_home) .none kV28 dc28 pm28 an28 cd28 ct28), sl28⟩) (c28 : PySem.W.codeIn K cd28 "_law_is_home" = true) (k28 : PySem.W.keepIn K (.ref f28) = true)
    (a29 : PySem.W.nsIn K mainGlobals "_law_is_page" = some (some (.ref f29))) (l29 : K.lookup f29 = some ⟨oc29, od29, .func (PySem.W.fnOf "_law_is_page" "_law_is_page" (defArgs s_w_is_page) (defBody s_w_is_page) (defScope s_w_is_page) .none kV29 dc29 pm29 an29 cd29 ct29), sl29⟩) (c29 : PySem.W.codeIn K cd29 "_law_is_page" = true) (k29 : PySem.W.keepIn K (.ref f29) = true)
    (a30 : PySem.W.nsIn K mainGlobals "_law_is_book" = some (some (.ref f30))) (l30 : K.lookup f30 = some ⟨oc30, od30, .func (PySem.W.fnOf "_law_is_book" "_law_is_book" (defArgs s_w_is_book) (defBody s_w_is_book) (defScope s_w_is_book) .none kV30 dc30 pm30 an30 cd30 ct30), sl30⟩) (c30 : PySem.W.codeIn K cd30 "_law_is_book" = true) (k30 : PySem.W.keepIn K (.ref f30) = true)
    (a31 : PySem.W.nsIn K mainGlobals "law" = some (some (.ref f31))) (l31 : K.lookup f31 = some ⟨oc31, od31, .func (PySem.W.fnOf "law" "law" (defArgs s_law) (defBody s_law) (defScope s_law) .none kV31 dc31 pm31 an31 cd31 ct31), sl31⟩) (c31 : PySem.W.codeIn K cd31 "law" = true) (k31 : PySem.W.keepIn K (.ref f31) = true)
    (v1 : PySem.W.nsIn K mainGlobals "WEEK" = some (some (.int 7 tk1)))
    (v2 : PySem.W.nsIn K mainGlobals "LAST_DAY" = some (some (.int 9999 tk2)))
    (v3 : PySem.W.nsIn K mainGlobals "LONGEST_NAME" = some (some (.int 8 tk3)))
    (v4 : PySem.W.nsIn K mainGlobals "KINDS" = some (some (.ref av4)))
    (x4 : K.lookup av4 = some ⟨we4, wd4, .seq wi4 wn4, ws4⟩) (y4t : we4 = .type "tuple") (y4z : wi4.size ≤ sizeLine) (y4v : Vals [.str "house", .str "part", .str "join", .str "home", .str "mourn", .str "ahead", .str "card", .str "visit"] wi4.toList) (y4d : wd4 = none)
    (v5 : PySem.W.nsIn K mainGlobals "FORMS" = some (some (.ref av5)))
    (x5 : K.lookup av5 = some ⟨.type "dict", none, .dict es5 en5, #[]⟩) (x5k : PySem.W.KeysLit w.params es5.toList)
    (n5_0d : PySem.W.nsIn K av5 "house" = some (some (.ref r5_0))) (x5_0 : K.lookup r5_0 = some ⟨we5_0, wd5_0, .seq wi5_0 wn5_0, ws5_0⟩) (y5_0t : we5_0 = .type "tuple") (y5_0z : wi5_0.size ≤ sizeLine) (y5_0v : Vals [.str "name", .str "home"] wi5_0.toList)
    (n5_1d : PySem.W.nsIn K av5 "part" = some (some (.ref r5_1))) (x5_1 : K.lookup r5_1 = some ⟨we5_1, wd5_1, .seq wi5_1 wn5_1, ws5_1⟩) (y5_1t : we5_1 = .type "tuple") (y5_1z : wi5_1.size ≤ sizeLine) (y5_1v : Vals [.str "name", .str "name", .str "home"] wi5_1.toList)
    (n5_2d : PySem.W.nsIn K av5 "join" = some (some (.ref r5_2))) (x5_2 : K.lookup r5_2 = some ⟨we5_2, wd5_2, .seq wi5_2 wn5_2, ws5_2⟩) (y5_2t : we5_2 = .type "tuple") (y5_2z : wi5_2.size ≤ sizeLine) (y5_2v : Vals [.str "name", .str "name"] wi5_2.toList)
    (n5_3d : PySem.W.nsIn K av5 "home" = some (some (.ref r5_3))) (x5_3 : K.lookup r5_3 = some ⟨we5_3, wd5_3, .seq wi5_3 wn5_3, ws5_3⟩) (y5_3t : we5_3 = .type "tuple") (y5_3z : wi5_3.size ≤ sizeLine) (y5_3v : Vals [.str "name", .str "home"] wi5_3.toList)
    (n5_4d : PySem.W.nsIn K av5 "mourn" = some (some (.ref r5_4))) (x5_4 : K.lookup r5_4 = some ⟨we5_4, wd5_4, .seq wi5_4 wn5_4, ws5_4⟩) (y5_4t : we5_4 = .type "tuple") (y5_4z : wi5_4.size ≤ sizeLine) (y5_4v : Vals [.str "name", .str "many"] wi5_4.toList)
    (n5_5d : PySem.W.nsIn K av5 "ahead" = some (some (.ref r5_5))) (x5_5 : K.lookup r5_5 = some ⟨we5_5, wd5_5, .seq wi5_5 wn5_5, ws5_5⟩) (y5_5t : we5_5 = .type "tuple") (y5_5z : wi5_5.size ≤ sizeLine) (y5_5v : Vals [.str "name", .str "name"] wi5_5.toList)
    (n5_6d : PySem.W.nsIn K av5 "card" = some (some (.ref r5_6))) (x5_6 : K.lookup r5_6 = some ⟨we5_6, wd5_6, .seq wi5_6 wn5_6, ws5_6⟩) (y5_6t : we5_6 = .type "tuple") (y5_6z : wi5_6.size ≤ sizeLine) (y5_6v : Vals [.str "name", .str "name"] wi5_6.toList)
    (n5_7d : PySem.W.nsIn K av5 "visit" = some (some (.ref r5_7))) (x5_7 : K.lookup r5_7 = some ⟨we5_7, wd5_7, .seq wi5_7 wn5_7, ws5_7⟩) (y5_7t : we5_7 = .type "tuple") (y5_7z : wi5_7.size ≤ sizeLine) (y5_7v : Vals [.str "name", .str "name"] wi5_7.toList)
    (v6 : PySem.W.nsIn K mainGlobals "LONGEST_MOURNING" = some (some (.int 60 tk6)))
    (z1 : PySem.W.nsIn K mainGlobals "all" = some none)
    (z2 : PySem.W.nsIn K mainGlobals "bool" = some none)
    (z3 : PySem.W.nsIn K mainGlobals "int" = some none)
    (z4 : PySem.W.nsIn K mainGlobals "isinstance" = some none)
    (z5 : PySem.W.nsIn K mainGlobals "len" = some none)
    (z6 : PySem.W.nsIn K mainGlobals "list" = some none)
    (z7 : PySem.W.nsIn K mainGlobals "min" = some none)
    (z8 : PySem.W.nsIn K mainGlobals "range" = some none)
    (z9 : PySem.W.nsIn K mainGlobals "repr" = some none)
    (z10 : PySem.W.nsIn K mainGlobals "sorted" = some none)
    (z11 : PySem.W.nsIn K mainGlobals "str" = some none)
    (z12 : PySem.W.nsIn K mainGlobals "tuple" = some none)
    (z13 : PySem.W.nsIn K mainGlobals "zip" = some none)
    (r3 : (recsOf q).find? (fun e => e.name == ("is_rising" : Str)) = some d3)
    (r5 : (recsOf q).find? (fun e => e.name == ("is_home" : Str)) = some d5)
    (r6 : (recsOf q).find? (fun e => e.name == ("is_name" : Str)) = some d6)
    (r8 : (recsOf q).find? (fun e => e.name == ("has_form" : Str)) = some d8)
    (r12 : (recsOf q).find? (fun e => e.name == ("names_of" : Str)) = some d12)
    (r15 : (recsOf q).find? (fun e => e.name == ("is_book" : Str)) = some d15) :
    LamX.LawAtS l w K CX0 11 63 "_law_script" mg fa h := by
  have e := hfa.symm.trans (PySem.W.mg_of X G a31)
  cases e
  have F1 := fun_mk (st := s_is_number) l1 c1 k1
  have F2 := fun_mk (st := s_is_number_within) l2 c2 k2
  have F3 := GE.funC_mk (st := s_is_rising) l3 e3 c3 k3
  have F4 := fun_mk (st := s_is_day) l4 c4 k4
  have F5 := GE.funC_mk (st := s_is_home) l5 e5 c5 k5
  have F6 := GE.funC_mk (st := s_is_name) l6 e6 c6 k6
  have F7 := fun_mk (st := s_fits) l7 c7 k7
  have F8 := GE.funC_mk (st := s_has_form) l8 e8 c8 k8
  have F9 := fun_mk (st := s_is_page) l9 c9 k9
  have F10 := fun_mk (st := s_page_day) l10 c10 k10
  have F11 := fun_mk (st := s_page_kind) l11 c11 k11
  have F12 := GE.funC_mk (st := s_names_of) l12 e12 c12 k12
  have F13 := fun_mk (st := s_page_place) l13 c13 k13
  have F14 := fun_mk (st := s_stands_ahead) l14 c14 k14
  have F15 := GE.funC_mk (st := s_is_book) l15 e15 c15 k15
  have F16 := fun_mk (st := s_w_tap) l16 c16 k16
  have F17 := fun_mk (st := s_w_take) l17 c17 k17
  have F18 := fun_mk (st := s_w_home) l18 c18 k18
  have F19 := fun_mk (st := s_w_names) l19 c19 k19
  have F20 := fun_mk (st := s_w_page) l20 c20 k20
  have F21 := fun_mk (st := s_w_base) l21 c21 k21
  have F22 := fun_mk (st := s_w_story) l22 c22 k22
  have F23 := fun_mk (st := s_w_rank) l23 c23 k23
  have F24 := fun_mk (st := s_w_book) l24 c24 k24
  have F25 := fun_mk (st := s_w_bent) l25 c25 k25
  have F26 := fun_mk (st := s_w_is_number) l26 c26 k26
  have F27 := fun_mk (st := s_w_is_name) l27 c27 k27
  have F28 := fun_mk (st := s_w_is_home) l28 c28 k28
  have F29 := fun_mk (st := s_w_is_page) l29 c29 k29
  have F30 := fun_mk (st := s_w_is_book) l30 c30 k30
  have F31 := fun_mk (st := s_law) l31 c31 k31
  let T : Tx K mg w := { f_is_number := f1, d_is_number := _, F_is_number := F1, g_is_number := PySem.W.mg_of X G a1, b_is_number := (F1.binds fun _ _ _ _ _ _ us hl => match us, hl with | [_], _ => rfl), f_is_number_within := f2, d_is_number_within := _, F_is_number_within := F2, g_is_number_within := PySem.W.mg_of X G a2, b_is_number_within := (F2.binds fun _ _ _ _ _ _ us hl => match us, hl with | [_, _, _], _ => rfl), k_is_rising := q3, P_is_rising := P3, f_is_rising := f3, d_is_rising := _, F_is_rising := F3, g_is_rising := PySem.W.mg_of X G a3, b_is_rising := (F3.toFun.binds fun _ _ _ _ _ _ us hl => match us, hl with | [_], _ => rfl), f_is_day := f4, d_is_day := _, F_is_day := F4, g_is_day := PySem.W.mg_of X G a4, b_is_day := (F4.binds fun _ _ _ _ _ _ us hl => match us, hl with | [_], _ => rfl), k_is_home := q5, P_is_home := P5, f_is_home := f5, d_is_home := _, F_is_home := F5, g_is_home := PySem.W.mg_of X G a5, b_is_home := (F5.toFun.binds fun _ _ _ _ _ _ us hl => match us, hl with | [_], _ => rfl), k_is_name := q6, P_is_name := P6, f_is_name := f6, d_is_name := _, F_is_name := F6, g_is_name := PySem.W.mg_of X G a6, b_is_name := (F6.toFun.binds fun _ _ _ _ _ _ us hl => match us, hl with | [_], _ => rfl), f_fits := f7, d_fits := _, F_fits := F7, g_fits := PySem.W.mg_of X G a7, b_fits := (F7.binds fun _ _ _ _ _ _ us hl => match us, hl with | [_, _], _ => rfl), k_has_form := q8, P_has_form := P8, f_has_form := f8, d_has_form := _, F_has_form := F8, g_has_form := PySem.W.mg_of X G a8, b_has_form := (F8.toFun.binds fun _ _ _ _ _ _ us hl => match us, hl with | [_], _ => rfl), f_is_page := f9, d_is_page := _, F_is_page := F9, g_is_page := PySem.W.mg_of X G a9, b_is_page := (F9.binds fun _ _ _ _ _ _ us hl => match us, hl with | [_], _ => rfl), f_page_day := f10, d_page_day := _, F_page_day := F10, g_page_day := PySem.W.mg_of X G a10, b_page_day := (F10.binds fun _ _ _ _ _ _ us hl => match us, hl with | [_], _ => rfl), f_page_kind := f11, d_page_kind := _, F_page_kind := F11, g_page_kind := PySem.W.mg_of X G a11, b_page_kind := (F11.binds fun _ _ _ _ _ _ us hl => match us, hl with | [_], _ => rfl), k_names_of := q12, P_names_of := P12, f_names_of := f12, d_names_of := _, F_names_of := F12, g_names_of := PySem.W.mg_of X G a12, b_names_of := (F12.toFun.binds fun _ _ _ _ _ _ us hl => match us, hl with | [_], _ => rfl), f_page_place := f13, d_page_place := _, F_page_place := F13, g_page_place := PySem.W.mg_of X G a13, b_page_place := (F13.binds fun _ _ _ _ _ _ us hl => match us, hl with | [_], _ => rfl), f_stands_ahead := f14, d_stands_ahead := _, F_stands_ahead := F14, g_stands_ahead := PySem.W.mg_of X G a14, b_stands_ahead := (F14.binds fun _ _ _ _ _ _ us hl => match us, hl with | [_, _], _ => rfl), k_is_book := q15, P_is_book := P15, f_is_book := f15, d_is_book := _, F_is_book := F15, g_is_book := PySem.W.mg_of X G a15, b_is_book := (F15.toFun.binds fun _ _ _ _ _ _ us hl => match us, hl with | [_], _ => rfl), f_w_tap := f16, d_w_tap := _, F_w_tap := F16, g_w_tap := PySem.W.mg_of X G a16, b_w_tap := (F16.binds fun _ _ _ _ _ _ us hl => match us, hl with | [_], _ => rfl), f_w_take := f17, d_w_take := _, F_w_take := F17, g_w_take := PySem.W.mg_of X G a17, b_w_take := (F17.binds fun _ _ _ _ _ _ us hl => match us, hl with | [_, _], _ => rfl), f_w_home := f18, d_w_home := _, F_w_home := F18, g_w_home := PySem.W.mg_of X G a18, b_w_home := (F18.binds fun _ _ _ _ _ _ us hl => match us, hl with | [_], _ => rfl), f_w_names := f19, d_w_names := _, F_w_names := F19, g_w_names := PySem.W.mg_of X G a19, b_w_names := (F19.binds fun _ _ _ _ _ _ us hl => match us, hl with | [_, _], _ => rfl), f_w_page := f20, d_w_page := _, F_w_page := F20, g_w_page := PySem.W.mg_of X G a20, b_w_page := (F20.binds fun _ _ _ _ _ _ us hl => match us, hl with | [_, _, _], _ => rfl), f_w_base := f21, d_w_base := _, F_w_base := F21, g_w_base := PySem.W.mg_of X G a21, b_w_base := (F21.binds fun _ _ _ _ _ _ us hl => match us, hl with | [_], _ => rfl), f_w_story := f22, d_w_story := _, F_w_story := F22, g_w_story := PySem.W.mg_of X G a22, b_w_story := (F22.binds fun _ _ _ _ _ _ us hl => match us, hl with | [_], _ => rfl), f_w_rank := f23, d_w_rank := _, F_w_rank := F23, g_w_rank := PySem.W.mg_of X G a23, b_w_rank := (F23.binds fun _ _ _ _ _ _ us hl => match us, hl with | [_], _ => rfl), f_w_book := f24, d_w_book := _, F_w_book := F24, g_w_book := PySem.W.mg_of X G a24, b_w_book := (F24.binds fun _ _ _ _ _ _ us hl => match us, hl with | [_], _ => rfl), f_w_bent := f25, d_w_bent := _, F_w_bent := F25, g_w_bent := PySem.W.mg_of X G a25, b_w_bent := (F25.binds fun _ _ _ _ _ _ us hl => match us, hl with | [_, _], _ => rfl), f_w_is_number := f26, d_w_is_number := _, F_w_is_number := F26, g_w_is_number := PySem.W.mg_of X G a26, b_w_is_number := (F26.binds fun _ _ _ _ _ _ us hl => match us, hl with | [_, _, _], _ => rfl), f_w_is_name := f27, d_w_is_name := _, F_w_is_name := F27, g_w_is_name := PySem.W.mg_of X G a27, b_w_is_name := (F27.binds fun _ _ _ _ _ _ us hl => match us, hl with | [_], _ => rfl), f_w_is_home := f28, d_w_is_home := _, F_w_is_home := F28, g_w_is_home := PySem.W.mg_of X G a28, b_w_is_home := (F28.binds fun _ _ _ _ _ _ us hl => match us, hl with | [_], _ => rfl), f_w_is_page := f29, d_w_is_page := _, F_w_is_page := F29, g_w_is_page := PySem.W.mg_of X G a29, b_w_is_page := (F29.binds fun _ _ _ _ _ _ us hl => match us, hl with | [_], _ => rfl), f_w_is_book := f30, d_w_is_book := _, F_w_is_book := F30, g_w_is_book := PySem.W.mg_of X G a30, b_w_is_book := (F30.binds fun _ _ _ _ _ _ us hl => match us, hl with | [_], _ => rfl), f_law := fa, d_law := _, F_law := F31, g_law := PySem.W.mg_of X G a31, b_law := (F31.binds fun _ _ _ _ _ _ us hl => match us, hl with | [_], _ => rfl), t_WEEK := tk1, c_WEEK := PySem.W.mg_of X G v1, t_LAST_DAY := tk2, c_LAST_DAY := PySem.W.mg_of X G v2, t_LONGEST_NAME := tk3, c_LONGEST_NAME := PySem.W.mg_of X G v3, a_KINDS := av4, c_KINDS := PySem.W.mg_of X G v4, w_KINDS := ⟨_, _, _, x4, y4t, rfl, y4z, y4v⟩, wn_KINDS := ⟨_, x4, y4t, y4d⟩, a_FORMS := av5, c_FORMS := PySem.W.mg_of X G v5, w_FORMS_house := ⟨r5_0, ⟨_, _, _, x5, x5k, n5_0d, rfl⟩, ⟨_, _, _, x5_0, y5_0t, rfl, y5_0z, y5_0v⟩⟩, w_FORMS_part := ⟨r5_1, ⟨_, _, _, x5, x5k, n5_1d, rfl⟩, ⟨_, _, _, x5_1, y5_1t, rfl, y5_1z, y5_1v⟩⟩, w_FORMS_join := ⟨r5_2, ⟨_, _, _, x5, x5k, n5_2d, rfl⟩, ⟨_, _, _, x5_2, y5_2t, rfl, y5_2z, y5_2v⟩⟩, w_FORMS_home := ⟨r5_3, ⟨_, _, _, x5, x5k, n5_3d, rfl⟩, ⟨_, _, _, x5_3, y5_3t, rfl, y5_3z, y5_3v⟩⟩, w_FORMS_mourn := ⟨r5_4, ⟨_, _, _, x5, x5k, n5_4d, rfl⟩, ⟨_, _, _, x5_4, y5_4t, rfl, y5_4z, y5_4v⟩⟩, w_FORMS_ahead := ⟨r5_5, ⟨_, _, _, x5, x5k, n5_5d, rfl⟩, ⟨_, _, _, x5_5, y5_5t, rfl, y5_5z, y5_5v⟩⟩, w_FORMS_card := ⟨r5_6, ⟨_, _, _, x5, x5k, n5_6d, rfl⟩, ⟨_, _, _, x5_6, y5_6t, rfl, y5_6z, y5_6v⟩⟩, w_FORMS_visit := ⟨r5_7, ⟨_, _, _, x5, x5k, n5_7d, rfl⟩, ⟨_, _, _, x5_7, y5_7t, rfl, y5_7z, y5_7v⟩⟩, t_LONGEST_MOURNING := tk6, c_LONGEST_MOURNING := PySem.W.mg_of X G v6, m_all := PySem.W.mg_none_of X G z1, m_bool := PySem.W.mg_none_of X G z2, m_int := PySem.W.mg_none_of X G z3, m_isinstance := PySem.W.mg_none_of X G z4, m_len := PySem.W.mg_none_of X G z5, m_list := PySem.W.mg_none_of X G z6, m_min := PySem.W.mg_none_of X G z7, m_range := PySem.W.mg_none_of X G z8, m_repr := PySem.W.mg_none_of X G z9, m_sorted := PySem.W.mg_none_of X G z10, m_str := PySem.W.mg_none_of X G z11, m_tuple := PySem.W.mg_none_of X G z12, m_zip := PySem.W.mg_none_of X G z13 }
  have h3 := tabs "is_rising" _ _ _ r3 (GE.tabIn_of a3 l3 e3 u3 v3t)
  have h5 := tabs "is_home" _ _ _ r5 (GE.tabIn_of a5 l5 e5 u5 v5t)
  have h6 := tabs "is_name" _ _ _ r6 (GE.tabIn_of a6 l6 e6 u6 v6t)
  have h8 := tabs "has_form" _ _ _ r8 (GE.tabIn_of a8 l8 e8 u8 v8t)
  have h12 := tabs "names_of" _ _ _ r12 (GE.tabIn_of a12 l12 e12 u12 v12t)
  have h15 := tabs "is_book" _ _ _ r15 (GE.tabIn_of a15 l15 e15 u15 v15t)
  have B0 : ∀ base : Heap, (∀ p ∈ [(q3, P3), (q5, P5), (q6, P6), (q8, P8), (q12, P12), (q15, P15)], LamX.TabB base mg p.1 p.2) → Tb T base := fun base hb => ⟨GE.tabB (hb (q3, P3) (by simp)), GE.tabB (hb (q5, P5) (by simp)), GE.tabB (hb (q6, P6) (by simp)), GE.tabB (hb (q8, P8) (by simp)), GE.tabB (hb (q12, P12) (by simp)), GE.tabB (hb (q15, P15) (by simp))⟩
  refine ⟨_, [(q3, P3), (q5, P5), (q6, P6), (q8, P8), (q12, P12), (q15, P15)], spLaw T, fun p hp => by
      simp only [List.mem_cons, List.not_mem_nil, or_false] at hp
      rcases hp with rfl | rfl | rfl | rfl | rfl | rfl
      · exact h3.2
      · exact h5.2
      · exact h6.2
      · exact h8.2
      · exact h12.2
      · exact h15.2, fun p hp => by
      simp only [List.mem_cons, List.not_mem_nil, or_false] at hp
      rcases hp with rfl | rfl | rfl | rfl | rfl | rfl
      · exact n3
      · exact n5
      · exact n6
      · exact n8
      · exact n12
      · exact n15, fun p hp => by
      simp only [List.mem_cons, List.not_mem_nil, or_false] at hp
      rcases hp with rfl | rfl | rfl | rfl | rfl | rfl
      · exact h3.1
      · exact h5.1
      · exact h6.1
      · exact h8.1
      · exact h12.1
      · exact h15.1, fun s v => .of_eq rfl, fun H a ns hl _ hH hS => ⟨a, ns, rfl, hS, hl, fun p hp => ⟨#[], ?_, ?_⟩, fun _ => rfl⟩, fun base _ _ hb => ok_law T (B0 base hb)⟩
  · have hp : p ∈ ([(q3, P3), (q5, P5), (q6, P6), (q8, P8), (q12, P12), (q15, P15)]).map (·.2) := hp
    obtain ⟨z, hz, e⟩ := List.mem_map.mp hp
    rw [← e]; exact hH z hz
  · exact True.intro
end L05
open PySem PySem.W PyProof.Rows
set_option maxHeartbeats 0 in
theorem PySem.Challenge.cw_cardsback_k05_books_by_kind_holds : PySem.Challenge.rw_cardsback_k05_books_by_kind.Holds := by
  w_on; o_law; k_head; (case hw => w_witness2)
  k_fill
  refine GE.walk_tabs (l := PySem.Challenge.rw_cardsback_k05_books_by_kind) (n := 63) (k := 11) (x := "_law_script") (CX := fun _ => L2.CX0) rfl (by decide) rfl ⟨rfl, by decide, by decide⟩ (fun w h Y => PySem.W.kIn_of Y) ?F (fun _ _ _ _ _ h => h)
  case F =>
    intro w mg fa h KX G hmg tabs
    refine' L05.all_mk KX G hmg tabs ?a1 ?l1 ?c1 ?k1 ?a2 ?l2 ?c2 ?k2 ?a3 ?l3 ?c3 ?k3 ?e3 ?u3 ?v3t ?n3 ?a4 ?l4 ?c4 ?k4 ?a5 ?l5 ?c5 ?k5 ?e5 ?u5 ?v5t ?n5 ?a6 ?l6 ?c6 ?k6 ?e6 ?u6 ?v6t ?n6 ?a7 ?l7 ?c7 ?k7 ?a8 ?l8 ?c8 ?k8 ?e8 ?u8 ?v8t ?n8 ?a9 ?l9 ?c9 ?k9 ?a10 ?l10 ?c10 ?k10 ?a11 ?l11 ?c11 ?k11 ?a12 ?l12 ?c12 ?k12 ?e12 ?u12 ?v12t ?n12 ?a13 ?l13 ?c13 ?k13 ?a14 ?l14 ?c14 ?k14 ?a15 ?l15 ?c15 ?k15 ?e15 ?u15 ?v15t ?n15 ?a16 ?l16 ?c16 ?k16 ?a17 ?l17 ?c17 ?k17 ?a18 ?l18 ?c18 ?k18 ?a19 ?l19 ?c19 ?k19 ?a20 ?l20 ?c20 ?k20 ?a21 ?l21 ?c21 ?k21 ?a22 ?l22 ?c22 ?k22 ?a23 ?l23 ?c23 ?k23 ?a24 ?l24 ?c24 ?k24 ?a25 ?l25 ?c25 ?k25 ?a26 ?l26 ?c26 ?k26 ?a27 ?l27 ?c27 ?k27 ?a28 ?l28 ?c28 ?k28 ?a29 ?l29 ?c29 ?k29 ?a30 ?l30 ?c30 ?k30 ?a31 ?l31 ?c31 ?k31 ?v1 ?v2 ?v3 ?v4 ?x4 ?y4t ?y4z ?y4v ?y4d ?v5 ?x5 ?x5k ?n5_0d ?x5_0 ?y5_0t ?y5_0z ?y5_0v ?n5_1d ?x5_1 ?y5_1t ?y5_1z ?y5_1v ?n5_2d ?x5_2 ?y5_2t ?y5_2z ?y5_2v ?n5_3d ?x5_3 ?y5_3t ?y5_3z ?y5_3v ?n5_4d ?x5_4 ?y5_4t ?y5_4z ?y5_4v ?n5_5d ?x5_5 ?y5_5t ?y5_5z ?y5_5v ?n5_6d ?x5_6 ?y5_6t ?y5_6z ?y5_6v ?n5_7d ?x5_7 ?y5_7t ?y5_7z ?y5_7v ?v6 ?z1 ?z2 ?z3 ?z4 ?z5 ?z6 ?z7 ?z8 ?z9 ?z10 ?z11 ?z12 ?z13 ?r3 ?r5 ?r6 ?r8 ?r12 ?r15
    (case a1 => k_is); (case l1 => k_is); (case c1 => k_is); (case k1 => k_is); (case a2 => k_is); (case l2 => k_is); (case c2 => k_is); (case k2 => k_is); (case a3 => k_is); (case l3 => k_is); (case c3 => k_is); (case k3 => k_is); (case e3 => rfl); (case u3 => k_is); (case v3t => rfl); (case n3 => first | kernel_rfl | rfl | with_unfolding_all rfl); (case a4 => k_is); (case l4 => k_is); (case c4 => k_is); (case k4 => k_is); (case a5 => k_is); (case l5 => k_is); (case c5 => k_is); (case k5 => k_is); (case e5 => rfl); (case u5 => k_is); (case v5t => rfl); (case n5 => first | kernel_rfl | rfl | with_unfolding_all rfl); (case a6 => k_is); (case l6 => k_is); (case c6 => k_is); (case k6 => k_is); (case e6 => rfl); (case u6 => k_is); (case v6t => rfl); (case n6 => first | kernel_rfl | rfl | with_unfolding_all rfl); (case a7 => k_is); (case l7 => k_is); (case c7 => k_is); (case k7 => k_is); (case a8 => k_is); (case l8 => k_is); (case c8 => k_is); (case k8 => k_is); (case e8 => rfl); (case u8 => k_is); (case v8t => rfl); (case n8 => first | kernel_rfl | rfl | with_unfolding_all rfl); (case a9 => k_is); (case l9 => k_is); (case c9 => k_is); (case k9 => k_is); (case a10 => k_is); (case l10 => k_is); (case c10 => k_is); (case k10 => k_is); (case a11 => k_is); (case l11 => k_is); (case c11 => k_is); (case k11 => k_is); (case a12 => k_is); (case l12 => k_is); (case c12 => k_is); (case k12 => k_is); (case e12 => rfl); (case u12 => k_is); (case v12t => rfl); (case n12 => first | kernel_rfl | rfl | with_unfolding_all rfl); (case a13 => k_is); (case l13 => k_is); (case c13 => k_is); (case k13 => k_is); (case a14 => k_is); (case l14 => k_is); (case c14 => k_is); (case k14 => k_is); (case a15 => k_is); (case l15 => k_is); (case c15 => k_is); (case k15 => k_is); (case e15 => rfl); (case u15 => k_is); (case v15t => rfl); (case n15 => first | kernel_rfl | rfl | with_unfolding_all rfl); (case a16 => k_is); (case l16 => k_is); (case c16 => k_is); (case k16 => k_is); (case a17 => k_is); (case l17 => k_is); (case c17 => k_is); (case k17 => k_is); (case a18 => k_is); (case l18 => k_is); (case c18 => k_is); (case k18 => k_is); (case a19 => k_is); (case l19 => k_is); (case c19 => k_is); (case k19 => k_is); (case a20 => k_is); (case l20 => k_is); (case c20 => k_is); (case k20 => k_is); (case a21 => k_is); (case l21 => k_is); (case c21 => k_is); (case k21 => k_is); (case a22 => k_is); (case l22 => k_is); (case c22 => k_is); (case k22 => k_is); (case a23 => k_is); (case l23 => k_is); (case c23 => k_is); (case k23 => k_is); (case a24 => k_is); (case l24 => k_is); (case c24 => k_is); (case k24 => k_is); (case a25 => k_is); (case l25 => k_is); (case c25 => k_is); (case k25 => k_is); (case a26 => k_is); (case l26 => k_is); (case c26 => k_is); (case k26 => k_is); (case a27 => k_is); (case l27 => k_is); (case c27 => k_is); (case k27 => k_is); (case a28 => k_is); (case l28 => k_is); (case c28 => k_is); (case k28 => k_is); (case a29 => k_is); (case l29 => k_is); (case c29 => k_is); (case k29 => k_is); (case a30 => k_is); (case l30 => k_is); (case c30 => k_is); (case k30 => k_is); (case a31 => k_is); (case l31 => k_is); (case c31 => k_is); (case k31 => k_is); (case v1 => k_is); (case v2 => k_is); (case v3 => k_is); (case v4 => k_is); (case x4 => k_is); (case y4t => rfl); (case y4z => decide +kernel); (case y4v => repeat (first | exact .nil | refine .cons ⟨_, rfl⟩ ?_)); (case y4d => rfl); (case v5 => k_is); (case x5 => k_is); (case x5k => repeat (first | exact True.intro | refine ⟨⟨_, _, rfl, rfl⟩, ?_⟩)); (case n5_0d => k_is); (case x5_0 => k_is); (case y5_0t => rfl); (case y5_0z => decide +kernel); (case y5_0v => repeat (first | exact .nil | refine .cons ⟨_, rfl⟩ ?_)); (case n5_1d => k_is); (case x5_1 => k_is); (case y5_1t => rfl); (case y5_1z => decide +kernel); (case y5_1v => repeat (first | exact .nil | refine .cons ⟨_, rfl⟩ ?_)); (case n5_2d => k_is); (case x5_2 => k_is); (case y5_2t => rfl); (case y5_2z => decide +kernel); (case y5_2v => repeat (first | exact .nil | refine .cons ⟨_, rfl⟩ ?_)); (case n5_3d => k_is); (case x5_3 => k_is); (case y5_3t => rfl); (case y5_3z => decide +kernel); (case y5_3v => repeat (first | exact .nil | refine .cons ⟨_, rfl⟩ ?_)); (case n5_4d => k_is); (case x5_4 => k_is); (case y5_4t => rfl); (case y5_4z => decide +kernel); (case y5_4v => repeat (first | exact .nil | refine .cons ⟨_, rfl⟩ ?_)); (case n5_5d => k_is); (case x5_5 => k_is); (case y5_5t => rfl); (case y5_5z => decide +kernel); (case y5_5v => repeat (first | exact .nil | refine .cons ⟨_, rfl⟩ ?_)); (case n5_6d => k_is); (case x5_6 => k_is); (case y5_6t => rfl); (case y5_6z => decide +kernel); (case y5_6v => repeat (first | exact .nil | refine .cons ⟨_, rfl⟩ ?_)); (case n5_7d => k_is); (case x5_7 => k_is); (case y5_7t => rfl); (case y5_7z => decide +kernel); (case y5_7v => repeat (first | exact .nil | refine .cons ⟨_, rfl⟩ ?_)); (case v6 => k_is); (case z1 => k_is); (case z2 => k_is); (case z3 => k_is); (case z4 => k_is); (case z5 => k_is); (case z6 => k_is); (case z7 => k_is); (case z8 => k_is); (case z9 => k_is); (case z10 => k_is); (case z11 => k_is); (case z12 => k_is); (case z13 => k_is); (case r3 => rfl); (case r5 => rfl); (case r6 => rfl); (case r8 => rfl); (case r12 => rfl); (case r15 => rfl)
