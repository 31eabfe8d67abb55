import PyProof.Rows.All
import Wide.All
import OpenK.AllK
import Wide.FinOn
import HandS.ForMost
import HandS.IsInst
import HandS.TupLe
import HandS.Flow
import HandS.GenList
import HandS.AnyAll
import HandS.EndTab
import HandS.Walk
import HandS.TupAny
import HandS.Rev
import HandS.Zip
import HandS.More
import KE.KeyNested
import KE.KDictKeyed
import KE.LtData
import KE.SortKeyHeap
import HandS.SortKw
import HandS.Keys
import KE.KDictWalk
import KE.KDictSum
import HandS.DictComp
import HandS.ExcInit
import HandS.ExcField
import HandS.ExcIs
import HandS.ExcOwn
import HandS.WordsExc
import PyProof.NeKinds
import HandS.TupSets
import KE.SortCalls
import PyProof.Rows.SortKeyStr
import HandS.SetBool
import KE.SortData
import HandS.Comp
import HandS.Conv
import PyProof.LongRange
import PyProof.ListRange
import HandS.Strs
import HandS.Style
import HandS.Replace
import HandS.Text
import PySem.Challenge.RW_cardsback_k55_wants_by_kind
import KE.GoesMore
import KE.DataCmp
import PyProof.FString5
import PyProof.PureInt
set_option Elab.async false
set_option linter.all false
set_option maxRecDepth 100000
/-! My own words for these laws: the tap, kept heaps, repr of flat things. -/
namespace My
open PySem PySem.Spec PyProof.Rows L2
/-! ### heaps -/
/-- all but t is as it was -/
def Kp (t : Addr) (H H' : Hp) : Prop := ∀ b o, b ≠ t → H b = some o → H' b = some o
theorem Kp.refl (t : Addr) (H : Hp) : Kp t H H := fun _ _ _ h => h
theorem Kp.trans {t : Addr} {H H1 H2 : Hp} (a : Kp t H H1) (b : Kp t H1 H2) : Kp t H H2 := fun c o n h => b c o n (a c o n h)
theorem Kp.own {t : Addr} {H H1 : Hp} {o : HO} (a : Kp t H H1) : Kp t H (upd H1 t o) := fun b x n h => by rw [upd_ne n]; exact a b x n h
theorem Kp.new {t p : Addr} {H H1 : Hp} {o : HO} (a : Kp t H H1) (hp : H1 p = none) : Kp t H (upd H1 p o) := fun b x n h => by
  have h1 := a b x n h
  rw [upd_ne (ne_of_none h1 hp)]
  exact h1
theorem Kp.of_same {t : Addr} {H H1 : Hp} (a : Same H H1) : Kp t H H1 := fun b o _ h => a b o h
theorem same_upd {H : Hp} {p : Addr} {o : HO} (h : H p = none) : Same H (upd H p o) := fun b x e => by
  rw [upd_ne (ne_of_none e h)]
  exact e
theorem upd_upd' {H : Hp} {p : Addr} {a b : HO} : upd (upd H p a) p b = upd H p b := by
  funext x
  unfold upd
  by_cases h : x = p <;> simp [h]
theorem upd_comm' {H : Hp} {p r : Addr} {a b : HO} (n : p ≠ r) : upd (upd H p a) r b = upd (upd H r b) p a := by
  funext x
  unfold upd
  by_cases h : x = p
  · by_cases k : x = r
    · exact absurd (h.symm.trans k) n
    · simp [h, n]
  · by_cases k : x = r
    · simp [k, n.symm]
    · simp [h, k]
theorem upd_free {H : Hp} {p x : Addr} {o : HO} (e : upd H p o x = none) : x ≠ p ∧ H x = none := by
  by_cases h : x = p
  · rw [h, upd_same] at e
    cases e
  · rw [upd_ne h] at e
    exact ⟨h, e⟩
theorem sz {n : Nat} (h : n ≤ 1000) : n ≤ sizeLine := Nat.le_of_lt (small1000 h)
theorem tYesT {σ : L2.St} {H : Hp} {A B : Hp → Prop} (h : A H) : tYes σ H (fun b H3 => if b = true then A H3 else B H3) := by
  show if true = true then A H else B H
  exact iteT h
/-! ### the tap -/
def kt (c s r n : V) : List (Key × V) := [(.inr "cells", c), (.inr "spot", s), (.inr "rest", r), (.inr "calls", n)]
theorem kt_cells (c s r n : V) : valV (kt c s r n) (.inr "cells") = some c := rfl
theorem kt_spot (c s r n : V) : valV (kt c s r n) (.inr "spot") = some s := rfl
theorem kt_rest (c s r n : V) : valV (kt c s r n) (.inr "rest") = some r := rfl
theorem kt_calls (c s r n : V) : valV (kt c s r n) (.inr "calls") = some n := rfl
theorem put_spot (c s r n v : V) : putK (kt c s r n) (.inr "spot") v = kt c v r n := rfl
theorem put_rest (c s r n v : V) : putK (kt c s r n) (.inr "rest") v = kt c s v n := rfl
theorem put_calls (c s r n v : V) : putK (kt c s r n) (.inr "calls") v = kt c s r v := rfl
theorem kt_len (c s r n : V) : (kt c s r n).length < sizeLine := small1000 (by show 4 ≤ 1000; decide)
theorem g_cells {H : Hp} {t : Addr} {c s r n : V} (h : H t = some (.dK (kt c s r n))) : DGet H t (.str "cells") (some c) := DGet.k (k := .inr "cells") h
theorem g_spot {H : Hp} {t : Addr} {c s r n : V} (h : H t = some (.dK (kt c s r n))) : DGet H t (.str "spot") (some s) := DGet.k (k := .inr "spot") h
theorem g_rest {H : Hp} {t : Addr} {c s r n : V} (h : H t = some (.dK (kt c s r n))) : DGet H t (.str "rest") (some r) := DGet.k (k := .inr "rest") h
theorem g_calls {H : Hp} {t : Addr} {c s r n : V} (h : H t = some (.dK (kt c s r n))) : DGet H t (.str "calls") (some n) := DGet.k (k := .inr "calls") h
theorem p_spot {H : Hp} {t : Addr} {c s r n v : V} (h : H t = some (.dK (kt c s r n))) : DPut H t (.str "spot") v (upd H t (.dK (kt c v r n))) := DPut.k (k := .inr "spot") h (kt_len _ _ _ _)
theorem p_rest {H : Hp} {t : Addr} {c s r n v : V} (h : H t = some (.dK (kt c s r n))) : DPut H t (.str "rest") v (upd H t (.dK (kt c s v n))) := DPut.k (k := .inr "rest") h (kt_len _ _ _ _)
theorem p_calls {H : Hp} {t : Addr} {c s r n v : V} (h : H t = some (.dK (kt c s r n))) : DPut H t (.str "calls") v (upd H t (.dK (kt c s r v))) := DPut.k (k := .inr "calls") h (kt_len _ _ _ _)
/-- a tap at t that was asked at most n times -/
def Tap (H : Hp) (t : Addr) (n : Nat) : Prop := ∃ (c : Addr) (ns : List Int) (sp re ca : Int),
  H t = some (.dK (kt (.ref c) (.int sp) (.int re) (.int ca))) ∧ H c = some (.lst (ns.map V.int)) ∧ ns.length ≤ 63 ∧ 0 ≤ sp ∧ 0 ≤ re ∧ 0 ≤ ca ∧ ca ≤ n
theorem Tap.mono {H : Hp} {t : Addr} {n m : Nat} (h : Tap H t n) (le : n ≤ m) : Tap H t m := by
  obtain ⟨c, ns, sp, re, ca, h1, h2, h3, h4, h5, h6, h7⟩ := h
  exact ⟨c, ns, sp, re, ca, h1, h2, h3, h4, h5, h6, by omega⟩
theorem Tap.same {H H' : Hp} {t : Addr} {n : Nat} (h : Tap H t n) (s : Same H H') : Tap H' t n := by
  obtain ⟨c, ns, sp, re, ca, h1, h2, h3⟩ := h
  exact ⟨c, ns, sp, re, ca, s _ _ h1, s _ _ h2, h3⟩
theorem Tap.new {H : Hp} {t p : Addr} {o : HO} {n : Nat} (h : Tap H t n) (hp : H p = none) : Tap (upd H p o) t n := h.same (same_upd hp)
theorem Tap.ne {H : Hp} {t p : Addr} {n : Nat} (h : Tap H t n) (hp : H p = none) : p ≠ t := fun z => by
  obtain ⟨c, ns, sp, re, ca, h1, _⟩ := h
  rw [z, h1] at hp
  cases hp
theorem Tap.upd_other {H : Hp} {t p : Addr} {o o' : HO} {n : Nat} (h : Tap H t n) (hp : H p = some o) (h1 : ∀ x, o ≠ .dK x) (h2 : ∀ x : List Int, o ≠ .lst (x.map V.int)) : Tap (upd H p o') t n := by
  obtain ⟨c, ns, sp, re, ca, e1, e2, h3⟩ := h
  refine ⟨c, ns, sp, re, ca, ?_, ?_, h3⟩
  · rw [upd_ne]
    · exact e1
    · intro z
      rw [z, hp] at e1
      exact h1 _ (Option.some.inj e1)
  · rw [upd_ne]
    · exact e2
    · intro z
      rw [z, hp] at e2
      exact h2 _ (Option.some.inj e2)
/-- the promise of the tap's draw -/
def spTake : Sp := fun vs H Q _ => ∃ (t : Addr) (m : Int) (n : Nat), vs = [.ref t, .int m] ∧ 0 < m ∧ m < 1000000 ∧ Tap H t n ∧ n < 1000000 ∧
  ∀ v H', 0 ≤ v → v < m → Tap H' t (n + 1) → Kp t H H' → Q (.int v) H'
def spTap (K : PySem.W.Frag) : Sp := fun vs H Q _ => ∃ (a : Addr) (ns : List Int), vs = [.ref a] ∧ SqL K H a (ns.map V.int) ∧
  ∀ t H', Same H H' → H t = none → Tap H' t 0 → Q (.ref t) H'
theorem pow5 (x : Int) (h0 : 0 ≤ x) (h1 : x < 2 ^ 60) : CPow x 5 := ⟨by decide, by decide, by omega⟩
theorem pow5b (y c : Int) (h0 : 0 ≤ c) (h1 : c ≤ 1000000) : CPow (y % 2147483647 + 4099 * c * c) 5 := by
  have a : 0 ≤ 4099 * c * c := Int.mul_nonneg (by omega) h0
  have b : 4099 * c * c ≤ 4099000000 * 1000000 := Int.mul_le_mul (by omega) h1 h0 (by omega)
  exact pow5 _ (by omega) (by omega)
/-! ### repr of flat things -/
def showF : V → Str
  | .non => "None"
  | .bl b => if b then "True" else "False"
  | .int i => toString i
  | _ => ""
def smallV : V → Prop
  | .non => True
  | .bl _ => True
  | .int i => i.natAbs.log2 < 1920
  | _ => False
section
variable {X : Cx}
theorem call_reprF : CallR X (.builtin "repr") (fun xs H Q => ∃ v, xs = [v] ∧ smallV v ∧ Q (.str (showF v)) H) := by
  intro pins s σ H xs us Q I r h
  obtain ⟨v, rfl, hz, q⟩ := h
  obtain ⟨u, rfl, ru⟩ := vals1 r
  cases v with
  | non => cases ru; exact PySem.P.repr_of_none ⟨.str _, H, I.tok _, ⟨_, rfl⟩, q⟩
  | bl b => cases ru; exact PySem.P.repr_of_bool ⟨.str _, H, I.tok _, ⟨_, rfl⟩, q⟩
  | int i =>
    obtain ⟨t, rfl⟩ := ru
    exact PySem.P.repr_of_int hz ⟨.str _, H, I.tok _, ⟨_, rfl⟩, q⟩
  | _ => exact hz.elim
end
theorem small_nat {i : Int} (h0 : -1000000 < i) (h1 : i < 1000000) : i.natAbs.log2 < 1920 := by
  by_cases z : i.natAbs = 0
  · rw [z]; decide
  · refine Nat.lt_of_lt_of_le ((Nat.log2_lt z).mpr (show i.natAbs < 2 ^ 20 by omega)) (by decide)
end My

set_option Elab.async false
set_option linter.all false
set_option maxRecDepth 100000
set_option maxHeartbeats 2000000
/-! My own rule for all(..) and any(..) of a generator expression: the walked thing by PI, the element by PE, whatever it calls. -/
namespace GE
open PySem PySem.Spec PyProof.Rows L2 GenW
/-- where a generator expression's own frame runs -/
abbrev gctx (X : Cx) (A : Around) (s : Shared) (H : Hp) (scope : Scope) (cenv : Env) (fp : List Addr) : Cx :=
  { X with A := A, s_0 := s, H_0 := H, env := cenv, outer := X.stack, stack := cenv :: X.stack, ex := fp, fn := fun x => scope.names.lookup x == some .cell, pn := [], xe := fun _ _ => False }
/-- only the book of generators and the counts have changed -/
theorem inv_heap {X : Cx} {pins : List (Addr × Obj)} {σ : L2.St} {H : Hp} {s s' : Shared} (I : Inv X pins σ H s) (hh : s'.heap = s.heap) (ho : s'.os = s.os) (hb : AllBare s'.gens) : Inv X pins σ H s' :=
  ⟨I.ok, ho.trans I.os, hb, by rw [hh]; exact I.base, by rw [hh]; exact I.loc, by rw [hh]; exact I.cell, I.free, I.freeC, by rw [hh]; exact I.pin, by rw [hh]; exact I.hok, I.len⟩
theorem over_gen {A : Around} {elt tg iter : Expr} {ifs : List Expr} {scope : Scope} {pos : Pos} {it : Value} {env : Env} :
    A.over (.compLoop (.GeneratorExp elt [⟨tg, iter, ifs, 0⟩] scope pos) 0 it .none env) [] = A.deeper env := rfl
section
variable {X : Cx} {pins : List (Addr × Obj)} {σ : L2.St} {H : Hp} {s : Shared}
theorem gen_start {scope : Scope} {own : List (Str × Nat)} {fp : List Addr} {A : Around} {code itv : Value} {h' : Heap} {g' : Array GenState} {tk : Nat} {go : Obj}
    (I : Inv X pins σ H s) (ok : BlkOk X.N X.env.scope scope own) (hN : X.N.Nodup) (hcell : ∀ y ∈ scope.names, y.2 ≠ .cell) (hfp : ∀ b ∈ fp, FpOk X pins H b ∧ b < s.heap.objs.size)
    (hA : A.handled = none) (hF : A.frames = some (genEnv scope (cloFrom X.env.cells scope.names []) s.heap.objs.size code builtinsNs X.env :: X.stack))
    (hn : h'.Ns s.heap.objs.size (fun y => if y = ".0" then some itv else none)) (hk : ∀ b o, s.heap.get? b = some o → h'.get? b = some o)
    (hgo : ∀ v, go.data ≠ .cell v) (hga : (h'.push go).get? h'.objs.size = some go) (hsz : h'.objs.size = s.heap.objs.size + 1) (hb : AllBare g') :
    Inv (gctx X A s H scope (genEnv scope (cloFrom X.env.cells scope.names []) s.heap.objs.size code builtinsNs X.env) fp) [(h'.objs.size, go)] (wipe σ (own.map (·.2))) H
      { s with gens := g', toks := tk, heap := h'.push go } := by
  generalize hce : genEnv scope (cloFrom X.env.cells scope.names []) s.heap.objs.size code builtinsNs X.env = cenv at hF ⊢
  have eL : cenv.locals = s.heap.objs.size := by rw [← hce]; rfl
  have eC : cenv.cells = cloFrom X.env.cells scope.names [] := by rw [← hce]; rfl
  have eS : cenv.scope = scope := by rw [← hce]; rfl
  have kp : ∀ b o, s.heap.get? b = some o → (h'.push go).get? b = some o := fun b o e => Heap.get?_push_of_some _ (hk b o e)
  have got : ∀ y ∈ scope.names, y.2 = .free → ∃ c, X.env.cells.lookup y.1 = some c := fun y hy e => by
    rcases ok.free y hy e with z | z
    · exact I.ok.has _ (.inl z)
    · exact I.ok.has _ (.inr z)
  have inX : ∀ {y c}, cenv.cells.lookup y = some c → X.env.cells.lookup y = some c ∧ c < s.heap.objs.size := fun {y c} e => by
    rw [eC] at e
    rcases cloFrom_mem (PySem.mem_of_lookup e) with z | ⟨z, q⟩
    · cases z
    · obtain ⟨d, hd⟩ := got _ z rfl
      rw [hd] at q
      have q : c = d := q
      subst q
      obtain ⟨v, hv⟩ := I.cell _ _ hd
      exact ⟨hd, hv.lt⟩
  have has : ∀ {y}, scope.names.lookup y = some .free → ∃ c, cenv.cells.lookup y = some c := fun {y} hl => by
    obtain ⟨c, e⟩ := mem_lookup (cloFrom_has (cells := X.env.cells) (acc := []) (PySem.mem_of_lookup hl))
    exact ⟨c, by rw [eC]; exact e⟩
  have okG : (gctx X A s H scope cenv fp).Ok := by
    refine ⟨I.ok.mod, ?_, ?_, ?_, ?_, ?_, ?_, ?_, fun _ => hA, hF, .inr ⟨rfl, ?_⟩, fun b hb => ⟨?_, ?_⟩, I.bs, Nat.le_trans I.ok.bsz I.sz, ?_, ?_, I.stack, I.stkFree⟩
    · show cenv.scope.kind = _
      rw [eS]; exact ok.kind
    · show cenv.globals = _
      rw [← hce]; exact I.ok.glob
    · show cenv.builtins = _
      rw [← hce]; rfl
    · show s.heap.objs.size ≤ cenv.locals
      rw [eL]; exact Nat.le_refl _
    · intro y z c e1 e2
      exact I.ok.inj y z c (inX e1).1 (inX e2).1
    · intro y hy
      have hy : cenv.scope.names.lookup y = some .cell ∨ cenv.scope.names.lookup y = some .free := hy
      rw [eS] at hy
      rcases hy with z | z
      · exact absurd rfl (hcell _ (PySem.mem_of_lookup z))
      · exact has z
    · intro y c z _
      have z : (scope.names.lookup y == some NameKind.cell) = true := z
      have z : scope.names.lookup y = some .cell := by simpa using z
      exact absurd rfl (hcell _ (PySem.mem_of_lookup z))
    · show cenv.frame = some cenv.locals
      rw [← hce]; rfl
    · show b ≠ cenv.locals
      rw [eL]; exact Nat.ne_of_lt (hfp b hb).2
    · intro y c e z
      exact (hfp b hb).1.2.2.2.2.1 y c (inX e).1 z
    · intro b o e hb
      rcases (hfp b hb).1.2.2.2.1 with z | z
      · exact I.ok.noex b o e z
      · exact absurd (Nat.lt_of_lt_of_le (Heap.lt_size e) (Nat.le_trans I.ok.bsz z)) (Nat.lt_irrefl _)
    · intro b hb z
      rcases List.mem_cons.mp (I.stkSub b z) with q | q
      · exact (hfp b hb).1.2.1 q
      · exact (hfp b hb).1.2.2.1 q
  refine ⟨okG, rfl, hb, Un.kept kp, ⟨fun y => if y = ".0" then some itv else none, ?_, fun i y v e1 e2 e3 => ?_⟩, fun y c e => ?_, ?_, fun y c e => ?_, fun p hp => ?_, I.hok.kept kp, ?_⟩
  · show Heap.Ns _ cenv.locals _
    rw [eL]; exact hn.keeps fun b o e => Heap.get?_push_of_some _ e
  · obtain ⟨e2, hne⟩ := wipe_some e2
    have e3 : Vis cenv.scope y := e3
    rw [eS] at e3
    have no : ∀ k, scope.names.lookup y = some k → k = .local ∨ k = .cell → False := fun k hl hk => by
      rcases ok.own _ (PySem.mem_of_lookup hl) hk with z | z
      · obtain ⟨p, hp, ep⟩ := List.mem_map.mp z
        have q := ok.ix p hp
        have ep : p.1 = y := ep
        rw [ep] at q
        exact hne (List.mem_map.mpr ⟨p, hp, nodup_ix hN q e1⟩)
      · exact z (List.mem_of_getElem? e1)
    have fr : scope.names.lookup y = some .free := by
      rcases e3 with z | z | z
      · exact (no _ z (.inl rfl)).elim
      · exact (no _ z (.inr rfl)).elim
      · exact z
    obtain ⟨c, hc⟩ := has fr
    have kinds := ok.free _ (PySem.mem_of_lookup fr) rfl
    obtain ⟨m, _, hl⟩ := I.loc
    obtain ⟨u, ru, look⟩ := hl i y v e1 e2 (kinds.elim (fun z => .inr (.inl z)) fun z => .inr (.inr z))
    refine ⟨u, ru, .inr ⟨.inr ?_, c, hc, ?_⟩⟩
    · show cenv.scope.names.lookup y = _
      rw [eS]; exact fr
    · rcases look with ⟨z, _⟩ | ⟨_, c2, hc2, z⟩
      · have z : X.env.scope.names.lookup y = some .local := z
        rcases kinds with q | q <;> rw [show X.env.scope.names.lookup y = _ from q] at z <;> cases z
      · rw [(inX hc).1] at hc2
        cases hc2
        exact z.keeps kp
  · obtain ⟨v, hv⟩ := I.cell y c (inX e).1
    exact ⟨v, hv.keeps kp⟩
  · show H cenv.locals = none
    rw [eL]; exact I.hok.fresh (Nat.le_refl _)
  · exact I.freeC y c (inX e).1
  · have hp : p = (h'.objs.size, go) := by simpa using hp
    subst hp
    refine ⟨hga, I.hok.fresh (by omega), ?_, fun z => ?_, hgo⟩
    · show h'.objs.size ≠ cenv.locals
      rw [eL]; omega
    · rcases List.mem_cons.mp (I.stkSub _ z) with q | q
      · have q : h'.objs.size = X.env.locals := q
        have z2 := I.lt
        rw [← q, hsz] at z2
        exact absurd z2 (Nat.not_lt.mpr (Nat.le_succ _))
      · exact I.nofs (by omega) q
  · rw [wipe_length]; exact I.len
/-- what a generator expression hands out, and its end, by what the def's reading wants: Qt at its end, Qs where a truth like st is handed out -/
def GR (Y : Cx) (pn : List (Addr × Obj)) (Qt : Hp → Prop) : GenEnd := fun _ _ r s1 =>
  ((r = .ok (.ret .none) ∨ r = .ok .next) ∧ ∃ σ' H', Inv Y pn σ' H' s1 ∧ Qt H') ∨ ∃ e, r = .error e ∧ (fun (_ : Value) (_ : Shared) => False) e s1
def GY (Y : Cx) (pn : List (Addr × Obj)) (st : Bool) (Qs : Hp → Prop) : Protocol := fun _ _ v s1 kap =>
  ∃ c σ' H', v = .bool c ∧ Inv Y pn σ' H' s1 ∧ (c = st → Qs H') ∧ (c ≠ st → ∀ s2 : Shared, s2.heap = s1.heap → s2.os = s1.os → AllBare s2.gens → kap (.send .none) s2)
/-- one turn's reading -/
def Step (J : It) (g : TG) (tt : TT) (te : TE) (vs : List Nat) (σ : L2.St) (st : Bool) (Qt Qs : Hp → Prop) (W : Nat → Nat → Hp → Prop) (i m : Nat) (H : Hp) : Prop :=
  (J.stop i H ∧ Qt H) ∨ (J.go i H ∧ ∃ Nx : Hp → Prop, (∀ H', Nx H' → ∃ m', m' < m ∧ W (i + 1) m' H') ∧ ∀ x H', J.yld i H x H' → g x (wipe σ vs) H' fun σ2 H2 => wipe σ2 vs = wipe σ vs ∧ tt σ2 H2 fun b H3 =>
    if b = true then te σ2 H3 fun y H4 => ∃ c, y = .bl c ∧ (c = st → Qs H4) ∧ (c ≠ st → Nx H4) else Nx H3)
theorem wpF {α : Type} {M : Model} {A : Around} {t : Sem α} {Q Q' : α → Shared → Prop} {E : Value → Shared → Prop} {s : Shared} (h : wpAny M A t Q (fun _ _ => False) s) (k : ∀ a s', Q a s' → Q' a s') : wpAny M A t Q' E s :=
  wpAny_mono h k fun _ _ z => z.elim
theorem seg_turns {A0 : Around} {s3 : Shared} {H3 : Hp} {scope : Scope} {cenv : Env} {fp : List Addr} {pn : List (Addr × Obj)} {it : Addr} {J : It} {tn : Nat → Heap → Prop} {elt tg iter : Expr} {ifs : List Expr} {pos : Pos} {vs : List Nat}
    {g : TG} {tt : TT} {te : TE} {st : Bool} {Qt Qs : Hp → Prop} {W : Nat → Nat → Hp → Prop} (hc : X.calm = true) (hco : cenv.scope.isCoroutine = false) (hpn : ∀ p ∈ pn, p.1 ∉ fp)
    (T : Turn X.prog X.w X.K tg J fp it tn) (pg : PG (gctx X (A0.deeper cenv) s3 H3 scope cenv fp) tg g) (pt : PTs (gctx X (A0.deeper cenv) s3 H3 scope cenv fp) ifs tt) (pe : PE (gctx X (A0.deeper cenv) s3 H3 scope cenv fp) elt te)
    (turn : ∀ i m H', W i m H' → Step J g tt te vs σ st Qt Qs W i m H') :
    ∀ (m n : Nat), m < n → ∀ (i : Nat) (s0 s1 : Shared) (H' : Hp), Inv (gctx X (A0.deeper cenv) s3 H3 scope cenv fp) pn (wipe σ vs) H' s1 → tn i s1.heap → (∀ b ∈ fp, H' b = none) → W i m H' →
      Seg (model X.prog X.w) A0 (GR (gctx X (A0.deeper cenv) s3 H3 scope cenv fp) pn Qt) (GY (gctx X (A0.deeper cenv) s3 H3 scope cenv fp) pn st Qs) n s0
        (.compLoop (.GeneratorExp elt [⟨tg, iter, ifs, 0⟩] scope pos) 0 (.ref it) .none cenv) ((model X.prog X.w).den (.compLoop (.GeneratorExp elt [⟨tg, iter, ifs, 0⟩] scope pos) 0 (.ref it) .none cenv)) [] s1 := by
  intro m
  induction m using Nat.strongRecOn with
  | ind m ih =>
    intro n hmn i s0 s1 H1 I1 t1 f1 w1
    have own : ∀ {pl : List (Addr × Obj)} {σ' : L2.St} {H' : Hp} {s' : Shared}, (∀ p ∈ pl, p.1 ∉ fp) → Inv (gctx X (A0.deeper cenv) s3 H3 scope cenv fp) pl σ' H' s' → (∀ b ∈ fp, H' b = none) → ∀ b ∈ fp, FpOk (gctx X (A0.deeper cenv) s3 H3 scope cenv fp) pl H' b :=
      fun {pl σ' H' s'} hpl I' hn b hb => ⟨hn b hb, (I'.ok.exf b hb).1, I'.ok.exfs b hb, .inl hb, fun x c e => (I'.ok.exf b hb).2 x c e, fun p hp z => hpl p (by simpa using hp) (by rw [z]; exact hb)⟩
    show Seg _ A0 _ _ _ s0 _ ((compTurn (.GeneratorExp elt [⟨tg, iter, ifs, 0⟩] scope pos) 0 (.ref it) .none cenv).onRaise (leaving cenv)) [] s1
    rw [compTurn_gen]
    rw [Sem.onRaise_eq_wrap]
    refine seg_bind_wrap (wpAny_standAt ?_)
    rcases turn i m H1 w1 with ⟨stop, qt⟩ | ⟨go, Nx, hNx, step⟩
    · refine seg_bind_wrap (wpF (T.done (gctx X (A0.deeper cenv) s3 H3 scope cenv fp) rfl rfl rfl hc i pn s1 _ H1 (fun _ _ => False) I1 (own hpn I1 f1) t1 stop) fun r s2 ⟨hr, I2⟩ => ?_)
      subst hr
      exact seg_end (.ok .next) (.inl ⟨.inr rfl, _, H1, I2, qt⟩)
    · refine seg_bind_wrap (wpF (T.item (gctx X (A0.deeper cenv) s3 H3 scope cenv fp) rfl rfl rfl hc i pn s1 _ H1 (fun _ _ => False) I1 (own hpn I1 f1) t1 go) fun r s2 ⟨u, hr, h2⟩ => ?_)
      subst hr
      refine seg_bind_wrap (wpF h2 fun _ s4 ⟨x, H4, I4, r4, y4, t4, f4⟩ => ?_)
      have P4 := I4.pinned (own hpn I4 f4) (T.obj _ _ t4)
      refine seg_bind_wrap (wpF (pg.run _ s4 _ H4 x u _ P4 r4 (step x H4 y4)) fun _ s5 ⟨σ5, H5, I5, w5, q5⟩ => ?_)
      refine seg_bind_wrap (wpF (pt.run _ s5 σ5 H5 _ I5 q5) fun b s6 ⟨H6, I6, q6⟩ => ?_)
      have back : ∀ {s' : Shared} {H' : Hp}, Inv (gctx X (A0.deeper cenv) s3 H3 scope cenv fp) (pn ++ pinsAt fp s4.heap) σ5 H' s' →
          Inv (gctx X (A0.deeper cenv) s3 H3 scope cenv fp) pn (wipe σ vs) H' s' ∧ tn (i + 1) s'.heap ∧ ∀ b ∈ fp, H' b = none := fun {s' H'} I' => by
        have at' : ∀ b ∈ fp, ∀ o, s4.heap.get? b = some o → s'.heap.get? b = some o ∧ H' b = none := fun b hb o e =>
          let z := I'.pin (b, o) (List.mem_append_right _ (List.mem_append_right _ (mem_pinsAt hb e)))
          ⟨z.1, z.2.1⟩
        refine ⟨I'.unpinned.weak (by rw [← w5, wipe_length]) fun j v e => ?_, T.keep _ _ _ t4 fun b hb o e => (at' b hb o e).1, fun b hb => ?_⟩
        · rw [← w5] at e
          exact (wipe_some e).1
        · obtain ⟨o, e, _⟩ := T.obj _ _ t4 b hb
          exact (at' b hb o e).2
      cases b with
      | false =>
        have q6 : Nx H6 := by simpa using q6
        obtain ⟨m', hm, w'⟩ := hNx H6 q6
        obtain ⟨I7, t7, f7⟩ := back I6
        simp only [Bool.false_eq_true, if_false]
        exact seg_again rfl (ih m' hm n (by omega) (i + 1) s0 s6 H6 I7 t7 f7 w')
      | true =>
        rw [if_pos rfl] at q6
        simp only [if_true]
        have hy : ∀ v, yieldOut cenv v = yieldValue v := fun v => by
          unfold yieldOut
          simp [hco]
        simp only [hy]
        rw [Sem.bind_eq_wrap', Sem.bind_eq_wrap']
        rw [Sem.wrap_wrap, Sem.wrap_wrap]
        refine seg_wrap (wpF (pe.run _ s6 σ5 H6 _ I6 q6) fun v s7 ⟨yv, H7, I7, r7, c, ec, qs, qn⟩ => ?_)
        subst ec
        obtain rfl : v = Value.bool c := r7
        obtain ⟨I8, t8, f8⟩ := back I7
        obtain ⟨n, rfl⟩ : ∃ k, n = k + 1 := ⟨n - 1, by omega⟩
        refine seg_at (seg_yield rfl rfl rfl ⟨c, _, H7, rfl, I8, qs, fun hne s9 hh ho hb => ?_⟩)
        obtain ⟨m', hm, w'⟩ := hNx H7 (qn hne)
        exact seg_again rfl (ih m' hm n (by omega) (i + 1) s9 s9 H7 (inv_heap I8 hh ho hb) (by rw [hh]; exact t8) f8 w')
/-! ### all and any walk the generator -/
theorem all_walk {Y : Cx} {pn : List (Addr × Obj)} {Qt Qs : Hp → Prop} {A : Around} {R : Result → Shared → Prop} {a : Addr} {go : Obj} {g : Nat} (hh : A.handled = none) (hd : A.depth < recursionLimit)
    (hpa : (a, go) ∈ pn) (hgen : ∀ h : Heap, h.get? a = some go → h.IsGen a g)
    (eT : ∀ σ' H' s', Inv Y pn σ' H' s' → Qt H' → R (.ok (.ret (.bool true))) s') (eF : ∀ σ' H' s', Inv Y pn σ' H' s' → Qs H' → R (.ok (.ret (.bool false))) s') :
    ∀ (n : Nat) (s1 : Shared) (gs : GenState), s1.heap.IsGen a g → s1.heap.NoLimit → s1.gens[g]? = some gs →
      gs.Goes (model Y.prog Y.w) A.in1.in1 (GR Y pn Qt) (GY Y pn false Qs) n (.send .none) (s1.setGen g .running) → codeAny (model Y.prog Y.w) A (.builtin "all.loop" ⟨[.ref a], []⟩) R s1 := by
  intro n
  induction n with
  | zero =>
    intro s1 gs isg lim hgs goes
    refine codeAny_builtin F.entry_all_loop ?_
    rw [Around.under_plainId F.plain_all_loop _]
    show wpAny _ A.in1 (pyNext (.ref a) >>= _) _ _ s1
    refine wpAny_bind (next_genG (A := A.in1) hh lim hd isg hgs goes (fun v s2 gs' hb hv => ?_) (fun s2 hp h' hk => ?_) fun e s2 he => he.elim)
    · obtain ⟨c, σ', H', rfl, I2, q1, q2⟩ := hv
      have I3 : Inv Y pn σ' H' (s2.setGen g gs') := inv_heap I2 rfl rfl (allBare_setGen I2.bare hb)
      refine wpAny_bind (wpAny_holding (wpAny_truthy_bool ?_))
      refine wpAny_bind (wpAny_letGo ?_)
      cases c with
      | true => exact (q2 (by decide) _ rfl rfl I2.bare).elim
      | false =>
        simp only [Bool.false_eq_true, if_false]
        exact wpAny_bind (wpAny_rule (wpAny_pure (eF σ' H' _ I3 (q1 rfl))))
    · obtain ⟨σ', H', I2, q⟩ := hp
      have I3 : Inv Y pn σ' H' (s2.setGen g .finished) := inv_heap I2 rfl rfl (allBare_setGen I2.bare rfl)
      exact wpAny_bind (wpAny_rule (wpAny_pure (eT σ' H' _ (I3.kept (t' := s2.toks) hk) q)))
  | succ n ih =>
    intro s1 gs isg lim hgs goes
    have hgl : g < s1.gens.size := (Array.getElem?_eq_some_iff.mp hgs).1
    refine codeAny_builtin F.entry_all_loop ?_
    rw [Around.under_plainId F.plain_all_loop _]
    show wpAny _ A.in1 (pyNext (.ref a) >>= _) _ _ s1
    refine wpAny_bind (wpAny_gsz (n := g + 1) hgl (next_genG (A := A.in1) hh lim hd isg hgs goes (fun v s2 gs' hb hv => ?_) (fun s2 hp h' hk => ?_) fun e s2 he => he.elim))
    · intro hsz
      obtain ⟨c, σ', H', rfl, I2, q1, q2⟩ := hv
      have I3 : Inv Y pn σ' H' (s2.setGen g gs') := inv_heap I2 rfl rfl (allBare_setGen I2.bare hb)
      refine wpAny_bind (wpAny_holding (wpAny_truthy_bool ?_))
      refine wpAny_bind (wpAny_letGo ?_)
      cases c with
      | true =>
        simp only [if_true]
        have hg2 : g < s2.gens.size := by
          have z : (s2.setGen g gs').gens.size = s2.gens.size := setGen_size _ _ _
          have hsz : g + 1 ≤ (s2.setGen g gs').gens.size := hsz
          omega
        refine wpAny_pure ⟨plainId_quiet F.plain_all_loop _, ih _ gs' (hgen _ (I3.pin (a, go) (List.mem_append_right _ hpa)).1) I3.nolimit (setGen_at hg2) ?_⟩
        exact q2 (by decide) _ rfl rfl (allBare_setGen (s := s2.setGen g gs') I3.bare rfl)
      | false =>
        simp only [Bool.false_eq_true, if_false]
        exact wpAny_bind (wpAny_rule (wpAny_pure (eF σ' H' _ I3 (q1 rfl))))
    · intro _
      obtain ⟨σ', H', I2, q⟩ := hp
      have I3 : Inv Y pn σ' H' (s2.setGen g .finished) := inv_heap I2 rfl rfl (allBare_setGen I2.bare rfl)
      exact wpAny_bind (wpAny_rule (wpAny_pure (eT σ' H' _ (I3.kept (t' := s2.toks) hk) q)))
theorem any_walk {Y : Cx} {pn : List (Addr × Obj)} {Qt Qs : Hp → Prop} {A : Around} {R : Result → Shared → Prop} {a : Addr} {go : Obj} {g : Nat} (hh : A.handled = none) (hd : A.depth < recursionLimit)
    (hpa : (a, go) ∈ pn) (hgen : ∀ h : Heap, h.get? a = some go → h.IsGen a g)
    (eT : ∀ σ' H' s', Inv Y pn σ' H' s' → Qt H' → R (.ok (.ret (.bool false))) s') (eF : ∀ σ' H' s', Inv Y pn σ' H' s' → Qs H' → R (.ok (.ret (.bool true))) s') :
    ∀ (n : Nat) (s1 : Shared) (gs : GenState), s1.heap.IsGen a g → s1.heap.NoLimit → s1.gens[g]? = some gs →
      gs.Goes (model Y.prog Y.w) A.in1.in1 (GR Y pn Qt) (GY Y pn true Qs) n (.send .none) (s1.setGen g .running) → codeAny (model Y.prog Y.w) A (.builtin "any.loop" ⟨[.ref a], []⟩) R s1 := by
  intro n
  induction n with
  | zero =>
    intro s1 gs isg lim hgs goes
    refine codeAny_builtin F.entry_any_loop ?_
    rw [Around.under_plainId F.plain_any_loop _]
    show wpAny _ A.in1 (pyNext (.ref a) >>= _) _ _ s1
    refine wpAny_bind (next_genG (A := A.in1) hh lim hd isg hgs goes (fun v s2 gs' hb hv => ?_) (fun s2 hp h' hk => ?_) fun e s2 he => he.elim)
    · obtain ⟨c, σ', H', rfl, I2, q1, q2⟩ := hv
      have I3 : Inv Y pn σ' H' (s2.setGen g gs') := inv_heap I2 rfl rfl (allBare_setGen I2.bare hb)
      refine wpAny_bind (wpAny_holding (wpAny_truthy_bool ?_))
      refine wpAny_bind (wpAny_letGo ?_)
      cases c with
      | false => exact (q2 (by decide) _ rfl rfl I2.bare).elim
      | true =>
        simp only [if_true]
        exact wpAny_bind (wpAny_rule (wpAny_pure (eF σ' H' _ I3 (q1 rfl))))
    · obtain ⟨σ', H', I2, q⟩ := hp
      have I3 : Inv Y pn σ' H' (s2.setGen g .finished) := inv_heap I2 rfl rfl (allBare_setGen I2.bare rfl)
      exact wpAny_bind (wpAny_rule (wpAny_pure (eT σ' H' _ (I3.kept (t' := s2.toks) hk) q)))
  | succ n ih =>
    intro s1 gs isg lim hgs goes
    have hgl : g < s1.gens.size := (Array.getElem?_eq_some_iff.mp hgs).1
    refine codeAny_builtin F.entry_any_loop ?_
    rw [Around.under_plainId F.plain_any_loop _]
    show wpAny _ A.in1 (pyNext (.ref a) >>= _) _ _ s1
    refine wpAny_bind (wpAny_gsz (n := g + 1) hgl (next_genG (A := A.in1) hh lim hd isg hgs goes (fun v s2 gs' hb hv => ?_) (fun s2 hp h' hk => ?_) fun e s2 he => he.elim))
    · intro hsz
      obtain ⟨c, σ', H', rfl, I2, q1, q2⟩ := hv
      have I3 : Inv Y pn σ' H' (s2.setGen g gs') := inv_heap I2 rfl rfl (allBare_setGen I2.bare hb)
      refine wpAny_bind (wpAny_holding (wpAny_truthy_bool ?_))
      refine wpAny_bind (wpAny_letGo ?_)
      cases c with
      | false =>
        simp only [Bool.false_eq_true, if_false]
        have hg2 : g < s2.gens.size := by
          have z : (s2.setGen g gs').gens.size = s2.gens.size := setGen_size _ _ _
          have hsz : g + 1 ≤ (s2.setGen g gs').gens.size := hsz
          omega
        refine wpAny_pure ⟨plainId_quiet F.plain_any_loop _, ih _ gs' (hgen _ (I3.pin (a, go) (List.mem_append_right _ hpa)).1) I3.nolimit (setGen_at hg2) ?_⟩
        exact q2 (by decide) _ rfl rfl (allBare_setGen (s := s2.setGen g gs') I3.bare rfl)
      | true =>
        simp only [if_true]
        exact wpAny_bind (wpAny_rule (wpAny_pure (eF σ' H' _ I3 (q1 rfl))))
    · intro _
      obtain ⟨σ', H', I2, q⟩ := hp
      have I3 : Inv Y pn σ' H' (s2.setGen g .finished) := inv_heap I2 rfl rfl (allBare_setGen I2.bare rfl)
      exact wpAny_bind (wpAny_rule (wpAny_pure (eT σ' H' _ (I3.kept (t' := s2.toks) hk) q)))
theorem seg_first {A0 : Around} {R : GenEnd} {Y : Protocol} {n : Nat} {s0 s1 : Shared} {elt tg iter : Expr} {ifs : List Expr} {scope : Scope} {pos : Pos} {it : Addr} {cenv : Env} {P : Program} {w : World}
    (self : ∀ (A : Around) (Q : Value → Shared → Prop) (E : Value → Shared → Prop), Q (.ref it) s1 → wpAny (model P w) A (pyIter (.ref it)) Q E s1)
    (loop : Seg (model P w) A0 R Y n s0 (.compLoop (.GeneratorExp elt [⟨tg, iter, ifs, 0⟩] scope pos) 0 (.ref it) .none cenv) ((model P w).den (.compLoop (.GeneratorExp elt [⟨tg, iter, ifs, 0⟩] scope pos) 0 (.ref it) .none cenv)) [] s1) :
    Seg (model P w) A0 R Y n s0 (.compStart (.GeneratorExp elt [⟨tg, iter, ifs, 0⟩] scope pos) 0 (.ref it) .none cenv) ((model P w).den (.compStart (.GeneratorExp elt [⟨tg, iter, ifs, 0⟩] scope pos) 0 (.ref it) .none cenv)) [] s1 := by
  show Seg _ A0 _ _ _ s0 _ ((compStart (.GeneratorExp elt [⟨tg, iter, ifs, 0⟩] scope pos) 0 (.ref it) .none cenv).onRaise (leaving cenv)) [] s1
  unfold compStart
  rw [Sem.onRaise_eq_wrap]
  show Seg _ A0 _ _ _ s0 _ ((ask >>= _).wrap _ _ _ _) [] s1
  refine seg_bind_wrap (wpAny_askSetting ?_)
  split
  · exact seg_again rfl loop
  · first
      | exact seg_bind_wrap (wpAny_rule (seg_bind_wrap (wpAny_standAt (seg_bind_wrap (self _ _ _ (seg_again rfl loop))))))
      | (refine seg_bind_wrap (wpAny_rule ?_); show Seg _ A0 _ _ _ s0 _ ((standAt iter.pos >>= _).wrap _ _ _ _) [] s1; exact seg_bind_wrap (wpAny_standAt (seg_bind_wrap (self _ _ _ (seg_again rfl loop)))))
/-- all(elt for tg in iter if ..), any(..): st is the truth at which it stops; P the table of the def's code -/
def tAG (P : Addr) (st : Bool) (wi : TI) (g : TG) (tt : TT) (te : TE) (vs : List Nat) : TE := fun σ H Q => wi σ H fun J H1 => GxR.TabG H1 P ∧ ∀ H2, GxR.Tabbed P H1 H2 →
  ∃ W : Nat → Nat → Hp → Prop, (∃ m, W 0 m H2) ∧ ∀ i m H', W i m H' → Step J g tt te vs σ st (Q (.bl (!st))) (Q (.bl st)) W i m H'
/-- a generator that stands ready -/
def Made (X : Cx) (pins : List (Addr × Obj)) (σ : L2.St) (st : Bool) (Qt Qs : Hp → Prop) (u : Value) (s5 : Shared) : Prop :=
  ∃ (a : Addr) (Y : Cx) (pn : List (Addr × Obj)) (go : Obj) (g n : Nat) (gs : GenState), u = .ref a ∧ Y.prog = X.prog ∧ Y.w = X.w ∧ (a, go) ∈ pn ∧ (∀ h : Heap, h.get? a = some go → h.IsGen a g) ∧ s5.heap.IsGen a g ∧ s5.heap.NoLimit ∧ s5.gens[g]? = some gs ∧
    gs.Goes (model X.prog X.w) X.A.in1.in1 (GR Y pn Qt) (GY Y pn st Qs) n (.send .none) (s5.setGen g .running) ∧ ∀ σ' H' s', Inv Y pn σ' H' s' → Inv X pins σ H' s'
structure GSc (N : List Str) (sc scope : Scope) (own : List (Str × Nat)) : Prop where
  blk : BlkOk N sc scope own
  co : scope.isCoroutine = false
  cell : ∀ y ∈ scope.names, y.2 ≠ .cell
  dot : scope.names.lookup (".0" : Str) = some NameKind.local
theorem gen_make {c P : Addr} {elt tg iter : Expr} {ifs : List Expr} {gpos : Pos} {scope : Scope} {own : List (Str × Nat)} {st : Bool} {wi : TI} {g : TG} {tt : TT} {te : TE} {k : Nat} {Q : VK}
    (hc : X.calm = true) (hN : X.N.Nodup) (hr : Room (k + 1) X.A) (TB : GxR.TabB X.base X.mg c P) (hcode : X.env.code = .ref c) (S : GSc X.N X.env.scope scope own) (hi : PI X tg iter wi)
    (hg : ∀ (A : Around) (s : Shared) (H : Hp) (C : Addr) (code : Value) (fp : List Addr), Room k A → PG (gctx X A s H scope (genEnv scope (cloFrom X.env.cells scope.names []) C code builtinsNs X.env) fp) tg g)
    (ht : ∀ (A : Around) (s : Shared) (H : Hp) (C : Addr) (code : Value) (fp : List Addr), Room k A → PTs (gctx X A s H scope (genEnv scope (cloFrom X.env.cells scope.names []) C code builtinsNs X.env) fp) ifs tt)
    (he : ∀ (A : Around) (s : Shared) (H : Hp) (C : Addr) (code : Value) (fp : List Addr), Room k A → PE (gctx X A s H scope (genEnv scope (cloFrom X.env.cells scope.names []) C code builtinsNs X.env) fp) elt te)
    (hs : ∀ v, genFold iter X.env v = pure v) (I : Inv X pins σ H s) (h : tAG P st wi g tt te (own.map (·.2)) σ H Q) :
    wpAny (model X.prog X.w) X.A (eval (.GeneratorExp elt [⟨tg, iter, ifs, 0⟩] scope gpos) X.env) (Made X pins σ st (Q (.bl (!st))) (Q (.bl st))) X.xe s := by
  have hfree : ∀ y ∈ scope.names, y.2 = .free → ∃ c, X.env.cells.lookup y.1 = some c := fun y hy e => by
    rcases S.blk.free y hy e with z | z
    · exact I.ok.has _ (.inl z)
    · exact I.ok.has _ (.inr z)
  refine wpAny_GeneratorExp_make S.co (closure_ok hfree) S.cell S.dot S.blk.kind (by have := hr.dp; omega) ?_ hs
  refine thn (hi.run pins s σ H _ I h) fun xv s1 hx => thn hx fun itv s2 h2 => ?_
  obtain ⟨it, fp, tn, J, H1, rfl, I2, T, t2, f2, ⟨ps, hP, htr⟩, q⟩ := h2
  have oP : s2.heap.get? P = some { cls := .none, data := .fields ps } := I2.hok P _ hP
  have cd : PySem.W.CodeHd s2.heap c P := TB.code.keeps I2.bk
  refine ⟨I2.nolimit, ?_⟩
  have nP : ∀ b ∈ fp, b ≠ P := fun b hb z => by
    have q := (f2 b hb).1
    rw [z, hP] at q
    cases q
  have rest : ∀ (code : Value) (h3 : Heap) (tk : Nat) (ps' : Array Value), Heap.ExtBut P s2.heap h3 → h3.get? P = some { cls := .none, data := .fields ps' } → (∃ more, ps' = ps ++ more) → TriplesOk ps'.toList →
      wpAny (model X.prog X.w) X.A (builtinsFor X.env.globals X.env.builtins) (fun bi s4 =>
        ∀ h', h'.Ns s4.heap.objs.size (fun y => if y = ".0" then some (.ref it) else none) → Heap.SameBut s4.heap.objs.size (s4.heap.push { cls := .type "frame", data := .dict #[] }) h' →
          Made X pins σ st (Q (.bl (!st))) (Q (.bl st)) (.ref h'.objs.size) { s4 with
            gens := s4.gens.push (.fresh (.compStart (.GeneratorExp elt [⟨tg, iter, ifs, 0⟩] scope gpos) 0 (.ref it) .none (genEnv scope (cloFrom X.env.cells scope.names []) s4.heap.objs.size code bi X.env))),
            toks := s4.toks + 1 + 1 + 1,
            heap := h'.push { cls := .type "generator", data := .fields #[.int s4.gens.size 0, .str "<genexpr>" (s4.toks + 1), .str (X.env.qual ++ "<genexpr>") (s4.toks + 1 + 1)] } }) X.xe { s2 with heap := h3, toks := tk } := by
    intro code h3 tk ps' hx hP3 hmore htr3
    obtain ⟨bm, ob, b1, b2, b3, b4, b5, b6, b7, b8⟩ := TB.bm
    refine wpAny_builtinsFor (m := X.mg) ?_ b1 b2 (hx _ _ b4 (I2.bk _ _ b5)) b6 b7 b8 ?_
    · rw [I2.ok.glob]
      exact (I2.mod.glob.keeps I2.bk).extBut hx TB.gP
    obtain ⟨more, rfl⟩ := hmore
    have I3 : Inv X pins σ (upd H1 P (.tbl (ps ++ more))) { s2 with heap := h3, toks := tk } := GxR.inv_tab (more := more) (h' := h3) (g' := s2.gens) (d' := s2.drawn) (t' := tk) I2 hP hx hP3 I2.bare
    have tab : GxR.Tabbed P H1 (upd H1 P (.tbl (ps ++ more))) := ⟨⟨_, upd_same, htr3⟩, fun b hb => upd_ne hb⟩
    obtain ⟨W, ⟨m0, w0⟩, turn⟩ := q _ tab
    have t3 : tn 0 h3 := T.keep _ _ _ t2 fun b hb o e => hx b o (nP b hb) e
    have f3 : ∀ b ∈ fp, FpOk X pins (upd H1 P (.tbl (ps ++ more))) b ∧ b < h3.objs.size := fun b hb => by
      refine ⟨⟨?_, (f2 b hb).2⟩, ?_⟩
      · rw [upd_ne (nP b hb)]
        exact (f2 b hb).1
      · obtain ⟨o, e, _⟩ := T.obj _ _ t3 b hb
        exact Heap.lt_size e
    generalize upd H1 P (.tbl (ps ++ more)) = H3 at I3 w0 f3
    intro h' hn' hs'
    generalize hs4 : ({ s2 with heap := h3, toks := tk } : Shared) = s4 at I3 hn' hs' ⊢
    have e4 : s4.heap = h3 := by rw [← hs4]
    rw [← e4] at t3 f3
    have hsz : h'.objs.size = s4.heap.objs.size + 1 := by rw [hs'.1, Heap.size_push]
    have hk : ∀ b o, s4.heap.get? b = some o → h'.get? b = some o := fun b o e => by
      rw [hs'.2 b (Nat.ne_of_lt (Heap.lt_size e))]
      exact Heap.get?_push_of_some _ e
    generalize hgo : ({ cls := .type "generator", data := .fields #[.int s4.gens.size 0, .str "<genexpr>" (s4.toks + 1), .str (X.env.qual ++ "<genexpr>") (s4.toks + 1 + 1)] } : Obj) = go
    have isg : ∀ hh : Heap, hh.get? h'.objs.size = some go → hh.IsGen h'.objs.size s4.gens.size := fun hh e => ⟨go, _, _, e, by rw [← hgo], by rw [← hgo], by rw [← hgo]⟩
    have hga : (h'.push go).get? h'.objs.size = some go := Heap.get?_push_size _ (by rw [← hgo]; rfl)
    have rmA : Room k (X.A.in1.in1.deeper (genEnv scope (cloFrom X.env.cells scope.names []) s4.heap.objs.size code builtinsNs X.env)) := by
      refine ⟨hr.hd, ?_, ?_⟩
      · have := hr.dp
        show X.A.depth + 1 + 3 * k + 5 < _
        omega
      · have := hr.un
        show X.A.units + 1 + 1 + 3 + 16 * k + 200 < _
        omega
    have bare : AllBare (s4.gens.push (.fresh (.compStart (.GeneratorExp elt [⟨tg, iter, ifs, 0⟩] scope gpos) 0 (.ref it) .none (genEnv scope (cloFrom X.env.cells scope.names []) s4.heap.objs.size code builtinsNs X.env)))) := I3.bare.push rfl
    have J := gen_start (A := X.A.in1.in1.deeper (genEnv scope (cloFrom X.env.cells scope.names []) s4.heap.objs.size code builtinsNs X.env)) (code := code) (go := go) (tk := s4.toks + 1 + 1 + 1) I3 S.blk hN S.cell f3 hr.hd
      (by show X.A.frames.map _ = _; rw [I3.ok.frames]; rfl) hn' hk (fun v z => by rw [← hgo] at z; cases z) hga hsz bare
    have pg := hg _ s4 H3 s4.heap.objs.size code fp rmA
    have pt := ht _ s4 H3 s4.heap.objs.size code fp rmA
    have pe := he _ s4 H3 s4.heap.objs.size code fp rmA
    have hco : (genEnv scope (cloFrom X.env.cells scope.names []) s4.heap.objs.size code builtinsNs X.env).scope.isCoroutine = false := S.co
    generalize genEnv scope (cloFrom X.env.cells scope.names []) s4.heap.objs.size code builtinsNs X.env = cenv at J pg pt pe rmA bare hco ⊢
    have out : ∀ p ∈ [(h'.objs.size, go)], p.1 ∉ fp := fun p hp z => by
      rw [List.mem_singleton.mp hp] at z
      have := (f3 _ z).2
      have z3 : h'.objs.size < s4.heap.objs.size := this
      omega
    have kp5 : ∀ b o, s4.heap.get? b = some o → (h'.push go).get? b = some o := fun b o e => Heap.get?_push_of_some _ (hk b o e)
    refine ⟨h'.objs.size, gctx X (X.A.in1.in1.deeper cenv) s4 H3 scope cenv fp, [(h'.objs.size, go)], go, s4.gens.size, m0 + 1, _, rfl, rfl, rfl, List.mem_singleton.mpr rfl, isg, isg _ hga, I3.nolimit.keeps kp5, Array.getElem?_push_size .., ⟨rfl, ?_⟩, fun σ' H' s' I' => ?_⟩
    · refine seg_first (fun A Q E hq => T.self A 0 _ Q E (T.keep _ _ _ t3 fun b _ o e => kp5 b o e) hq) ?_
      exact seg_turns hc hco out T pg pt pe turn m0 (m0 + 1) (Nat.lt_succ_self _) 0 _ _ H3 (inv_heap J rfl rfl (allBare_setGen (s := { s4 with gens := _, toks := _, heap := _ }) bare rfl)) (T.keep _ _ _ t3 fun b _ o e => kp5 b o e) (fun b hb => (f3 b hb).1.1) w0
    · exact I3.call' (ch := fp) I'.os I'.base I'.hok I'.bare fun b hb => ⟨(f3 b hb).1.2.2.2.1, (f3 b hb).1.2.1, (f3 b hb).1.2.2.2.2.1, (f3 b hb).1.2.2.2.2.2⟩
  cases hf : codeAmong gpos ps.toList with
  | none =>
    refine wpAny_genexprCodeX hcode (cd.code oP htr) (cd.tab oP) hf fun c' h' tk hx hge hlt hco' _ htab' _ => ?_
    obtain ⟨o1, v1, f1, tf, fl, t1, inF, tx, t0, op, _, _, _, _, _, _, _, _, _, htr', _⟩ := hco'
    exact rest _ h' tk _ hx htab'.2 ⟨_, rfl⟩ htr'
  | some cv =>
    refine wpAny_genexprCode_hit hcode (cd.code oP htr) hf ?_
    exact rest cv s2.heap s2.toks ps (Heap.ExtBut.refl _ _) oP ⟨#[], by simp⟩ htr
/-- THE RULE: all(elt for tg in iter if ..) -/
theorem pe_allG {c P : Addr} {elt tg iter : Expr} {ifs : List Expr} {p pos gpos : Pos} {scope : Scope} {own : List (Str × Nat)} {wi : TI} {g : TG} {tt : TT} {te : TE} {k : Nat}
    (hc : X.calm = true) (hN : X.N.Nodup) (hr : Room (k + 1) X.A) (hgl : Gl X "all") (hm : X.mg "all" = none) (TB : GxR.TabB X.base X.mg c P) (hcode : X.env.code = .ref c) (S : GSc X.N X.env.scope scope own) (hi : PI X tg iter wi)
    (hg : ∀ (A : Around) (s : Shared) (H : Hp) (C : Addr) (code : Value) (fp : List Addr), Room k A → PG (gctx X A s H scope (genEnv scope (cloFrom X.env.cells scope.names []) C code builtinsNs X.env) fp) tg g)
    (ht : ∀ (A : Around) (s : Shared) (H : Hp) (C : Addr) (code : Value) (fp : List Addr), Room k A → PTs (gctx X A s H scope (genEnv scope (cloFrom X.env.cells scope.names []) C code builtinsNs X.env) fp) ifs tt)
    (he : ∀ (A : Around) (s : Shared) (H : Hp) (C : Addr) (code : Value) (fp : List Addr), Room k A → PE (gctx X A s H scope (genEnv scope (cloFrom X.env.cells scope.names []) C code builtinsNs X.env) fp) elt te)
    (hs : ∀ v, genFold iter X.env v = pure v := by intro _; rfl) (hb : bootBuiltins "all" = some (.builtin "all") := by decide +kernel)
    (hse : starEach [.GeneratorExp elt [⟨tg, iter, ifs, 0⟩] scope gpos] X.env = (false, eval (.GeneratorExp elt [⟨tg, iter, ifs, 0⟩] scope gpos) X.env) :: starEach [] X.env := by rfl) :
    PE X (.Call (.Name "all" p) [.GeneratorExp elt [⟨tg, iter, ifs, 0⟩] scope gpos] [] pos) (tAG P false wi g tt te (own.map (·.2))) := by
  refine ⟨fun pins s σ H Q I h => ?_⟩
  refine wpAny_Call_Name_kw (ld_blt I hgl hm hb (PyProof.Rows.callWith_builtin1 ?_ hse (by rfl)))
  rw [hse]
  show wpAny _ _ (spliced ((false, eval (.GeneratorExp elt [⟨tg, iter, ifs, 0⟩] scope gpos) X.env) :: backTo pos (starEach [] X.env))) _ _ s
  refine Calls.spliced_cons (thn (gen_make hc hN hr TB hcode S hi hg ht he hs I h) fun u s5 hu => ?_)
  obtain ⟨a, Y, pn, go, gi, n, gs, rfl, eP, eW, hpa, hgen, isg, lim, hgs, goes, back⟩ := hu
  refine Calls.spliced_nil (PySem.call_function_tree F.kind_all F.plain_all F.entry_all (F.args_all1 _) ?_)
  unfold Builtin.«all»
  refine wpAny_bind (m := oneArg "all" _) (wpAny_pure (wpAny_bind (wpAny_pyIter_gen isg ?_)))
  rw [← eP, ← eW] at goes ⊢
  exact wpAny_pure ⟨plainId_quiet F.plain_all_loop _, all_walk hr.hd (by have := hr.dp; omega) hpa hgen
    (fun σ' H' s' J q => ⟨.bl true, H', back σ' H' s' J, rfl, q⟩) (fun σ' H' s' J q => ⟨.bl false, H', back σ' H' s' J, rfl, q⟩) n s5 gs isg lim hgs goes⟩
/-- THE RULE: any(elt for tg in iter if ..) -/
theorem pe_anyG {c P : Addr} {elt tg iter : Expr} {ifs : List Expr} {p pos gpos : Pos} {scope : Scope} {own : List (Str × Nat)} {wi : TI} {g : TG} {tt : TT} {te : TE} {k : Nat}
    (hc : X.calm = true) (hN : X.N.Nodup) (hr : Room (k + 1) X.A) (hgl : Gl X "any") (hm : X.mg "any" = none) (TB : GxR.TabB X.base X.mg c P) (hcode : X.env.code = .ref c) (S : GSc X.N X.env.scope scope own) (hi : PI X tg iter wi)
    (hg : ∀ (A : Around) (s : Shared) (H : Hp) (C : Addr) (code : Value) (fp : List Addr), Room k A → PG (gctx X A s H scope (genEnv scope (cloFrom X.env.cells scope.names []) C code builtinsNs X.env) fp) tg g)
    (ht : ∀ (A : Around) (s : Shared) (H : Hp) (C : Addr) (code : Value) (fp : List Addr), Room k A → PTs (gctx X A s H scope (genEnv scope (cloFrom X.env.cells scope.names []) C code builtinsNs X.env) fp) ifs tt)
    (he : ∀ (A : Around) (s : Shared) (H : Hp) (C : Addr) (code : Value) (fp : List Addr), Room k A → PE (gctx X A s H scope (genEnv scope (cloFrom X.env.cells scope.names []) C code builtinsNs X.env) fp) elt te)
    (hs : ∀ v, genFold iter X.env v = pure v := by intro _; rfl) (hb : bootBuiltins "any" = some (.builtin "any") := by decide +kernel)
    (hse : starEach [.GeneratorExp elt [⟨tg, iter, ifs, 0⟩] scope gpos] X.env = (false, eval (.GeneratorExp elt [⟨tg, iter, ifs, 0⟩] scope gpos) X.env) :: starEach [] X.env := by rfl) :
    PE X (.Call (.Name "any" p) [.GeneratorExp elt [⟨tg, iter, ifs, 0⟩] scope gpos] [] pos) (tAG P true wi g tt te (own.map (·.2))) := by
  refine ⟨fun pins s σ H Q I h => ?_⟩
  refine wpAny_Call_Name_kw (ld_blt I hgl hm hb (PyProof.Rows.callWith_builtin1 ?_ hse (by rfl)))
  rw [hse]
  show wpAny _ _ (spliced ((false, eval (.GeneratorExp elt [⟨tg, iter, ifs, 0⟩] scope gpos) X.env) :: backTo pos (starEach [] X.env))) _ _ s
  refine Calls.spliced_cons (thn (gen_make hc hN hr TB hcode S hi hg ht he hs I h) fun u s5 hu => ?_)
  obtain ⟨a, Y, pn, go, gi, n, gs, rfl, eP, eW, hpa, hgen, isg, lim, hgs, goes, back⟩ := hu
  refine Calls.spliced_nil (PySem.call_function_tree F.kind_any F.plain_any F.entry_any (F.args_any1 _) ?_)
  unfold Builtin.«any»
  refine wpAny_bind (m := oneArg "any" _) (wpAny_pure (wpAny_bind (wpAny_pyIter_gen isg ?_)))
  rw [← eP, ← eW] at goes ⊢
  exact wpAny_pure ⟨plainId_quiet F.plain_any_loop _, any_walk hr.hd (by have := hr.dp; omega) hpa hgen
    (fun σ' H' s' J q => ⟨.bl false, H', back σ' H' s' J, rfl, q⟩) (fun σ' H' s' J q => ⟨.bl true, H', back σ' H' s' J, rfl, q⟩) n s5 gs isg lim hgs goes⟩
end
section
variable {J : It} {n : Nat} {G : Hp → Prop} {Y : Nat → Hp → V → Hp → Prop}
/-- a walk's turns, by what holds between two of them -/
theorem ag_it (w : Walk J n G Y) {g : TG} {tt : TT} {te : TE} {vs : List Nat} {σ : L2.St} {H2 : Hp} {st : Bool} {Qt Qs : Hp → Prop} (Pv : Nat → Hp → Prop) (h0 : Pv 0 H2) (hG : ∀ i H, i ≤ n → Pv i H → G H)
    (hs : ∀ i x H H', i < n → Pv i H → Y i H x H' → g x (wipe σ vs) H' fun σ2 H2 => wipe σ2 vs = wipe σ vs ∧ tt σ2 H2 fun b H3 =>
      if b = true then te σ2 H3 fun y H4 => ∃ c, y = .bl c ∧ (c = st → Qs H4) ∧ (c ≠ st → Pv (i + 1) H4) else Pv (i + 1) H3) (hd : ∀ H, Pv n H → Qt H) :
    ∃ W : Nat → Nat → Hp → Prop, (∃ m, W 0 m H2) ∧ ∀ i m H', W i m H' → Step J g tt te vs σ st Qt Qs W i m H' := by
  refine ⟨fun i m H => m = n - i ∧ i ≤ n ∧ Pv i H, ⟨n, by simp, Nat.zero_le _, h0⟩, ?_⟩
  rintro i m H ⟨rfl, hi, p⟩
  have q := hG i H hi p
  by_cases hlt : i < n
  · exact .inr ⟨w.goes i H hlt q, Pv (i + 1), fun H' p' => ⟨n - (i + 1), by omega, rfl, hlt, p'⟩, fun x H' y => hs i x H H' hlt p (w.yields i H x H' hlt q y)⟩
  · have e : i = n := by omega
    subst e
    exact .inl ⟨w.stops H q, hd H p⟩
end
/-! ### a def whose code has a table; the end -/
structure FunC (K : PySem.W.Frag) (x qual : Str) (st : Stmt) (f : Addr) (fd : FuncData) (c : Addr) : Prop where
  ex : ∃ (oc : Value) (od : Option Addr) (kV doc pm : Value) (an : Option Addr) (ct : Value) (osl : Array (Option Value)),
    fd = PySem.W.fnOf x qual (defArgs st) (defBody st) (defScope st) .none kV doc pm an (.ref c) ct ∧ K.lookup f = some ⟨oc, od, .func fd, osl⟩ ∧ PySem.W.codeIn K (.ref c) qual = true
  kp : PySem.W.keepIn K (.ref f) = true
theorem FunC.toFun {K : PySem.W.Frag} {x qual : Str} {st : Stmt} {f : Addr} {fd : FuncData} {c : Addr} (F : FunC K x qual st f fd c) : Fun K x qual st f fd := by
  obtain ⟨oc, od, kV, doc, pm, an, ct, osl, h1, h2, h3⟩ := F.ex
  exact ⟨⟨oc, od, kV, doc, pm, an, _, ct, osl, h1, h2, h3⟩, F.kp⟩
theorem FunC.ok {P : Program} {w : World} {K : PySem.W.Frag} {mg : Str → Option Value} {base : Heap} {x qual : Str} {st : Stmt} {f : Addr} {fd : FuncData} {c : Addr} {N ps : List Str} {k : Nat} {sp : Sp} (F : FunC K x qual st f fd c) (S : FnScope N ps (defScope st))
    (len : ∀ vs H Q E, sp vs H Q E → vs.length = ps.length)
    (hbody : ∀ (A : Around) (outer : List Env) (s : Shared) (H : Hp) (vs : List V) (Q : VK) (E : XK), Room k (A.deeper (envOfC qual (defScope st) s.heap.objs.size f (.ref c))) → sp vs H Q E →
      ∃ t, PSs (cxOf CX0 P w K mg base N qual (defScope st) f (.ref c) A outer s H E).nox (defBody st) t ∧ t { nx := fun _ H' => Q .non H', rt := Q } (start N vs) H) : FnOk P w K mg base CX0 (k + 1) f fd ps sp := by
  obtain ⟨oc, od, kV, doc, pm, an, ct, osl, rfl, lk, hcd⟩ := F.ex
  refine fn_of lk hcd S len fun A outer s H vs Q E hr hsp => ?_
  obtain ⟨t, h, q⟩ := hbody A outer s H vs Q E hr hsp
  exact ⟨t, h.nox, q⟩
theorem funC_mk {K : PySem.W.Frag} {x qual : Str} {st : Stmt} {f c : Addr} {oc : Value} {od an : Option Addr} {osl : Array (Option Value)} {kV doc pm cdv ct : Value} (l : K.lookup f = some ⟨oc, od, .func (PySem.W.fnOf x qual (defArgs st) (defBody st) (defScope st) .none kV doc pm an cdv ct), osl⟩)
    (e : cdv = .ref c) (h : PySem.W.codeIn K cdv qual = true) (k : PySem.W.keepIn K (.ref f) = true) : FunC K x qual st f (PySem.W.fnOf x qual (defArgs st) (defBody st) (defScope st) .none kV doc pm an (.ref c) ct) c := by
  subst e
  exact ⟨⟨oc, od, kV, doc, pm, an, ct, osl, rfl, l, h⟩, k⟩
/-- what the top tells of the tables of its defs -/
def TabsIn (q : Program) (K : PySem.W.Frag) (h : Heap) : Prop := ∀ (x : Str) (d : DefRec) (c P : Addr), (recsOf q).find? (fun e => e.name == x) = some d → PySem.W.tabIn K x = some (c, P) →
  PySem.W.CodeHd h c P ∧ h.get? P = some { cls := .none, data := .fields #[] }
theorem walk_tabs {l : PySem.W.OpenLaw} {n k : Nat} {q : Program} {loose : List Str} {XP : (Str → Option Value) → Heap → Prop} {YP : World → Heap → Prop} {d : DefRec} {K : Params → PySem.W.Frag} {CX : World → CXT} {x : Str}
    (hn : l.most = some n) (hn2 : n ≤ sizeLine) (hdf : d.params.defaults = []) (hr : Room k callerA) (hY : ∀ (w : World) (h : Heap), YP w h → (K w.params).In h)
    (F : ∀ (w : World) (mg : Str → Option Value) (fa : Addr) (h : Heap), (K w.params).In h → h.Ns mainGlobals mg → mg d.name = some (.ref fa) → TabsIn q (K w.params) h → LamX.LawAtS l w (K w.params) (CX w) k n x mg fa h)
    (hCX : ∀ (w : World) (H : Hp) (s : Shared) (e : Value) (s' : Shared), CX w [] H s (fun _ _ _ => False) e s' → False) :
    PySem.W.WalkO q loose XP YP l.row.toRowW d [] (fun f vs => PySem.call f vs) := by
  refine Att.attach_callB hn hdf fun w s0 s1 mg mb fa o pm cd doc a vs ns G Y ho hd hcd hmg hobj hints hlen hbits hg => ?_
  have KX := hY w _ Y
  obtain ⟨fd, cs, sp, hT, nT, C, hb, hsp, hF⟩ := F w mg fa _ KX G.T.g hmg fun x d c P h1 h2 => PySem.W.tab_of G.T KX h1 h2
  exact LamX.law_callTs KX G.T.g G.T.b G.T.builtins G.T.nolimit hg hT nT C G.T.bmain hobj hints (Nat.le_trans hlen hn2) hr hF hb (fun H hH hS => hsp H a ns hlen hbits hH hS) fun H e s' => hCX w H s1 e s'
theorem tabIn_of {K : PySem.W.Frag} {x : Str} {f c P : Addr} {oc e1 : Value} {od dd : Option Addr} {fd : FuncData} {sl s2 : Array (Option Value)} {vs : Array Value} (a : PySem.W.nsIn K mainGlobals x = some (some (.ref f)))
    (l : K.lookup f = some ⟨oc, od, .func fd, sl⟩) (e : fd.code = .ref c) (k : K.lookup c = some ⟨e1, dd, .fields vs, s2⟩) (v : vs[11]? = some (.ref P)) : PySem.W.tabIn K x = some (c, P) := by
  unfold PySem.W.tabIn
  rw [a]
  simp only [l, e, k, v]
theorem tabB {base : Heap} {mg : Str → Option Value} {c P : Addr} (h : LamX.TabB base mg c P) : GxR.TabB base mg c P := ⟨h.code, h.bm, h.gP⟩
end GE

set_option Elab.async false
set_option linter.all false
set_option maxRecDepth 100000
set_option maxHeartbeats 2000000
namespace My
open PySem PySem.Spec PyProof.Rows L2
/-! ### tables -/
def Tbs (Ts : List Addr) (H : Hp) : Prop := ∀ P ∈ Ts, GxR.TabG H P
def Tk (Ts : List Addr) (H H' : Hp) : Prop := (∀ b, b ∉ Ts → H' b = H b) ∧ Tbs Ts H'
theorem Tk.refl {Ts : List Addr} {H : Hp} (h : Tbs Ts H) : Tk Ts H H := ⟨fun _ _ => rfl, h⟩
theorem Tk.trans {Ts : List Addr} {H H1 H2 : Hp} (a : Tk Ts H H1) (b : Tk Ts H1 H2) : Tk Ts H H2 := ⟨fun x hx => (b.1 x hx).trans (a.1 x hx), b.2⟩
theorem Tk.of {Ts : List Addr} {H H1 : Hp} {P : Addr} (h : Tbs Ts H) (hP : P ∈ Ts) (t : GxR.Tabbed P H H1) : Tk Ts H H1 := by
  refine ⟨fun b hb => t.2 b fun z => hb (by rw [z]; exact hP), fun b hb => ?_⟩
  by_cases z : b = P
  · rw [z]; exact t.1
  · obtain ⟨ps, e, q⟩ := h b hb
    exact ⟨ps, by rw [t.2 b z]; exact e, q⟩
theorem Tbs.out {Ts : List Addr} {H : Hp} {b : Addr} {o : HO} (h : Tbs Ts H) (e : H b = some o) (n : ∀ ps, o ≠ .tbl ps) : b ∉ Ts := fun hb => by
  obtain ⟨ps, q, _⟩ := h b hb
  rw [e] at q
  exact n ps (Option.some.inj q)
theorem Tk.at {Ts : List Addr} {H H' : Hp} {b : Addr} {o : HO} (t : Tk Ts H H') (h : Tbs Ts H) (e : H b = some o) (n : ∀ ps, o ≠ .tbl ps) : H' b = some o := by
  rw [t.1 b (h.out e n)]; exact e
theorem Tk.tup {Ts : List Addr} {H H' : Hp} {b : Addr} {xs : List V} (t : Tk Ts H H') (h : Tbs Ts H) (e : H b = some (.tup xs)) : H' b = some (.tup xs) := t.at h e fun ps z => by cases z
theorem Tbs.same {Ts : List Addr} {H H' : Hp} (h : Tbs Ts H) (s : Same H H') : Tbs Ts H' := fun b hb => let ⟨ps, e, q⟩ := h b hb; ⟨ps, s _ _ e, q⟩
theorem Tbs.new {Ts : List Addr} {H : Hp} {p : Addr} {o : HO} (h : Tbs Ts H) (hp : H p = none) : Tbs Ts (upd H p o) := h.same (same_upd hp)
theorem Tbs.kp {Ts : List Addr} {H H' : Hp} {t : Addr} {n : Nat} (h : Tbs Ts H) (hT : Tap H t n) (k : Kp t H H') : Tbs Ts H' := fun b hb => by
  obtain ⟨ps, e, q⟩ := h b hb
  refine ⟨ps, k _ _ (fun z => ?_) e, q⟩
  obtain ⟨_, _, _, _, _, e1, _⟩ := hT
  rw [z, e1] at e
  cases e
theorem Tap.tk {Ts : List Addr} {H H' : Hp} {t : Addr} {n : Nat} (hT : Tap H t n) (h : Tbs Ts H) (k : Tk Ts H H') : Tap H' t n := by
  obtain ⟨c, ns, sp, re, ca, h1, h2, h3⟩ := hT
  exact ⟨c, ns, sp, re, ca, k.at h h1 (fun ps z => by cases z), k.at h h2 (fun ps z => by cases z), h3⟩
/-! ### kinds of things -/
def Typed (H : Hp) : V → Prop
  | .non => True
  | .bl _ => True
  | .int _ => True
  | .str _ => True
  | .ref a => (∃ xs, H a = some (.tup xs)) ∨ (∃ xs, H a = some (.lst xs)) ∨ (∃ kvs, H a = some (.dK kvs))
  | _ => False
theorem Typed.of {H H' : Hp} {v : V} (h : Typed H v) (s : ∀ b o, H b = some o → (∀ ps, o ≠ .tbl ps) → v = .ref b → H' b = some o) : Typed H' v := by
  cases v with
  | ref a =>
    rcases h with ⟨xs, h⟩ | ⟨xs, h⟩ | ⟨xs, h⟩
    · exact .inl ⟨xs, s _ _ h (fun ps z => by cases z) rfl⟩
    · exact .inr (.inl ⟨xs, s _ _ h (fun ps z => by cases z) rfl⟩)
    · exact .inr (.inr ⟨xs, s _ _ h (fun ps z => by cases z) rfl⟩)
  | _ => exact h
theorem Typed.same {H H' : Hp} {v : V} (h : Typed H v) (s : Same H H') : Typed H' v := h.of fun b o e _ _ => s b o e
theorem Typed.tk {Ts : List Addr} {H H' : Hp} {v : V} (h : Typed H v) (t : Tk Ts H H') (hb : Tbs Ts H) : Typed H' v := h.of fun b o e n _ => t.at hb e n
/-- whether a thing is of a built-in kind -/
def kindB (H : Hp) (n : String) : V → Bool
  | .non => false
  | .bl _ => n == "bool" || n == "int"
  | .int _ => n == "int"
  | .str _ => n == "str"
  | .ref a => match H a with
    | some (.tup _) => n == "tuple"
    | some (.lst _) => n == "list"
    | some (.dK _) => n == "dict"
    | _ => false
  | _ => false
theorem ty_kind {K : PySem.W.Frag} {H : Hp} {v : V} {n : String} (hn : n = "int" ∨ n = "bool" ∨ n = "str" ∨ n = "tuple") (h : Typed H v) : ∃ t, TyX K H v t ∧ PySem.W.kitOne K t (.type n) = some (kindB H n v) := by
  cases v with
  | non => rcases hn with rfl | rfl | rfl | rfl <;> exact ⟨_, .base .non, kit_ty (r := false) (by decide +kernel)⟩
  | bl b =>
    rcases hn with rfl | rfl | rfl | rfl
    · exact ⟨_, .base (.bl b), kit_ty (r := true) (by decide +kernel)⟩
    · exact ⟨_, .base (.bl b), kit_ty (r := true) (by decide +kernel)⟩
    · exact ⟨_, .base (.bl b), kit_ty (r := false) (by decide +kernel)⟩
    · exact ⟨_, .base (.bl b), kit_ty (r := false) (by decide +kernel)⟩
  | int i =>
    rcases hn with rfl | rfl | rfl | rfl
    · exact ⟨_, .base (.int i), kit_ty (r := true) (by decide +kernel)⟩
    · exact ⟨_, .base (.int i), kit_ty (r := false) (by decide +kernel)⟩
    · exact ⟨_, .base (.int i), kit_ty (r := false) (by decide +kernel)⟩
    · exact ⟨_, .base (.int i), kit_ty (r := false) (by decide +kernel)⟩
  | str x =>
    rcases hn with rfl | rfl | rfl | rfl
    · exact ⟨_, .base (.str x), kit_ty (r := false) (by decide +kernel)⟩
    · exact ⟨_, .base (.str x), kit_ty (r := false) (by decide +kernel)⟩
    · exact ⟨_, .base (.str x), kit_ty (r := true) (by decide +kernel)⟩
    · exact ⟨_, .base (.str x), kit_ty (r := false) (by decide +kernel)⟩
  | ref a =>
    rcases h with ⟨xs, h⟩ | ⟨xs, h⟩ | ⟨xs, h⟩
    · refine ⟨_, .base (.tup h), ?_⟩
      have e : kindB H n (.ref a) = (n == "tuple") := by simp only [kindB, h]
      rw [e]
      rcases hn with rfl | rfl | rfl | rfl <;> exact kit_ty (by decide +kernel)
    · refine ⟨_, .base (.lst h), ?_⟩
      have e : kindB H n (.ref a) = (n == "list") := by simp only [kindB, h]
      rw [e]
      rcases hn with rfl | rfl | rfl | rfl <;> exact kit_ty (by decide +kernel)
    · refine ⟨_, .base (.dK h), ?_⟩
      have e : kindB H n (.ref a) = (n == "dict") := by simp only [kindB, h]
      rw [e]
      rcases hn with rfl | rfl | rfl | rfl <;> exact kit_ty (by decide +kernel)
  | _ => exact h.elim
def isN : V → Bool
  | .int _ => true
  | _ => false
theorem isN_int {v : V} (h : isN v = true) : ∃ i, v = .int i := by
  cases v <;> first | exact ⟨_, rfl⟩ | exact Bool.noConfusion (show false = true from h)
theorem isN_kind {H : Hp} {v : V} (h : Typed H v) : isN v = (kindB H "int" v && !kindB H "bool" v) := by
  cases v with
  | ref a => rcases h with ⟨xs, h⟩ | ⟨xs, h⟩ | ⟨xs, h⟩ <;> simp [isN, kindB, h]
  | bl b => simp [isN, kindB]
  | int i => simp [isN, kindB]
  | _ => simp [isN, kindB]
def inW (v : V) (a b : Int) : Bool := match v with
  | .int i => decide (a ≤ i) && decide (i ≤ b)
  | _ => false
theorem inW_not {v : V} {a b : Int} (h : ¬ isN v = true) : inW v a b = false := by
  cases v <;> first | rfl | exact absurd rfl h
def spNum : Sp := fun vs H Q _ => ∃ v, vs = [v] ∧ Typed H v ∧ Q (.bl (isN v)) H
def spWithin : Sp := fun vs H Q _ => ∃ v a b, vs = [v, .int a, .int b] ∧ Typed H v ∧ Q (.bl (inW v a b)) H
/-- each is below the next -/
def risB : List Int → Bool
  | a :: b :: r => decide (a < b) && risB (b :: r)
  | _ => true
theorem ris_iff : ∀ ws : List Int, risB ws = true ↔ ∀ (k : Nat) (x y : Int), ws[k]? = some x → ws[k + 1]? = some y → x < y
  | [] => by simp [risB]
  | [a] => by simp [risB]
  | a :: b :: r => by
    rw [risB, Bool.and_eq_true, decide_eq_true_eq, ris_iff (b :: r)]
    constructor
    · rintro ⟨h, t⟩ k x y h1 h2
      cases k with
      | zero =>
        have e1 : a = x := Option.some.inj h1
        have e2 : b = y := Option.some.inj h2
        rw [← e1, ← e2]; exact h
      | succ k => exact t k x y h1 h2
    · intro t
      exact ⟨t 0 a b rfl rfl, fun k x y h1 h2 => t (k + 1) x y h1 h2⟩
/-! ### homes and names -/
def unI : V → Int
  | .int i => i
  | _ => 0
def homeV (xs : List V) : Bool := xs.all (fun x => inW x 0 6) && risB (xs.map unI)
def homeB (H : Hp) : V → Bool
  | .ref a => match H a with
    | some (.tup xs) => homeV xs
    | _ => false
  | _ => false
theorem map_unI : ∀ {xs : List V}, (∀ x ∈ xs, inW x 0 6 = true) → xs = (xs.map unI).map V.int
  | [], _ => rfl
  | x :: r, h => by
    have hx := h x List.mem_cons_self
    obtain ⟨i, rfl⟩ : ∃ i, x = .int i := by
      cases x <;> first | exact ⟨_, rfl⟩ | exact Bool.noConfusion (show false = true from hx)
    rw [List.map_cons, List.map_cons, ← map_unI fun y hy => h y (List.mem_cons_of_mem _ hy)]
    rfl
/-- a thing, and what is in it where it is a tuple -/
def Deep (H : Hp) (v : V) : Prop := Typed H v ∧ ∀ a xs, v = .ref a → H a = some (.tup xs) → xs.length ≤ 1000 ∧ ∀ x ∈ xs, Typed H x
theorem kind_tup {H : Hp} {v : V} (h : Typed H v) (k : kindB H "tuple" v = true) : ∃ a xs, v = .ref a ∧ H a = some (.tup xs) := by
  cases v with
  | ref a =>
    rcases h with ⟨xs, e⟩ | ⟨xs, e⟩ | ⟨xs, e⟩
    · exact ⟨a, xs, rfl, e⟩
    · simp [kindB, e] at k
    · simp [kindB, e] at k
  | _ => simp [kindB] at k
theorem not_tup {H : Hp} {v : V} (k : ¬ kindB H "tuple" v = true) : homeB H v = false := by
  cases v with
  | ref a =>
    show (match H a with | some (.tup xs) => homeV xs | _ => false) = false
    cases e : H a with
    | none => rfl
    | some o =>
      cases o with
      | tup xs => exact absurd (by simp [kindB, e]) k
      | _ => rfl
  | _ => rfl
def signOk (c : Nat) : Bool := decide (97 ≤ c) && decide (c ≤ 122)
theorem le_a (c : Nat) : (!decide (([c] : List Nat) < [97])) = decide (97 ≤ c) := by
  by_cases h : 97 ≤ c
  · simp [List.cons_lt_cons_iff, h]
  · simp [List.cons_lt_cons_iff, h]; omega
theorem le_z (c : Nat) : (!decide (([122] : List Nat) < [c])) = decide (c ≤ 122) := by
  by_cases h : c ≤ 122
  · simp [List.cons_lt_cons_iff, h]
  · simp [List.cons_lt_cons_iff, h]; omega
def nameB : V → Bool
  | .str z => (decide (1 ≤ z.length) && decide (z.length ≤ 8)) && z.cps.toList.all signOk
  | _ => false
/-- a text of few plain signs -/
def Plain (z : Str) : Prop := z.length ≤ 100 ∧ ∀ c ∈ z.cps.toList, c < 128
def PlainV : V → Prop
  | .str z => Plain z
  | _ => True
theorem kind_str {H : Hp} {v : V} (h : Typed H v) (k : kindB H "str" v = true) : ∃ z, v = .str z := by
  cases v with
  | str z => exact ⟨z, rfl⟩
  | ref a => rcases h with ⟨xs, e⟩ | ⟨xs, e⟩ | ⟨xs, e⟩ <;> simp [kindB, e] at k
  | _ => simp [kindB] at k
theorem not_str {H : Hp} {v : V} (k : ¬ kindB H "str" v = true) : nameB v = false := by
  cases v with
  | str z => exact absurd (by simp [kindB]) k
  | _ => rfl
theorem all_get {α : Type} {l : List α} {f : α → Bool} (h : ∀ (k : Nat) (x : α), l[k]? = some x → f x = true) : l.all f = true := by
  rw [List.all_eq_true]
  intro x hx
  obtain ⟨k, hk, e⟩ := List.getElem_of_mem hx
  exact h k x (by rw [List.getElem?_eq_getElem hk, e])
theorem all_not {α : Type} {l : List α} {f : α → Bool} {k : Nat} {x : α} (h : l[k]? = some x) (e : f x = false) : l.all f = false := by
  cases z : l.all f
  · rfl
  · rw [List.all_eq_true] at z
    rw [z x (List.mem_of_getElem? h)] at e
    cases e
/-! ### lists of signs compared -/
def sg (c : Nat) : Str := ⟨#[c]⟩
theorem dp_signs {K : PySem.W.Frag} {H : Hp} : ∀ cs : List Nat, DpAll K H (cs.map fun c => V.str (sg c)) (cs.map fun c => PyData.str (sg c))
  | [] => .nil
  | c :: r => .cons (.str _) (dp_signs r)
theorem lay_signs : ∀ {cs : List Nat}, (∀ c ∈ cs, c < 128) → PyData.canLayAll0 (cs.map fun c => PyData.str (sg c)) = true
  | [], _ => by simp [PyData.canLayAll0]
  | c :: r, h => by
    have h1 := h c List.mem_cons_self
    have h2 := lay_signs fun d hd => h d (List.mem_cons_of_mem _ hd)
    rw [List.map_cons, PyData.canLayAll0, h2, PyData.canLay0, Bool.and_true]
    simp [sg, PyData.strOk]
    omega
theorem depth_signs : ∀ cs : List Nat, PyData.depthAll (cs.map fun c => PyData.str (sg c)) = 0
  | [] => by simp [PyData.depthAll]
  | c :: r => by
    rw [List.map_cons, PyData.depthAll, depth_signs r]
    simp [PyData.depth]
theorem shaped_signs {cs : List Nat} (h : ∀ c ∈ cs, c < 128) : SeqAt.shaped (.list (cs.map fun c => PyData.str (sg c))) = true := by
  unfold SeqAt.shaped
  rw [Bool.and_eq_true, PyData.canLay0, PyData.depth, depth_signs]
  exact ⟨lay_signs h, by decide⟩
theorem eqv_signs (cs : List Nat) : PyData.eqv (.list (cs.map fun c => PyData.str (sg c))) (.list []) = cs.isEmpty := by
  cases cs with
  | nil => simp [PyData.eqv, PyData.eqvAll]
  | cons c r => simp [PyData.eqv, PyData.eqvAll]
def homeFrom (f : Int) : List V → Bool
  | [] => true
  | .int i :: r => if i ≤ f ∨ 6 < i then false else homeFrom i r
  | _ :: _ => false
theorem homeFrom_eq : ∀ (xs : List V) (f : Int), -1 ≤ f → homeFrom f xs = (xs.all (fun x => inW x 0 6) && risB (f :: xs.map unI))
  | [], f, _ => rfl
  | x :: r, f, hf => by
    rw [List.all_cons, List.map_cons]
    cases x with
    | int i =>
      rw [homeFrom, risB]
      by_cases h : i ≤ f ∨ 6 < i
      · rw [if_pos h]
        rcases h with h | h
        · have : decide (f < unI (.int i)) = false := decide_eq_false (show ¬ f < i by omega)
          rw [this]
          simp
        · have : inW (.int i) 0 6 = false := by
            show (decide (0 ≤ i) && decide (i ≤ 6)) = false
            rw [decide_eq_false (show ¬ i ≤ 6 by omega), Bool.and_false]
          rw [this]
          simp
      · rw [if_neg h, homeFrom_eq r i (by omega)]
        have h1 : inW (.int i) 0 6 = true := by
          show (decide (0 ≤ i) && decide (i ≤ 6)) = true
          rw [decide_eq_true (show 0 ≤ i by omega), decide_eq_true (show i ≤ 6 by omega)]
          rfl
        have h2 : decide (f < unI (.int i)) = true := decide_eq_true (show f < i by omega)
        rw [h1, h2, Bool.true_and, Bool.true_and]
        rfl
    | _ => rfl
theorem homeV_from (xs : List V) : homeV xs = homeFrom (-1) xs := by
  rw [homeFrom_eq xs (-1) (by omega), homeV]
  cases xs with
  | nil => rfl
  | cons x r =>
    rw [List.all_cons, List.map_cons, risB]
    cases h : inW x 0 6
    · simp
    · have : decide ((-1 : Int) < unI x) = true := by
        cases x <;> first | exact Bool.noConfusion (show false = true from h) | skip
        rename_i i
        have h : (decide (0 ≤ i) && decide (i ≤ 6)) = true := h
        rw [Bool.and_eq_true, decide_eq_true_eq] at h
        exact decide_eq_true (show -1 < i by omega)
      simp [this]
theorem letters_eq : (Str.ofString "abcdefghijklmnopqrstuvwxyz").cps.toList = List.range' 97 26 := by decide +kernel
theorem in_letters (c : Nat) : decide (c ∈ (Str.ofString "abcdefghijklmnopqrstuvwxyz").cps.toList) = signOk c := by
  rw [letters_eq, signOk, ← Bool.decide_and]
  refine decide_eq_decide.mpr ?_
  rw [List.mem_range'_1]
  omega
theorem take_filter {α : Type} {l : List α} {i : Nat} {c : α} (f : α → Bool) (h : l[i]? = some c) : (l.take (i + 1)).filter f = (l.take i).filter f ++ (if f c = true then [c] else []) := by
  rw [List.take_add_one, h, List.filter_append]
  congr 1
  by_cases e : f c = true
  · simp [e]
  · simp [e]
theorem filter_empty {l : List Nat} : (l.filter fun c => !signOk c).isEmpty = l.all signOk := by
  induction l with
  | nil => rfl
  | cons c r ih =>
    rw [List.filter_cons, List.all_cons]
    cases e : signOk c
    · simp
    · simpa using ih
/-! ### plain texts -/
theorem Plain.app {a b : Str} {n m : Nat} (ha : a.length ≤ n) (hb : b.length ≤ m) (h : n + m ≤ 100) (ca : ∀ c ∈ a.cps.toList, c < 128) (cb : ∀ c ∈ b.cps.toList, c < 128) : Plain (a ++ b) := by
  refine ⟨?_, fun c hc => ?_⟩
  · rw [PySem.Str.length_append]; omega
  · rw [PySem.Str.cps_append, Array.toList_append] at hc
    rcases List.mem_append.mp hc with z | z
    · exact ca c z
    · exact cb c z
theorem app_chars {a b : Str} (ca : ∀ c ∈ a.cps.toList, c < 128) (cb : ∀ c ∈ b.cps.toList, c < 128) : ∀ c ∈ (a ++ b).cps.toList, c < 128 := fun c hc => by
  rw [PySem.Str.cps_append, Array.toList_append] at hc
  rcases List.mem_append.mp hc with z | z
  · exact ca c z
  · exact cb c z
theorem cut_chars {z : Str} (h : ∀ c ∈ z.cps.toList, c < 128) (lo hi : Option Int) : ∀ c ∈ (cutS z lo hi).cps.toList, c < 128 := fun c hc => by
  unfold cutS at hc
  rw [List.toList_toArray] at hc
  exact h c (List.mem_of_mem_drop (List.mem_of_mem_take hc))
theorem one_sign {c : Nat} (h : c < 128) : ∀ d ∈ (⟨#[c]⟩ : Str).cps.toList, d < 128 := fun d hd => by
  have hd : d ∈ [c] := hd
  rw [List.mem_singleton.mp hd]
  exact h
/-! ### tuples put together, cut -/
theorem cat_in {K : PySem.W.Frag} {a b : Addr} {xs ys : List V} {H : Hp} {Q : VK} (ha : H a = some (.tup xs)) (hb : H b = some (.tup ys)) (hl : xs.length + ys.length ≤ 1000)
    (k : ∀ r H', Same H H' → H' r = some (.tup (xs ++ ys)) → Q (.ref r) H') : rCatA K (.ref a) (.ref b) H Q := by
  refine ⟨a, b, xs, ys, rfl, rfl, .inl (.inl ha), .inl (.inl hb), sz hl, fun e => ?_, fun _ e => ?_, fun _ _ p np => ?_⟩
  · subst e
    exact k b H (Same.refl _) hb
  · subst e
    exact k a H (Same.refl _) (by rw [List.append_nil]; exact ha)
  · exact k p _ (same_upd np) upd_same
theorem cut_all (xs : List V) {lo hi : Option Int} (h1 : HT.sIx xs.length 0 lo = 0) (h2 : HT.sIx xs.length xs.length hi = xs.length) : cutV xs lo hi = xs := by
  unfold cutV
  rw [h1, h2, List.drop_zero, Nat.sub_zero, List.take_length]
theorem sl_in {K : PySem.W.Frag} {a : Addr} {xs : List V} {lo hi : Option Int} {H : Hp} {Q : VK} (ha : H a = some (.tup xs)) (k : ∀ r H', Same H H' → H' r = some (.tup (cutV xs lo hi)) → Q (.ref r) H') : rSlA K (.ref a) lo hi H Q := by
  refine ⟨a, xs, rfl, .inl (.inl ha), fun e => k a H (Same.refl _) ?_, fun _ p np => k p _ (same_upd np) upd_same⟩
  rw [cut_all xs e.1 e.2]
  exact ha
theorem cut_mem {xs : List V} {lo hi : Option Int} {x : V} (h : x ∈ cutV xs lo hi) : x ∈ xs := List.mem_of_mem_drop (List.mem_of_mem_take h)
theorem cut_len (xs : List V) (lo hi : Option Int) : (cutV xs lo hi).length ≤ xs.length := by
  unfold cutV
  rw [List.length_take, List.length_drop]
  omega
theorem deep_tup {H : Hp} {r : Addr} {xs : List V} (e : H r = some (.tup xs)) (hl : xs.length ≤ 1000) (hx : ∀ x ∈ xs, Typed H x) : Deep H (.ref r) := by
  refine ⟨.inl ⟨xs, e⟩, fun a ys h1 h2 => ?_⟩
  cases h1
  rw [e] at h2
  cases h2
  exact ⟨hl, hx⟩
theorem deep_flat {H : Hp} {v : V} (h : Typed H v) (n : ∀ a, v ≠ .ref a) : Deep H v := ⟨h, fun a _ e => absurd e (n a)⟩
theorem deep_lst {H : Hp} {r : Addr} {xs : List V} (e : H r = some (.lst xs)) : Deep H (.ref r) := ⟨.inr (.inl ⟨xs, e⟩), fun a ys h1 h2 => by
  cases h1
  rw [e] at h2
  cases h2⟩
theorem deep_dic {H : Hp} {r : Addr} {kvs : List (Key × V)} (e : H r = some (.dK kvs)) : Deep H (.ref r) := ⟨.inr (.inr ⟨kvs, e⟩), fun a ys h1 h2 => by
  cases h1
  rw [e] at h2
  cases h2⟩
theorem Deep.of {H H' : Hp} {v : V} (h : Deep H v) (s : ∀ b o, H b = some o → (∀ ps, o ≠ .tbl ps) → H' b = some o) : Deep H' v := by
  refine ⟨h.1.of fun b o e n _ => s b o e n, fun a xs e1 e2 => ?_⟩
  subst e1
  rcases h.1 with ⟨ys, e⟩ | ⟨ys, e⟩ | ⟨ys, e⟩
  · have e3 := s a _ e fun ps z => by cases z
    rw [e2] at e3
    cases e3
    exact ⟨(h.2 a _ rfl e).1, fun x hx => ((h.2 a _ rfl e).2 x hx).of fun b o e n _ => s b o e n⟩
  · have e3 := s a _ e fun ps z => by cases z
    rw [e2] at e3
    cases e3
  · have e3 := s a _ e fun ps z => by cases z
    rw [e2] at e3
    cases e3
theorem ty_ints {H : Hp} {ws : List Int} : ∀ x ∈ ws.map V.int, Typed H x := fun x hx => by
  obtain ⟨i, _, rfl⟩ := List.mem_map.mp hx
  exact True.intro
theorem dp_ints {K : PySem.W.Frag} {H : Hp} : ∀ ns : List Int, DpAll K H (ns.map V.int) (ns.map PyData.int)
  | [] => .nil
  | n :: r => .cons (.int n) (dp_ints r)
theorem shaped_tints (ns : List Int) : SeqAt.shaped (.tuple (ns.map PyData.int)) = true := by
  have h1 := PySem.W.depthAll_ints ns
  unfold SeqAt.shaped
  rw [Bool.and_eq_true]
  refine ⟨by simp only [PyData.canLay0]; exact PySem.W.canLayAll0_ints ns, decide_eq_true ?_⟩
  simp only [PyData.depth]
  omega
theorem eqv_tints (ns : List Int) : PyData.eqv (.tuple (ns.map PyData.int)) (.tuple []) = ns.isEmpty := by
  cases ns with
  | nil => simp [PyData.eqv, PyData.eqvAll]
  | cons n r => simp [PyData.eqv, PyData.eqvAll]
theorem atI_int {α : Type} {xs : List α} {i : Int} {v : α} (h0 : 0 ≤ i) (h : xs[i.toNat]? = some v) : atI xs i = some v := by
  obtain ⟨j, rfl⟩ := Int.eq_ofNat_of_zero_le h0
  exact atI_nat h
theorem np_in {σ : L2.St} {H : Hp} {Q : Option Int → Hp → Prop} (h : Q none H) : tNoPart σ H Q := h
/-- a tuple that the top has written -/
def KT (K : PySem.W.Frag) (a : Addr) (xs : List V) : Prop := ∃ (o : Obj) (its : Array Value) (n : Nat), K.lookup a = some o ∧ o.cls = .type "tuple" ∧ o.data = .seq its n ∧ its.size ≤ sizeLine ∧ Vals xs its.toList
end My

set_option Elab.async false
set_option linter.all false
set_option maxRecDepth 100000
set_option maxHeartbeats 2000000
/-! x in a tuple of texts, whatever x is -/
namespace My
open PySem PySem.Spec PyProof.Rows L2 PySem.SeqAt
theorem str_declines_dict (b : Str) (u : Tok) (l : Addr) (o : Obj) (es : Array DictEntry) (n : Nat) (hd : o.data = .dict es n) :
    Meets (Builtin.«str.__eq__» ⟨[.str b u, .ref l], []⟩) (fun _ R s => s.heap.get? l = some o ∧ R (.ok (.ret .notImplemented)) s) := by
  obtain ⟨cls, dd, data, sl⟩ := o
  simp only at hd
  subst hd
  refine .of_wp fun prog w A R s h => ?_
  obtain ⟨hp, g, d, tk, os⟩ := s
  obtain ⟨hl, h⟩ := h
  wp_walk using wpAny_loadPart' hl, wpAny_load hl
  exact ⟨_, rfl, h⟩
theorem dict_declines_str (b : Str) (u : Tok) (l : Addr) (o : Obj) (es : Array DictEntry) (n : Nat) (hc : o.cls = .type "dict") (hd : o.data = .dict es n) :
    Meets (Builtin.«dict.__eq__» ⟨[.ref l, .str b u], []⟩) (fun _ R s => s.heap.get? l = some o ∧ R (.ok (.ret .notImplemented)) s) := by
  obtain ⟨cls, dd, data, sl⟩ := o
  simp only at hd hc
  subst hd hc
  refine .of_wp fun prog w A R s h => ?_
  obtain ⟨hp, g, d, tk, os⟩ := s
  obtain ⟨hl, h⟩ := h
  wp_walk using wpAny_loadPart' hl, wpAny_load hl
  refine wpAny_of_eq (show isSubtype (.type "str") (.type "dict") = pure false by rw [isSubtype_type]; kernel_rfl) ?_
  rw [if_pos (by decide)]
  exact wpAny_bind (wpAny_rule (wpAny_pure ⟨_, rfl, h⟩))
section
variable {A : Around} {s : Shared}
theorem eq_str_dict {l : Addr} {o : Obj} {es : Array DictEntry} {n : Nat} (b : Str) (u : Tok) (ho : s.heap.get? l = some o) (hc : o.cls = .type "dict") (hd : o.data = .dict es n) (hu : A.units < cLine) : EqAt A s (.str b u) (.ref l) false := fun prog w E Q h => by
  unfold eqBool
  refine wpAny_holding (wpAny_ite_split (fun hab => absurd (eq_of_beq hab) nofun) fun _ => ?_)
  refine wpAny_bind (rc_eq_decline_or (k := false) (typeIs_str s b u) ⟨_, ho, hc⟩ (by decide) F.sub_dict_str F.slot_str_eq F.slot_dict_eq_refl
    (fun _ hq => call_meets F.slot_str_eq (typeIs_str s b u) F.entry_str_eq (F.args_str_eq_2 _ _) (str_declines_dict b u l o es n hd) ⟨ho, hq⟩)
    (fun _ hq => call_meets F.slot_dict_eq_refl ⟨_, ho, hc⟩ F.entry_dict_eq (F.args_dict_eq_2 _ _) (dict_declines_str b u l o es n hc hd) ⟨ho, hq⟩)
    (fun _ hq => wpAny_of_eq (rfl : isSame (.str b u) (.ref l) = pure false) hq) (.inr hu) (wpAny_truthy_bool h))
end
def strIn (zs : List Str) : V → Bool
  | .str z => zs.any (fun y => y == z)
  | _ => false
def eqS (x : V) : Value → Bool
  | .str y _ => (match x with | .str z => y == z | _ => false)
  | _ => false
section
variable {X : Cx}
theorem eqAt_typed {pins : List (Addr × Obj)} {σ : L2.St} {H : Hp} {s : Shared} {x : V} {v : Value} {A : Around} (I : Inv X pins σ H s) (hx : Typed H x) (rx : RelV x v) (hu : A.units < cLine) (y : Str) (t : Tok) : EqAt A s (.str y t) v (eqS x (.str y t)) := by
  cases x with
  | non => cases rx; exact EqAt.str_none y t
  | bl b => cases rx; exact EqAt.str_bool y t b
  | int i => obtain ⟨u, rfl⟩ := rx; exact EqAt.str_int y t i u
  | str z => obtain ⟨u, rfl⟩ := rx; exact EqAt.str_str y t z u
  | ref a =>
    obtain rfl : v = Value.ref a := rx
    rcases hx with ⟨xs, e⟩ | ⟨xs, e⟩ | ⟨kvs, e⟩
    · obtain ⟨_, its, _, p⟩ := (show ObjOk X.prog X.w H s.heap a (.tup xs) from I.hok a _ e)
      exact EqAt.str_tuple y t p hu
    · obtain ⟨_, its, n, _, p⟩ := (show ObjOk X.prog X.w H s.heap a (.lst xs) from I.hok a _ e)
      exact EqAt.str_list (items := its.toArray) y t ⟨_, p, rfl, n, rfl⟩ hu
    · obtain ⟨_, _, ws, _, o, es, ep, ho, hex, hd, _⟩ := (show ObjOk X.prog X.w H s.heap a (.dK kvs) from I.hok a _ e)
      exact eq_str_dict y t ho hex.1 hd hu
  | _ => exact hx.elim
theorem any_eqS {x : V} : ∀ {zs : List Str} {us : List Value}, Vals (zs.map V.str) us → us.any (eqS x) = strIn zs x
  | [], _, .nil => by cases x <;> rfl
  | z :: zs, _, .cons r t => by
    obtain ⟨k, rfl⟩ := (show ∃ k, _ = Value.str z k from r)
    rw [List.any_cons, any_eqS t]
    cases x with
    | str y => simp [eqS, strIn]
    | _ => simp [eqS, strIn]
def rInS (K : PySem.W.Frag) (neg : Bool) : R2 := fun x y H Q => ∃ (p : Addr) (zs : List Str), y = .ref p ∧ SqT K H p (zs.map V.str) ∧ Typed H x ∧ Q (.bl (if neg then !strIn zs x else strIn zs x)) H
theorem op_notIn_strs (hu : X.A.units + 1 < cLine) : OpR X (compareOp .NotIn) (rInS X.K true) := by
  intro pins s σ H x y v u Q I rx ry h
  obtain ⟨p, zs, rfl, hq, hx, q⟩ := h
  cases ry
  obtain ⟨its, r, pl, hz⟩ := I.tuple hq
  refine notIn_tupleAt (eqS x) pl (fun w hw => ?_) ⟨.bl _, H, I, rfl, ?_⟩
  · have hw : w ∈ its := by simpa using hw
    obtain ⟨z, t, rfl⟩ : ∃ z t, w = Value.str z t := by
      clear q hx rx pl hz
      have key : ∀ {zs : List Str} {us : List Value}, Vals (zs.map V.str) us → w ∈ us → ∃ z t, w = Value.str z t := by
        intro zs
        induction zs with
        | nil => intro us r hw; cases r; cases hw
        | cons z zs ih =>
          intro us r hw
          cases r with
          | cons r t =>
            rcases List.mem_cons.mp hw with e | e
            · obtain ⟨k, e2⟩ := (show ∃ k, _ = Value.str z k from r)
              exact ⟨z, k, e.trans e2⟩
            · exact ih t e
      exact key r hw
    exact eqAt_typed I hx rx hu z t
  · rw [show its.toArray.any (eqS x) = its.any (eqS x) by simp, any_eqS r]
    exact q
end
end My

set_option Elab.async false
set_option linter.all false
set_option maxRecDepth 100000
set_option maxHeartbeats 2000000
/-! PAGES: their forms, told by lists; heaps that grow beside tables -/
namespace My
open PySem PySem.Spec PyProof.Rows L2
/-! ### heaps that grow -/
def Gk (Ts : List Addr) (H H' : Hp) : Prop := (∀ b o, H b = some o → (∀ ps, o ≠ .tbl ps) → H' b = some o) ∧ Tbs Ts H'
theorem Gk.refl {Ts : List Addr} {H : Hp} (h : Tbs Ts H) : Gk Ts H H := ⟨fun _ _ e _ => e, h⟩
theorem Gk.trans {Ts : List Addr} {H H1 H2 : Hp} (a : Gk Ts H H1) (b : Gk Ts H1 H2) : Gk Ts H H2 := ⟨fun x o e n => b.1 x o (a.1 x o e n) n, b.2⟩
theorem Tk.gk {Ts : List Addr} {H H' : Hp} (t : Tk Ts H H') (h : Tbs Ts H) : Gk Ts H H' := ⟨fun _ _ e n => t.at h e n, t.2⟩
theorem Gk.of_same {Ts : List Addr} {H H' : Hp} (s : Same H H') (h : Tbs Ts H) : Gk Ts H H' := ⟨fun _ _ e _ => s _ _ e, h.same s⟩
theorem Gk.new {Ts : List Addr} {H : Hp} {p : Addr} {o : HO} (h : Tbs Ts H) (hp : H p = none) : Gk Ts H (upd H p o) := .of_same (same_upd hp) h
theorem Gk.tup {Ts : List Addr} {H H' : Hp} {b : Addr} {xs : List V} (t : Gk Ts H H') (e : H b = some (.tup xs)) : H' b = some (.tup xs) := t.1 _ _ e fun ps z => by cases z
theorem Deep.gk {Ts : List Addr} {H H' : Hp} {v : V} (h : Deep H v) (g : Gk Ts H H') : Deep H' v := h.of g.1
theorem Typed.gk {Ts : List Addr} {H H' : Hp} {v : V} (h : Typed H v) (g : Gk Ts H H') : Typed H' v := h.of fun b o e n _ => g.1 b o e n
theorem Tap.gk {Ts : List Addr} {H H' : Hp} {t : Addr} {n : Nat} (hT : Tap H t n) (k : Gk Ts H H') : Tap H' t n := by
  obtain ⟨c, ns, sp, re, ca, h1, h2, h3⟩ := hT
  exact ⟨c, ns, sp, re, ca, k.1 _ _ h1 (fun ps z => by cases z), k.1 _ _ h2 (fun ps z => by cases z), h3⟩
theorem homeB_gk {Ts : List Addr} {H H' : Hp} {v : V} (h : Typed H v) (g : Gk Ts H H') : homeB H' v = homeB H v := by
  cases v with
  | ref a =>
    rcases h with ⟨xs, e⟩ | ⟨xs, e⟩ | ⟨xs, e⟩
    · simp only [homeB, e, g.1 _ _ e (fun ps z => by cases z)]
    · simp only [homeB, e, g.1 _ _ e (fun ps z => by cases z)]
    · simp only [homeB, e, g.1 _ _ e (fun ps z => by cases z)]
  | _ => rfl
/-! ### the walk of a zip of two tuples -/
theorem walk_zipT {K : PySem.W.Frag} {a b : Addr} {xs ys : List V} {n : Nat} (hn : n = min xs.length ys.length) : Walk (RZ.ItzT K a b) n (fun H => SqT K H a xs ∧ SqT K H b ys) (YPair (fun i => xs[i]?) (fun i => ys[i]?)) := by
  subst hn
  refine ⟨fun i _ hi q => ?_, fun _ q => ⟨xs, ys, q.1, q.2, by omega⟩, fun i H v H' _ q y => ?_⟩
  · have h1 : i < xs.length := by omega
    have h2 : i < ys.length := by omega
    exact ⟨xs, ys, xs[i], ys[i], q.1, q.2, by simp [h1], by simp [h2]⟩
  · obtain ⟨T, x, z, h1, h2, h3, h4, h5⟩ := y
    exact ⟨T, x, z, h1, h2, h3, h4 xs q.1, h5 ys q.2⟩
/-! ### forms -/
def kinds : List Str := ["house", "part", "join", "home", "mourn", "ahead", "card", "visit"]
def formsOf (k : Str) : Option (List Str) :=
  if k = "house" then some ["name", "home"] else if k = "part" then some ["name", "name", "home"] else if k = "join" then some ["name", "name"]
  else if k = "home" then some ["name", "home"] else if k = "mourn" then some ["name", "many"] else if k = "ahead" then some ["name", "name"]
  else if k = "card" then some ["name", "name"] else if k = "visit" then some ["name", "name"] else none
def fitB (H : Hp) (f : Str) (v : V) : Bool := if f = "name" then nameB v else if f = "home" then homeB H v else inW v 1 60
theorem fitB_gk {Ts : List Addr} {H H' : Hp} {f : Str} {v : V} (h : Typed H v) (g : Gk Ts H H') : fitB H' f v = fitB H f v := by
  unfold fitB
  rw [homeB_gk h g]
/-- all parts fit their forms -/
def fitsB (H : Hp) (fs : List Str) (r : List V) : Bool := (fs.zip r).all fun p => fitB H p.1 p.2
/-- the parts whose form is a name -/
def namesB (fs : List Str) (r : List V) : List V := ((fs.zip r).filter fun p => decide (p.1 = ("name" : Str))).map (·.2)
def formV (H : Hp) : List V → Bool
  | .str k :: d :: r => match formsOf k with
    | some fs => inW d 0 9999 && (decide (r.length = fs.length) && fitsB H fs r)
    | none => false
  | _ => false
def formB (H : Hp) : V → Bool
  | .ref a => match H a with
    | some (.tup xs) => formV H xs
    | _ => false
  | _ => false
def namesV : List V → List V
  | .str k :: _ :: r => namesB ((formsOf k).getD []) r
  | _ => []
def unlike : List V → Bool
  | [_] => true
  | a :: b :: _ => !decide (a = b)
  | _ => true
def pageB (H : Hp) : V → Bool
  | .ref a => match H a with
    | some (.tup xs) => formV H xs && unlike (namesV xs)
    | _ => false
  | _ => false
/-- a thing, what is in it where it is a tuple, and in these -/
def Pgd (H : Hp) (v : V) : Prop := Typed H v ∧ ∀ a xs, v = .ref a → H a = some (.tup xs) → xs.length ≤ 100 ∧ ∀ x ∈ xs, Deep H x ∧ PlainV x
theorem not_tupF {H : Hp} {v : V} (k : ¬ kindB H "tuple" v = true) : formB H v = false ∧ pageB H v = false := by
  cases v with
  | ref a =>
    constructor
    · show (match H a with | some (.tup xs) => formV H xs | _ => false) = false
      cases e : H a with
      | none => rfl
      | some o =>
        cases o with
        | tup xs => exact absurd (by simp [kindB, e]) k
        | _ => rfl
    · show (match H a with | some (.tup xs) => formV H xs && unlike (namesV xs) | _ => false) = false
      cases e : H a with
      | none => rfl
      | some o =>
        cases o with
        | tup xs => exact absurd (by simp [kindB, e]) k
        | _ => rfl
  | _ => exact ⟨rfl, rfl⟩
theorem form_short {H : Hp} {xs : List V} (h : xs.length < 2) : formV H xs = false := by
  match xs, h with
  | [], _ => rfl
  | [x], _ => cases x <;> rfl
theorem kinds_iff {k : Str} : kinds.any (fun y => y == k) = (formsOf k).isSome := by
  unfold kinds formsOf
  by_cases h1 : k = "house"
  · subst h1; decide
  by_cases h2 : k = "part"
  · subst h2; decide
  by_cases h3 : k = "join"
  · subst h3; decide
  by_cases h4 : k = "home"
  · subst h4; decide
  by_cases h5 : k = "mourn"
  · subst h5; decide
  by_cases h6 : k = "ahead"
  · subst h6; decide
  by_cases h7 : k = "card"
  · subst h7; decide
  by_cases h8 : k = "visit"
  · subst h8; decide
  have f : ∀ {a : Str}, ¬ k = a → (a == k) = false := fun h => beq_eq_false_iff_ne.mpr fun z => h z.symm
  simp only [List.any_cons, List.any_nil, f h1, f h2, f h3, f h4, f h5, f h6, f h7, f h8, if_neg h1, if_neg h2, if_neg h3, if_neg h4, if_neg h5, if_neg h6, if_neg h7, if_neg h8]
  rfl
theorem form_kind {H : Hp} {x d : V} {r : List V} (h : strIn kinds x = false) : formV H (x :: d :: r) = false := by
  cases x with
  | str k =>
    have h : kinds.any (fun y => y == k) = false := h
    rw [kinds_iff] at h
    show (match formsOf k with | some fs => _ | none => false) = false
    cases e : formsOf k with
    | none => rfl
    | some fs => rw [e] at h; cases h
  | _ => rfl
theorem kind_in {x : V} (h : strIn kinds x = true) : ∃ k fs, x = .str k ∧ formsOf k = some fs := by
  cases x with
  | str k =>
    have h : kinds.any (fun y => y == k) = true := h
    rw [kinds_iff] at h
    cases e : formsOf k with
    | none => rw [e] at h; cases h
    | some fs => exact ⟨k, fs, rfl, e⟩
  | _ => cases h
theorem forms_len {k : Str} {fs : List Str} (h : formsOf k = some fs) : 2 ≤ fs.length ∧ fs.length ≤ 3 := by
  unfold formsOf at h
  repeat (split at h; · cases h; decide)
  cases h
theorem cut2 (x d : V) (r : List V) : cutV (x :: d :: r) (some 2) none = r := by
  unfold cutV
  rw [show HT.sIx (x :: d :: r).length 0 (some 2) = min 2 (x :: d :: r).length from HT.sIx_nat _ _ 2, HT.sIx_none]
  have : min 2 (x :: d :: r).length = 2 := by simp
  rw [this]
  simp
theorem Pgd.of {H H' : Hp} {v : V} (h : Pgd H v) (s : ∀ b o, H b = some o → (∀ ps, o ≠ .tbl ps) → H' b = some o) : Pgd H' v := by
  refine ⟨h.1.of fun b o e n _ => s b o e n, fun a xs e1 e2 => ?_⟩
  subst e1
  rcases h.1 with ⟨ys, e⟩ | ⟨ys, e⟩ | ⟨ys, e⟩
  · have e3 := s a _ e fun ps z => by cases z
    rw [e2] at e3
    cases e3
    exact ⟨(h.2 a _ rfl e).1, fun x hx => ⟨((h.2 a _ rfl e).2 x hx).1.of s, ((h.2 a _ rfl e).2 x hx).2⟩⟩
  · have e3 := s a _ e fun ps z => by cases z
    rw [e2] at e3
    cases e3
  · have e3 := s a _ e fun ps z => by cases z
    rw [e2] at e3
    cases e3
theorem Pgd.gk {Ts : List Addr} {H H' : Hp} {v : V} (h : Pgd H v) (g : Gk Ts H H') : Pgd H' v := h.of g.1
theorem fits_get {H : Hp} {fs : List Str} {r : List V} (h : ∀ (k : Nat) (f : Str) (x : V), fs[k]? = some f → r[k]? = some x → fitB H f x = true) : fitsB H fs r = true :=
  all_get fun k p e => by
    rw [List.getElem?_zip_eq_some] at e
    exact h k p.1 p.2 e.1 e.2
theorem fits_not {H : Hp} {fs : List Str} {r : List V} {k : Nat} {f : Str} {x : V} (h1 : fs[k]? = some f) (h2 : r[k]? = some x) (e : fitB H f x = false) : fitsB H fs r = false :=
  all_not (k := k) (x := (f, x)) (List.getElem?_zip_eq_some.mpr ⟨h1, h2⟩) e
theorem str_at {fs : List Str} {i : Nat} {x : V} (h : (fs.map V.str)[i]? = some x) : ∃ f, x = .str f ∧ fs[i]? = some f := by
  rw [List.getElem?_map] at h
  cases e : fs[i]? with
  | none => rw [e] at h; cases h
  | some f => rw [e] at h; cases h; exact ⟨f, rfl, rfl⟩
theorem names_take {fs : List Str} {r : List V} {i : Nat} {f : Str} {x : V} (h1 : fs[i]? = some f) (h2 : r[i]? = some x) :
    ((((fs.zip r).take (i + 1)).filter fun p => decide (p.1 = ("name" : Str))).map (·.2)) = ((((fs.zip r).take i).filter fun p => decide (p.1 = ("name" : Str))).map (·.2)) ++ (if f = "name" then [x] else []) := by
  rw [take_filter (c := (f, x)) _ (List.getElem?_zip_eq_some.mpr ⟨h1, h2⟩), List.map_append]
  congr 1
  by_cases e : f = "name"
  · subst e; simp
  · simp [e]
theorem sz' {n : Nat} (h : n ≤ 3) : n < sizeLine := small1000 (by omega)
theorem page_form {H : Hp} {v : V} (h : formB H v = false) : pageB H v = false := by
  cases v with
  | ref a =>
    have h : (match H a with | some (.tup xs) => formV H xs | _ => false) = false := h
    show (match H a with | some (.tup xs) => formV H xs && unlike (namesV xs) | _ => false) = false
    cases e : H a with
    | none => rfl
    | some o =>
      rw [e] at h
      cases o with
      | tup xs =>
        have h : formV H xs = false := h
        show (formV H xs && _) = false
        rw [h, Bool.false_and]
      | _ => rfl
  | _ => rfl
theorem form_inv {H : Hp} {v : V} (h : formB H v = true) : ∃ a k d r fs, v = .ref a ∧ H a = some (.tup (.str k :: d :: r)) ∧ formsOf k = some fs ∧ r.length = fs.length ∧ fitsB H fs r = true := by
  cases v with
  | ref a =>
    have h : (match H a with | some (.tup xs) => formV H xs | _ => false) = true := h
    cases e : H a with
    | none => rw [e] at h; cases h
    | some o =>
      rw [e] at h
      cases o with
      | tup xs =>
        have h : formV H xs = true := h
        match xs, h with
        | .str k :: d :: r, h =>
          have h : (match formsOf k with | some fs => inW d 0 9999 && (decide (r.length = fs.length) && fitsB H fs r) | none => false) = true := h
          cases e2 : formsOf k with
          | none => rw [e2] at h; cases h
          | some fs =>
            rw [e2] at h
            have h : (inW d 0 9999 && (decide (r.length = fs.length) && fitsB H fs r)) = true := h
            rw [Bool.and_eq_true, Bool.and_eq_true, decide_eq_true_eq] at h
            exact ⟨a, k, d, r, fs, rfl, e, e2, h.2.1, h.2.2⟩
      | _ => cases h
  | _ => cases h
theorem forms_cases {k : Str} {fs : List Str} (h : formsOf k = some fs) : fs = [("name" : Str), "home"] ∨ fs = [("name" : Str), "name", "home"] ∨ fs = [("name" : Str), "name"] ∨ fs = [("name" : Str), "many"] := by
  unfold formsOf at h
  repeat' split at h
  all_goals first | (cases h; simp; done) | cases h
theorem fit_name {H : Hp} {v : V} (h : fitB H "name" v = true) : nameB v = true := h
theorem name_str {v : V} (h : nameB v = true) : ∃ z, v = .str z := by
  cases v <;> first | exact ⟨_, rfl⟩ | cases h
theorem names_cases {H : Hp} {k : Str} {fs : List Str} {r : List V} (h : formsOf k = some fs) (hl : r.length = fs.length) (hf : fitsB H fs r = true) : (∃ x, namesB fs r = [.str x]) ∨ (∃ x y, namesB fs r = [.str x, .str y]) := by
  rcases forms_cases h with rfl | rfl | rfl | rfl
  · match r, hl with
    | [x, y], _ =>
      have hf : (fitB H "name" x && (fitB H "home" y && true)) = true := hf
      rw [Bool.and_eq_true] at hf
      obtain ⟨z, rfl⟩ := name_str (fit_name hf.1)
      exact .inl ⟨z, rfl⟩
  · match r, hl with
    | [x, y, u], _ =>
      have hf : (fitB H "name" x && (fitB H "name" y && (fitB H "home" u && true))) = true := hf
      rw [Bool.and_eq_true, Bool.and_eq_true] at hf
      obtain ⟨z, rfl⟩ := name_str (fit_name hf.1)
      obtain ⟨z2, rfl⟩ := name_str (fit_name hf.2.1)
      exact .inr ⟨z, z2, rfl⟩
  · match r, hl with
    | [x, y], _ =>
      have hf : (fitB H "name" x && (fitB H "name" y && true)) = true := hf
      rw [Bool.and_eq_true, Bool.and_eq_true] at hf
      obtain ⟨z, rfl⟩ := name_str (fit_name hf.1)
      obtain ⟨z2, rfl⟩ := name_str (fit_name hf.2.1)
      exact .inr ⟨z, z2, rfl⟩
  · match r, hl with
    | [x, y], _ =>
      have hf : (fitB H "name" x && (fitB H "many" y && true)) = true := hf
      rw [Bool.and_eq_true] at hf
      obtain ⟨z, rfl⟩ := name_str (fit_name hf.1)
      exact .inl ⟨z, rfl⟩
end My

set_option Elab.async false
set_option linter.all false
set_option maxRecDepth 100000
set_option maxHeartbeats 2000000
/-! Promises of defs that are called while nothing is being shown (no repr is under way): the text that repr tells is then the thing's own. -/
namespace GU
open PySem PySem.Spec PyProof.Rows L2
/-- as FnOk, where no repr is under way -/
structure FnG (P : Program) (w : World) (K : PySem.W.Frag) (mg : Str → Option Value) (base : Heap) (CX : CXT) (k : Nat) (f : Addr) (fd : FuncData) (ps : List Str) (sp : Sp) : Prop where
  len : ∀ vs H Q E, sp vs H Q E → vs.length = ps.length
  go : ∀ (A : Around), A.guards = some [] → ∀ (outer : List Env) (s : Shared) (H : Hp) (args : Args) (us : List Value) (vs : List V) (Q : VK) (E : XK),
    Room k A → Env0 P w K mg base A outer s H → BindsTo s fd args (ps.zip us) → Vals vs us → sp vs H Q E → codeAny (model P w) A (.call (.ref f) args) (CR CX outer P w H s Q E) s
section
variable {P : Program} {w : World} {K : PySem.W.Frag} {mg : Str → Option Value} {base : Heap} {CX : CXT} {k : Nat} {f : Addr} {fd : FuncData} {ps : List Str} {sp : Sp}
theorem FnG.of (F : FnOk P w K mg base CX k f fd ps sp) : FnG P w K mg base CX k f fd ps sp :=
  ⟨F.len, fun A _ outer s H args us vs Q E => F.run A outer s H args us vs Q E⟩
/-- a def by its body -/
theorem fnG_of {N : List Str} {name qual : Str} {params : Arguments} {body : List Stmt} {scope : Scope} {dV kV doc pm cdv ct oc : Value} {an od : Option Addr} {osl : Array (Option Value)}
    (look : K.lookup f = some ⟨oc, od, .func (PySem.W.fnOf name qual params body scope dV kV doc pm an cdv ct), osl⟩) (code : PySem.W.codeIn K cdv qual = true) (S : FnScope N ps scope)
    (len : ∀ vs H Q E, sp vs H Q E → vs.length = ps.length)
    (hbody : ∀ (A : Around) (outer : List Env) (s : Shared) (H : Hp) (vs : List V) (Q : VK) (E : XK), A.guards = some [] → Room k (A.deeper (envOfC qual scope s.heap.objs.size f cdv)) → sp vs H Q E →
      ∃ t, PSs (cxOf CX P w K mg base N qual scope f cdv A outer s H E) body t ∧ t { nx := fun _ H' => Q .non H', rt := Q } (start N vs) H) :
    FnG P w K mg base CX (k + 1) f (PySem.W.fnOf name qual params body scope dV kV doc pm an cdv ct) ps sp := by
  refine ⟨len, ?_⟩
  intro A gd outer s H args us vs Q E room env bind rel want
  obtain ⟨t, runs, reads⟩ := hbody A outer s H vs Q E gd (room.deeper _) want
  have stays : ∀ b o, base.get? b = some o → s.heap.get? b = some o := fun b o e => (env.bs b o e).1
  have inK := env.mod.kin.keeps stays
  have kinds : ∀ y ∈ ps.zip us, scope.names.lookup y.1 = some .local ∨ (scope.names.lookup y.1 = some .cell ∧ ((cellsFrom (s.heap.objs.size + 1) scope.names []).lookup y.1).isSome = true) := by
    rintro ⟨n, v⟩ hy
    refine (S.par n (List.of_mem_zip hy).1).imp id fun c => ⟨c, PySem.W.cellsFrom_some _ _ _ (.inl c)⟩
  refine codeAny_call_function room.depth (inK _ _ look) rfl S.co S.gen rfl (PySem.W.codeRec_of inK code) (bind _ _ _ _ ?_)
  refine wpAny_newFunctionEnv_cells S.kind kinds ?_
  rintro env2 rfl s1 x
  refine ⟨(env.mod.nolimit.keeps stays).keeps x.toInCall.keep, codeAny_func ?_⟩
  refine wpAny_mono (runs.run [] s1 (start N vs) H _ (inv_start S room.hd env (len _ _ _ _ want) rel x) reads) ?_ fun _ _ h => h
  intro fl s' hs
  cases fl with
  | brk => exact let ⟨_, _, _, q⟩ := hs; q.elim
  | cont => exact let ⟨_, _, _, q⟩ := hs; q.elim
  | next => exact let ⟨_, H', J, q⟩ := hs; ⟨V.non, H', J.os, J.bare, J.base, J.hok, rfl, q⟩
  | ret u => exact let ⟨v, _, H', J, rv, q⟩ := hs; ⟨v, H', J.os, J.bare, J.base, J.hok, rv, q⟩
end
section
variable {P : Program} {w : World} {K : PySem.W.Frag} {mg : Str → Option Value} {base : Heap} {k : Nat} {f : Addr} {fd : FuncData} {ps N : List Str} {sp : Sp} {x qual : Str} {st : Stmt}
theorem okG (F : Fun K x qual st f fd) (S : FnScope N ps (defScope st)) (len : ∀ vs H Q E, sp vs H Q E → vs.length = ps.length)
    (hbody : ∀ (cdv : Value) (A : Around) (outer : List Env) (s : Shared) (H : Hp) (vs : List V) (Q : VK) (E : XK), A.guards = some [] → Room k (A.deeper (envOfC qual (defScope st) s.heap.objs.size f cdv)) → sp vs H Q E →
      ∃ t, PSs (cxOf CX0 P w K mg base N qual (defScope st) f cdv A outer s H E).nox (defBody st) t ∧ t { nx := fun _ H' => Q .non H', rt := Q } (start N vs) H) : FnG P w K mg base CX0 (k + 1) f fd ps sp := by
  obtain ⟨oc, od, kV, doc, pm, an, cdv, ct, osl, rfl, lk, hcd⟩ := F.ex
  refine fnG_of lk hcd S len fun A outer s H vs Q E gd hr hsp => ?_
  obtain ⟨t, h, q⟩ := hbody cdv A outer s H vs Q E gd hr hsp
  exact ⟨t, h.nox, q⟩
theorem okGC {c : Addr} (F : GE.FunC K x qual st f fd c) (S : FnScope N ps (defScope st)) (len : ∀ vs H Q E, sp vs H Q E → vs.length = ps.length)
    (hbody : ∀ (A : Around) (outer : List Env) (s : Shared) (H : Hp) (vs : List V) (Q : VK) (E : XK), A.guards = some [] → Room k (A.deeper (envOfC qual (defScope st) s.heap.objs.size f (.ref c))) → sp vs H Q E →
      ∃ t, PSs (cxOf CX0 P w K mg base N qual (defScope st) f (.ref c) A outer s H E).nox (defBody st) t ∧ t { nx := fun _ H' => Q .non H', rt := Q } (start N vs) H) : FnG P w K mg base CX0 (k + 1) f fd ps sp := by
  obtain ⟨oc, od, kV, doc, pm, an, ct, osl, rfl, lk, hcd⟩ := F.ex
  refine fnG_of lk hcd S len fun A outer s H vs Q E gd hr hsp => ?_
  obtain ⟨t, h, q⟩ := hbody A outer s H vs Q E gd hr hsp
  exact ⟨t, h.nox, q⟩
end
section
variable {X : Cx} {CX : CXT} {k : Nat} {f : Addr} {fd : FuncData} {ps : List Str} {sp : Sp} {dvs : List V} {ds : List Value} {E : XK} {x : Str} {p pos : Pos} {e : Expr} {es : List Expr} {t : TA}
/-- f(..) -/
theorem pe_callG (F : FnG X.prog X.w X.K X.mg X.base CX k f fd ps sp) (gd : X.A.guards = some []) (hr : Room k X.A) (hg : Gl X x) (hm : X.mg x = some (.ref f)) (hk : PySem.W.keepIn X.K (.ref f) = true) (hb : Binds X.K fd ps ds) (hd : Vals dvs ds) (hx : Passes CX X E)
    (ha : PA X (e :: es) t) (hdb : (x == ("__debug__" : Str)) = false := by decide) (he : starEach (e :: es) X.env = (false, eval e X.env) :: starEach es X.env := by rfl) (hpl : (backTo pos (starEach es X.env)).any (·.1) = false := by rfl) :
    PE X (.Call (.Name x p) (e :: es) [] pos) (tCall sp dvs E t) := by
  constructor
  intro pins s σ H Q I h
  have args := ha.run pos pins s σ H _ I h
  refine wpAny_Call_Name_kw (ld_glob I hg hm (PySem.W.callWith_K (h₀ := X.base) I.ok.mod.kin hk (thn args ?_) he hpl) hdb)
  rintro us s1 ⟨vs, H1, J, r, q⟩
  refine ⟨J.kIn, wpAny_call (codeAny_mono (F.go X.A gd X.stack s1 H1 ⟨us, []⟩ (us ++ ds) (vs ++ dvs) Q E hr J.env0 (hb s1 us J.kIn ?_) (r.append hd) q) ?_)⟩
  · rw [← (r.append hd).length]
    exact F.len _ _ _ _ q
  · intro res s2 hq
    match res, hq with
    | .error e, hq => exact hx pins σ H1 s1 e s2 J hq
    | .ok (.ret u), hq => exact J.after hq
end
end GU
/-! ### repr of things -/
namespace GU
open PySem PySem.Spec PyProof.Rows L2
mutual
def Sh : PyData → Prop
  | .none => True
  | .bool _ => True
  | .int i => i.natAbs.log2 < 1920
  | .str x => ∀ c ∈ x.cps.toList, c < 16 ^ 8
  | .list xs => ShAll xs
  | .tuple xs => ShAll xs
  | .dict _ => False
def ShAll : List PyData → Prop
  | [] => True
  | x :: xs => Sh x ∧ ShAll xs
end
mutual
def cost : PyData → Nat
  | .none => 4
  | .bool _ => 5
  | .int _ => 1921
  | .str x => 10 * x.length + 4
  | .list xs => costAll xs + 3
  | .tuple xs => costAll xs + 3
  | .dict _ => 0
def costAll : List PyData → Nat
  | [] => 0
  | x :: xs => cost x + 2 + costAll xs
end
mutual
theorem sh_ok : ∀ {d : PyData}, Sh d → d.showable = true ∧ d.hasDict = false ∧ d.shown.length ≤ cost d
  | .none, _ => ⟨rfl, rfl, by decide +kernel⟩
  | .bool b, _ => ⟨rfl, rfl, by cases b <;> decide +kernel⟩
  | .int i, h => ⟨decide_eq_true h, rfl, int_text_len_1921 h⟩
  | .str x, h => ⟨rfl, rfl, Nat.le_trans (StrLaws.reprText_len x h) (Nat.add_le_add_left (by decide) _)⟩
  | .list xs, h => by
    obtain ⟨a, b, c⟩ := shAll_ok (xs := xs) h
    refine ⟨by rw [PyData.showable]; exact a, by rw [PyData.hasDict]; exact b, ?_⟩
    rw [PyData.shown, cost]
    exact Nat.le_trans (listText_len_le _) (by omega)
  | .tuple xs, h => by
    obtain ⟨a, b, c⟩ := shAll_ok (xs := xs) h
    refine ⟨by rw [PyData.showable]; exact a, by rw [PyData.hasDict]; exact b, ?_⟩
    rw [PyData.shown, cost]
    exact Nat.le_trans (tupleText_len_le _) (by omega)
  | .dict _, h => h.elim
theorem shAll_ok : ∀ {xs : List PyData}, ShAll xs → PyData.showableAll xs = true ∧ PyData.hasDictAll xs = false ∧ ((PyData.shownAll xs).map (·.length)).sum + 2 * (PyData.shownAll xs).length ≤ costAll xs
  | [], _ => ⟨rfl, rfl, Nat.le_refl _⟩
  | x :: xs, h => by
    obtain ⟨a1, b1, c1⟩ := sh_ok h.1
    obtain ⟨a2, b2, c2⟩ := shAll_ok h.2
    refine ⟨by rw [PyData.showableAll, a1, a2]; rfl, by rw [PyData.hasDictAll, b1, b2]; rfl, ?_⟩
    rw [PyData.shownAll, costAll, List.map_cons, List.sum_cons, List.length_cons]
    omega
end
section
variable {X : Cx} {k : Nat}
/-- repr of any thing of numbers, truths, texts, None, lists and tuples -/
theorem call_reprD (gd : X.A.guards = some []) (hr : Room k X.A) : CallR X (.builtin "repr") (fun xs H Q => ∃ v d, xs = [v] ∧ Dp X.K H v d ∧ Sh d ∧ d.depth ≤ 50 ∧ cost d ≤ sizeLine ∧ Q (.str d.shown) H) := by
  intro pins s σ H xs us Q I r h
  obtain ⟨v, d, rfl, dp, sh, deep, fits, q⟩ := h
  obtain ⟨u, rfl, ru⟩ := vals1 r
  obtain ⟨a, b, c⟩ := sh_ok sh
  have hu := hr.un
  cases dp with
  | non => cases ru; exact PySem.P.repr_of_none ⟨.str _, H, I.tok _, ⟨_, rfl⟩, q⟩
  | bl x => cases ru; exact PySem.P.repr_of_bool ⟨.str _, H, I.tok _, ⟨_, rfl⟩, q⟩
  | int i =>
    obtain ⟨t, rfl⟩ := ru
    exact PySem.P.repr_of_int sh ⟨.str _, H, I.tok _, ⟨_, rfl⟩, q⟩
  | str x =>
    obtain ⟨t, rfl⟩ := ru
    exact PySem.P.repr_of_str ⟨.str _, H, I.tok _, ⟨_, rfl⟩, q⟩ (Nat.le_trans c fits)
  | lst h1 h2 =>
    obtain ⟨as, rd⟩ := Dp.reads I _ _ _ (.lst h1 h2) ru
    cases ru
    exact repr_of_reads' rd a (PyData.noDict_hsm b) gd (by omega) (fun _ _ e => e) (fun h' u tk kp => ⟨.str _, H, I.turnedL (ch := []) (h' := h') (t' := tk) (fun b o _ e => kp b o e) (fun b hb => by cases hb), ⟨_, rfl⟩, q⟩) (Nat.le_trans c fits)
  | tup h1 h2 =>
    obtain ⟨as, rd⟩ := Dp.reads I _ _ _ (.tup h1 h2) ru
    cases ru
    exact repr_of_reads' rd a (PyData.noDict_hsm b) gd (by omega) (fun _ _ e => e) (fun h' u tk kp => ⟨.str _, H, I.turnedL (ch := []) (h' := h') (t' := tk) (fun b o _ e => kp b o e) (fun b hb => by cases hb), ⟨_, rfl⟩, q⟩) (Nat.le_trans c fits)
end
end GU

set_option Elab.async false
set_option linter.all false
set_option maxRecDepth 100000
set_option maxHeartbeats 2000000
/-! Numbers, texts, None and tuples of these, to any depth, as data (NestedKey): what stays, ==, in, <. -/
namespace My
open PySem PySem.Spec PyProof.Rows L2 PySem.SeqAt
mutual
inductive Nk (H : Hp) : V → NestedKey → Prop
  | non : Nk H .non .none
  | int (i : Int) : Nk H (.int i) (.num i)
  | str (z : Str) : Nk H (.str z) (.text z)
  | tup {a : Addr} {xs : List V} {ks : List NestedKey} : H a = some (.tup xs) → NkAll H xs ks → Nk H (.ref a) (.tup ks)
inductive NkAll (H : Hp) : List V → List NestedKey → Prop
  | nil : NkAll H [] []
  | cons {x : V} {k : NestedKey} {xs : List V} {ks : List NestedKey} : Nk H x k → NkAll H xs ks → NkAll H (x :: xs) (k :: ks)
end
/-- all tuples stay -/
def Tups (H H' : Hp) : Prop := ∀ b xs, H b = some (.tup xs) → H' b = some (.tup xs)
theorem Tups.refl (H : Hp) : Tups H H := fun _ _ e => e
theorem Tups.trans {H H1 H2 : Hp} (a : Tups H H1) (b : Tups H1 H2) : Tups H H2 := fun c xs e => b c xs (a c xs e)
theorem Tups.same {H H' : Hp} (s : Same H H') : Tups H H' := fun b xs e => s b _ e
theorem Tups.gk {Ts : List Addr} {H H' : Hp} (g : Gk Ts H H') : Tups H H' := fun b xs e => g.tup e
theorem Tups.kp {t : Addr} {H H' : Hp} {n : Nat} (hT : Tap H t n) (k : Kp t H H') : Tups H H' := fun b xs e => k b _ (fun z => by
  obtain ⟨_, _, _, _, _, e1, _⟩ := hT
  rw [z, e1] at e
  cases e) e
mutual
theorem Nk.at {H H' : Hp} (t : Tups H H') : ∀ {k : NestedKey} {v : V}, Nk H v k → Nk H' v k
  | .none, _, .non => .non
  | .num _, _, .int i => .int i
  | .text _, _, .str z => .str z
  | .tup _, _, .tup e h => .tup (t _ _ e) (NkAll.at t h)
theorem NkAll.at {H H' : Hp} (t : Tups H H') : ∀ {ks : List NestedKey} {xs : List V}, NkAll H xs ks → NkAll H' xs ks
  | [], _, .nil => .nil
  | _ :: _, _, .cons h r => .cons (h.at t) (r.at t)
end
mutual
theorem Nk.inj {H : Hp} : ∀ {k k' : NestedKey} {v : V}, Nk H v k → Nk H v k' → k = k'
  | .none, _, _, .non, h => by cases h; rfl
  | .num _, _, _, .int i, h => by cases h; rfl
  | .text _, _, _, .str z, h => by cases h; rfl
  | .tup _, _, _, .tup e a, h => by
    cases h with
    | tup e2 b =>
      rw [e] at e2
      cases e2
      rw [NkAll.inj a b]
theorem NkAll.inj {H : Hp} : ∀ {ks ks' : List NestedKey} {xs : List V}, NkAll H xs ks → NkAll H xs ks' → ks = ks'
  | [], _, _, .nil, h => by cases h; rfl
  | _ :: _, _, _, .cons a r, h => by
    cases h with
    | cons b t => rw [Nk.inj a b, NkAll.inj r t]
end
mutual
theorem Nk.dp {K : PySem.W.Frag} {H : Hp} : ∀ {k : NestedKey} {v : V}, Nk H v k → Dp K H v k.data
  | .none, _, .non => .non
  | .num _, _, .int i => .int i
  | .text _, _, .str z => .str z
  | .tup _, _, .tup e h => .tup (.inl (.inl e)) (NkAll.dp h)
theorem NkAll.dp {K : PySem.W.Frag} {H : Hp} : ∀ {ks : List NestedKey} {xs : List V}, NkAll H xs ks → DpAll K H xs (NestedKey.datas ks)
  | [], _, .nil => .nil
  | _ :: _, _, .cons h r => .cons h.dp r.dp
end
theorem NkAll.length {H : Hp} : ∀ {ks : List NestedKey} {xs : List V}, NkAll H xs ks → xs.length = ks.length
  | [], _, .nil => rfl
  | _ :: _, _, .cons _ r => congrArg (· + 1) r.length
theorem NkAll.get {H : Hp} : ∀ {ks : List NestedKey} {xs : List V} {i : Nat} {x : V}, NkAll H xs ks → xs[i]? = some x → ∃ k, ks[i]? = some k ∧ Nk H x k
  | [], _, _, _, .nil, e => by simp at e
  | k :: _, _, 0, _, .cons h _, e => ⟨k, rfl, by cases e; exact h⟩
  | _ :: _, _, i + 1, _, .cons _ r, e => r.get (i := i) (by simpa using e)
theorem NkAll.get' {H : Hp} : ∀ {ks : List NestedKey} {xs : List V} {i : Nat} {k : NestedKey}, NkAll H xs ks → ks[i]? = some k → ∃ x, xs[i]? = some x ∧ Nk H x k
  | [], _, _, _, .nil, e => by simp at e
  | _ :: _, x :: _, 0, _, .cons h _, e => ⟨x, rfl, by cases e; exact h⟩
  | _ :: _, _, i + 1, _, .cons _ r, e => r.get' (i := i) (by simpa using e)
theorem NkAll.app {H : Hp} : ∀ {ks ls : List NestedKey} {xs ys : List V}, NkAll H xs ks → NkAll H ys ls → NkAll H (xs ++ ys) (ks ++ ls)
  | [], _, _, _, .nil, h => h
  | _ :: _, _, _, _, .cons a r, h => .cons a (r.app h)
section
variable {X : Cx} {pins : List (Addr × Obj)} {σ : L2.St} {H : Hp} {s : Shared}
mutual
theorem Nk.is (I : Inv X pins σ H s) : ∀ {k : NestedKey} {v : V} {u : Value}, Nk H v k → RelV v u → NestedIs s.heap k u
  | .none, _, _, .non, r => by cases r; exact .none
  | .num _, _, _, .int i, r => by obtain ⟨t, rfl⟩ := r; exact .int i t
  | .text _, _, _, .str z, r => by obtain ⟨t, rfl⟩ := r; exact .text z t
  | .tup _, _, _, .tup e h, r => by
    cases r
    obtain ⟨_, its, rv, ⟨o, ho, hc, n, hd⟩⟩ := I.hok _ _ e
    exact .tup ho hc hd (NkAll.is I h (by simpa using rv))
theorem NkAll.is (I : Inv X pins σ H s) : ∀ {ks : List NestedKey} {xs : List V} {us : List Value}, NkAll H xs ks → Vals xs us → NestedAll s.heap ks us
  | [], _, _, .nil, r => by cases r; exact .nil
  | _ :: _, _, _, .cons a h, r => by
    cases r with
    | cons r1 r2 => exact .cons (a.is I r1) (h.is I r2)
end
end
/-! ### in -/
open Classical in
noncomputable def eqK (h : Heap) (k : NestedKey) (y : Value) : Bool := decide (NestedIs h k y)
theorem eqK_is {h : Heap} {k k' : NestedKey} {y : Value} (hy : NestedIs h k' y) : eqK h k y = decide (k' = k) := by
  unfold eqK
  by_cases e : k' = k
  · subst e
    rw [@decide_eq_true _ (Classical.propDecidable _) hy, decide_eq_true rfl]
  · rw [decide_eq_false e]
    exact @decide_eq_false _ (Classical.propDecidable _) fun z => e (NestedIs.inj _ _ _ hy z)
theorem any_eqK {h : Heap} {k : NestedKey} : ∀ {ks : List NestedKey} {us : List Value}, NestedAll h ks us → us.any (eqK h k) = decide (k ∈ ks)
  | [], _, .nil => rfl
  | k' :: ks, _, .cons a r => by
    rw [List.any_cons, any_eqK r, eqK_is a, Bool.eq_iff_iff]
    simp only [Bool.or_eq_true, decide_eq_true_eq, List.mem_cons]
    exact or_congr ⟨Eq.symm, Eq.symm⟩ Iff.rfl
theorem all_is {h : Heap} : ∀ {ks : List NestedKey} {us : List Value} {y : Value}, NestedAll h ks us → y ∈ us → ∃ k, k ∈ ks ∧ NestedIs h k y
  | [], _, _, .nil, e => by cases e
  | k :: _, _, _, .cons a r, e => by
    rcases List.mem_cons.mp e with e | e
    · exact ⟨k, .head _, e ▸ a⟩
    · obtain ⟨k2, h2, h3⟩ := all_is r e
      exact ⟨k2, .tail _ h2, h3⟩
def rInN (K : PySem.W.Frag) (neg : Bool) : R2 := fun x y H Q => ∃ (p : Addr) (xs : List V) (k : NestedKey) (ks : List NestedKey), y = .ref p ∧ (SqL K H p xs ∨ SqT K H p xs) ∧ Nk H x k ∧ NkAll H xs ks ∧ k.depth ≤ 50 ∧
  Q (.bl (if neg then !decide (k ∈ ks) else decide (k ∈ ks))) H
section
variable {X : Cx}
theorem in_run {pins : List (Addr × Obj)} {σ : L2.St} {H : Hp} {s : Shared} {its : List Value} {xs : List V} {ks : List NestedKey} {k : NestedKey} {x : V} {v : Value} (I : Inv X pins σ H s) (hu : X.A.units + 64 < cLine) (r : Vals xs its) (hx : Nk H x k) (rx : RelV x v) (hk : NkAll H xs ks) (hd : k.depth ≤ 50) :
    its.toArray.any (eqK s.heap k) = decide (k ∈ ks) ∧ ∀ y, y ∈ its.toArray → EqAt X.A.in1 s y v (eqK s.heap k y) := by
  have ha := hk.is I r
  refine ⟨by rw [show its.toArray.any (eqK s.heap k) = its.any (eqK s.heap k) by simp, any_eqK ha], fun y hy => ?_⟩
  obtain ⟨k', _, h'⟩ := all_is ha (by simpa using hy)
  rw [eqK_is h', NestedKey.decide_eq]
  exact eqAt_key k' k X.A.in1 s y v h' (hx.is I rx) (by show X.A.units + 1 + _ < _; omega)
theorem op_notInN (hu : X.A.units + 64 < cLine) : OpR X (compareOp .NotIn) (rInN X.K true) := by
  intro pins s σ H x y v u Q I rx ry h
  obtain ⟨p, xs, k, ks, rfl, hq, hx, hk, hd, q⟩ := h
  cases ry
  rcases hq with hq | hq
  · obtain ⟨its, r, pl, hz⟩ := I.list hq
    obtain ⟨e1, e2⟩ := in_run I hu r hx rx hk hd
    refine notIn_listAt (eqK s.heap k) pl.isList e2 ⟨.bl _, H, I, rfl, ?_⟩
    rw [e1]
    exact q
  · obtain ⟨its, r, pl, hz⟩ := I.tuple hq
    obtain ⟨e1, e2⟩ := in_run I hu r hx rx hk hd
    refine notIn_tupleAt (eqK s.heap k) pl e2 ⟨.bl _, H, I, rfl, ?_⟩
    rw [e1]
    exact q
theorem op_inN (hu : X.A.units + 64 < cLine) : OpR X (compareOp .In) (rInN X.K false) := by
  intro pins s σ H x y v u Q I rx ry h
  obtain ⟨p, xs, k, ks, rfl, hq, hx, hk, hd, q⟩ := h
  cases ry
  rcases hq with hq | hq
  · obtain ⟨its, r, pl, hz⟩ := I.list hq
    obtain ⟨e1, e2⟩ := in_run I hu r hx rx hk hd
    refine in_listAt (eqK s.heap k) pl.isList e2 ⟨.bl _, H, I, rfl, ?_⟩
    rw [e1]
    exact q
  · obtain ⟨its, r, pl, hz⟩ := I.tuple hq
    obtain ⟨e1, e2⟩ := in_run I hu r hx rx hk hd
    refine in_tupleAt (eqK s.heap k) pl e2 ⟨.bl _, H, I, rfl, ?_⟩
    rw [e1]
    exact q
end
end My

set_option Elab.async false
set_option linter.all false
set_option maxRecDepth 100000
set_option maxHeartbeats 2000000
/-! x < y of numbers, texts and tuples of these: the first place that differs decides, what stands behind it may be of any kinds. -/
namespace My
open PySem PySem.Spec PyProof.Rows L2 PySem.SeqAt
mutual
/-- what Python's x < y tells, where it tells anything -/
def ltK : NestedKey → NestedKey → Option Bool
  | .num a, .num b => some (decide (a < b))
  | .text x, .text y => some (decide (x.cps.toList < y.cps.toList))
  | .tup xs, .tup ys => ltAll xs ys
  | _, _ => none
def ltAll : List NestedKey → List NestedKey → Option Bool
  | [], [] => some false
  | [], _ :: _ => some true
  | _ :: _, [] => some false
  | x :: xs, y :: ys => if x = y then ltAll xs ys else ltK x y
end
mutual
/-- a value that is such a thing (a truth is none) -/
inductive Ns (h : Heap) : NestedKey → Value → Prop
  | none : Ns h .none .none
  | int (i : Int) (t : Tok) : Ns h (.num i) (.int i t)
  | text (x : Str) (t : Tok) : Ns h (.text x) (.str x t)
  | tup {a : Addr} {o : Obj} {vs : Array Value} {n : Nat} {ks : List NestedKey} : h.get? a = some o → o.cls = .type "tuple" → o.data = .seq vs n → NsAll h ks vs.toList → Ns h (.tup ks) (.ref a)
inductive NsAll (h : Heap) : List NestedKey → List Value → Prop
  | nil : NsAll h [] []
  | cons {k : NestedKey} {v : Value} {ks : List NestedKey} {vs : List Value} : Ns h k v → NsAll h ks vs → NsAll h (k :: ks) (v :: vs)
end
mutual
theorem Ns.is {h : Heap} : ∀ {k : NestedKey} {v : Value}, Ns h k v → NestedIs h k v
  | .none, _, .none => .none
  | .num _, _, .int i t => .int i t
  | .text _, _, .text x t => .text x t
  | .tup _, _, .tup e c d r => .tup e c d (NsAll.is r)
theorem NsAll.is {h : Heap} : ∀ {ks : List NestedKey} {vs : List Value}, NsAll h ks vs → NestedAll h ks vs
  | [], _, .nil => .nil
  | _ :: _, _, .cons a r => .cons a.is r.is
end
section
variable {X : Cx} {pins : List (Addr × Obj)} {σ : L2.St} {H : Hp} {s : Shared}
mutual
theorem Nk.ns (I : Inv X pins σ H s) : ∀ {k : NestedKey} {v : V} {u : Value}, Nk H v k → RelV v u → Ns s.heap k u
  | .none, _, _, .non, r => by cases r; exact .none
  | .num _, _, _, .int i, r => by obtain ⟨t, rfl⟩ := r; exact .int i t
  | .text _, _, _, .str z, r => by obtain ⟨t, rfl⟩ := r; exact .text z t
  | .tup _, _, _, .tup e h, r => by
    cases r
    obtain ⟨_, its, rv, ⟨o, ho, hc, n, hd⟩⟩ := I.hok _ _ e
    exact .tup ho hc hd (NkAll.ns I h (by simpa using rv))
theorem NkAll.ns (I : Inv X pins σ H s) : ∀ {ks : List NestedKey} {xs : List V} {us : List Value}, NkAll H xs ks → Vals xs us → NsAll s.heap ks us
  | [], _, _, .nil, r => by cases r; exact .nil
  | _ :: _, _, _, .cons a h, r => by
    cases r with
    | cons r1 r2 => exact .cons (a.ns I r1) (h.ns I r2)
end
end
theorem depth_mem : ∀ {xs : List NestedKey} {x : NestedKey}, x ∈ xs → x.depth ≤ NestedKey.depthAll xs
  | _ :: _, _, .head _ => by rw [NestedKey.depthAll]; omega
  | _ :: _, _, .tail _ h => by have := depth_mem h; rw [NestedKey.depthAll]; omega
section
open AutoSeq1 (wpAny_loadPart')
open MeetsSeq MeetsSeq2 MeetsSeq3 SeqRoads2
theorem tuple_ltK (l b : Addr) (items items2 : Array Value) (n n2 : Nat) (dd dd2 : Option Addr) (sl sl2 : Array (Option Value)) (xs ys : List NestedKey) (k : Bool) :
    Meets (Builtin.«tuple.__lt__» ⟨[.ref l, .ref b], []⟩) (fun A R s => s.heap.get? l = some ⟨.type "tuple", dd, .seq items n, sl⟩ ∧ s.heap.get? b = some ⟨.type "tuple", dd2, .seq items2 n2, sl2⟩ ∧
      NsAll s.heap xs items.toList ∧ NsAll s.heap ys items2.toList ∧ ltAll xs ys = some k ∧
      (∀ x ∈ xs, ∀ y u v, Ns s.heap x u → Ns s.heap y v → EqAt A.in1 s u v (decide (x = y))) ∧
      (∀ x ∈ xs, ∀ y u v c, Ns s.heap x u → Ns s.heap y v → ltK x y = some c → RcLt A.in1 s u v c) ∧ R (.ok (.ret (.bool k))) s) := by
  refine .of_wp fun prog w A R s h => ?_
  obtain ⟨hp, g, d, tk, os⟩ := s
  obtain ⟨hl, hb, h1, h2, hk, heq, hlt, h⟩ := h
  have f2 := AutoSeq1.sub_tuple_tuple
  wp_walk using wpAny_loadPart' hl, wpAny_loadPart' hb, wpAny_forIn_list _ (fun rest c s' => c.1 = none ∧ s' = ⟨hp, g, d, tk, os⟩ ∧ ∃ xs' ys' us vs, rest = List.zip us vs ∧ NsAll hp xs' us ∧ NsAll hp ys' vs ∧ (∀ x ∈ xs', x ∈ xs) ∧
    ltAll xs' ys' = some k ∧ us.length + items2.size = vs.length + items.size) _
  case turn =>
    rintro ⟨u, v⟩ rest c s' ⟨hc, rfl, xs', ys', us, vs, hz, a1, a2, sub, hk', hn⟩
    cases a1 with
    | nil => simp at hz
    | @cons x _ xs2 us2 p1 q1 =>
      cases a2 with
      | nil => simp at hz
      | @cons y _ ys2 vs2 p2 q2 =>
        rw [List.zip_cons_cons] at hz
        cases hz
        refine wpAny_bind (heq x (sub x (.head _)) y _ _ p1 p2 prog w _ _ ?_)
        by_cases e : x = y
        · rw [ltAll, if_pos e] at hk'
          rw [decide_eq_true e]
          wp_walk
          exact ⟨rfl, rfl, xs2, ys2, us2, vs2, rfl, q1, q2, fun z hz => sub z (.tail _ hz), hk', by simp only [List.length_cons] at hn; omega⟩
        · rw [ltAll, if_neg e] at hk'
          rw [decide_eq_false e, if_pos (by decide)]
          dsimp only
          refine wpAny_bind (wpAny_rule ?_)
          refine wpAny_bind (hlt x (sub x (.head _)) y _ _ k p1 p2 hk' prog w _ _ ?_)
          wp_walk
          exact ⟨_, rfl, h⟩
  case fin =>
    rintro ⟨c1, c2⟩ s' ⟨hc, rfl, xs', ys', us, vs, hz, a1, a2, sub, hk', hn⟩
    simp only at hc
    subst hc
    have fin : decide (items.size < items2.size) = k := by
      cases a1 with
      | nil =>
        cases a2 with
        | nil =>
          rw [ltAll] at hk'
          cases hk'
          simp only [List.length_nil] at hn
          exact decide_eq_false (by omega)
        | cons _ _ =>
          rw [ltAll] at hk'
          cases hk'
          simp only [List.length_nil, List.length_cons] at hn
          exact decide_eq_true (by omega)
      | cons _ _ =>
        cases a2 with
        | nil =>
          rw [ltAll] at hk'
          cases hk'
          simp only [List.length_nil, List.length_cons] at hn
          exact decide_eq_false (by omega)
        | cons _ _ => simp at hz
    wp_walk
    refine ⟨_, rfl, ?_⟩
    rw [← fin] at h
    simpa [Builtin.Tuple.tupleCompareSizes] using h
  case h => exact ⟨rfl, rfl, xs, ys, _, _, rfl, h1, h2, fun _ h => h, hk, by simp; omega⟩
theorem rcLt_num {A : Around} {s : Shared} {i j : Int} {t u : Tok} {k : Bool} (e : ltK (.num i) (.num j) = some k) : RcLt A s (.int i t) (.int j u) k := by
  rw [ltK] at e
  cases e
  exact fun prog w E Q h => PyProof.Rows.lt_int h
theorem rcLt_text {A : Around} {s : Shared} {x y : Str} {t u : Tok} {k : Bool} (e : ltK (.text x) (.text y) = some k) : RcLt A s (.str x t) (.str y u) k := by
  rw [ltK] at e
  cases e
  exact fun prog w E Q h => PySem.P.lt_str h
theorem rcLt_tup {A : Around} {s : Shared} {l b : Addr} {o o2 : Obj} {items items2 : Array Value} {n n2 : Nat} {xs ys : List NestedKey} {k : Bool} (ho : s.heap.get? l = some o) (hc : o.cls = .type "tuple") (hd : o.data = .seq items n) (r : NsAll s.heap xs items.toList)
    (ho2 : s.heap.get? b = some o2) (hc2 : o2.cls = .type "tuple") (hd2 : o2.data = .seq items2 n2) (r2 : NsAll s.heap ys items2.toList) (e : ltAll xs ys = some k) (hu : A.units + (NestedKey.depthAll xs + 1) < cLine)
    (ih : ∀ x ∈ xs, ∀ y u v c, Ns s.heap x u → Ns s.heap y v → ltK x y = some c → RcLt A.in1 s u v c) : RcLt A s (.ref l) (.ref b) k := fun prog w E Q h => by
  obtain ⟨cls, dd, data, sl⟩ := o
  obtain ⟨cls2, dd2, data2, sl2⟩ := o2
  simp only at hc hd hc2 hd2
  subst hc hd hc2 hd2
  refine richCompare_meets_room (op := .Lt) ⟨_, ho, rfl⟩ ⟨_, ho2, rfl⟩ F.slot_tuple_lt F.entry_tuple_lt (F.args_tuple_lt_2 _ _) (tuple_ltK l b items items2 n n2 dd dd2 sl sl2 xs ys k)
    ⟨ho, ho2, r, r2, e, fun x hx y u v p q => ?_, ih, (fun x => nomatch x), h⟩ (by omega)
  rw [NestedKey.decide_eq]
  have := depth_mem hx
  exact eqAt_key x y A.in1 s u v p.is q.is (by show A.units + 1 + min x.depth y.depth < cLine; omega)
end
end My

set_option Elab.async false
set_option linter.all false
set_option maxRecDepth 100000
set_option maxHeartbeats 2000000
namespace My
open PySem PySem.Spec PyProof.Rows L2 PySem.SeqAt
theorem depth_tup (xs : List NestedKey) : (NestedKey.tup xs).depth = NestedKey.depthAll xs + 1 := by rw [NestedKey.depth]
theorem rcLtN : ∀ (n : Nat) {x y : NestedKey} {A : Around} {s : Shared} {a b : Value} {k : Bool}, x.depth ≤ n → Ns s.heap x a → Ns s.heap y b → ltK x y = some k → A.units + n < cLine → RcLt A s a b k := by
  intro n
  induction n with
  | zero =>
    intro x y A s a b k hd p q e hu
    cases p with
    | none => cases q <;> simp [ltK] at e
    | int i t => cases q with
      | int j u => exact rcLt_num e
      | _ => simp [ltK] at e
    | text i t => cases q with
      | text j u => exact rcLt_text e
      | _ => simp [ltK] at e
    | tup _ _ _ _ => rw [depth_tup] at hd; omega
  | succ n ih =>
    intro x y A s a b k hd p q e hu
    cases p with
    | none => cases q <;> simp [ltK] at e
    | int i t => cases q with
      | int j u => exact rcLt_num e
      | _ => simp [ltK] at e
    | text i t => cases q with
      | text j u => exact rcLt_text e
      | _ => simp [ltK] at e
    | tup ho hc hdd r => cases q with
      | tup ho2 hc2 hd2 r2 =>
        rw [ltK] at e
        rw [depth_tup] at hd
        refine rcLt_tup ho hc hdd r ho2 hc2 hd2 r2 e (by omega) fun x hx y u v c p q ec => ?_
        have := depth_mem hx
        exact ih (by omega) p q ec (by show A.units + 1 + n < cLine; omega)
      | _ => simp [ltK] at e
def rLtN : R2 := fun x y H Q => ∃ (a b : NestedKey) (k : Bool), Nk H x a ∧ Nk H y b ∧ a.depth ≤ 50 ∧ ltK a b = some k ∧ Q (.bl k) H
theorem op_ltN {X : Cx} (hu : X.A.units + 64 < cLine) : OpR X (compareOp .Lt) rLtN := by
  intro pins s σ H x y v u Q I rx ry h
  obtain ⟨a, b, k, ha, hb, hd, e, q⟩ := h
  exact rcLtN 50 hd (ha.ns I rx) (hb.ns I ry) e (by omega) X.prog X.w _ _ ⟨.bl _, H, I, rfl, q⟩
end My

set_option Elab.async false
set_option linter.all false
set_option maxRecDepth 100000
set_option maxHeartbeats 2000000
/-! Sorting by keys that are tuples with a number first, the first place that differs decides. -/
namespace My
open PySem PySem.Spec PyProof.Rows L2 PySem.SeqAt PySem.W
abbrev toks (k : NestedKey) : List (Int ⊕ List Nat) := keyToks k.data
abbrev toksAll (ks : List NestedKey) : List (Int ⊕ List Nat) := keyToksAll (NestedKey.datas ks)
abbrev lexT (a b : List (Int ⊕ List Nat)) : Bool := PyProof.Rows.lexLt itemOrd a b
theorem toks_num (i : Int) : toks (.num i) = [.inl i] := by unfold toks; rw [NestedKey.data, keyToks]
theorem toks_text (x : Str) : toks (.text x) = [.inr x.cps.toList] := by unfold toks; rw [NestedKey.data, keyToks]
theorem toks_tup (ks : List NestedKey) : toks (.tup ks) = toksAll ks := by unfold toks toksAll; rw [NestedKey.data, keyToks]
theorem toksAll_nil : toksAll [] = [.inl 0] := by unfold toksAll; rw [NestedKey.datas, keyToksAll]
theorem toksAll_cons (k : NestedKey) (ks : List NestedKey) : toksAll (k :: ks) = .inl 1 :: (toks k ++ toksAll ks) := by unfold toks toksAll; rw [NestedKey.datas, keyToksAll]
theorem lexT_int {i j : Int} (ne : i ≠ j) (l m : List (Int ⊕ List Nat)) : lexT (.inl i :: l) (.inl j :: m) = decide (i < j) := by
  unfold lexT
  rw [lex_diff (O := itemOrd) (by intro z; cases z; exact ne rfl)]
  rfl
theorem lexT_str {x y : Str} (ne : x ≠ y) (l m : List (Int ⊕ List Nat)) : lexT (.inr x.cps.toList :: l) (.inr y.cps.toList :: m) = decide (x.cps.toList < y.cps.toList) := by
  have h1 := lex_atom (p := .inr x.cps.toList) (q := .inr y.cps.toList) (fun z => ne (str_of_cps (Sum.inr.inj z))) l m
  have h2 := dataLt_str x y
  unfold dataLt at h2
  simp only [keyToks] at h2
  exact h1.trans h2
mutual
theorem lex_key : ∀ (x y : NestedKey) (c : Bool) (l m : List (Int ⊕ List Nat)), x ≠ y → ltK x y = some c → lexT (toks x ++ l) (toks y ++ m) = c
  | .num i, .num j, c, l, m, ne, e => by
    rw [ltK] at e
    cases e
    rw [toks_num, toks_num]
    exact lexT_int (fun z => ne (by rw [z])) _ _
  | .text x, .text y, c, l, m, ne, e => by
    rw [ltK] at e
    cases e
    rw [toks_text, toks_text]
    exact lexT_str (fun z => ne (by rw [z])) _ _
  | .tup xs, .tup ys, c, l, m, ne, e => by
    rw [ltK] at e
    rw [toks_tup, toks_tup]
    exact lex_keys xs ys c l m (fun z => ne (by rw [z])) e
  | .none, y, c, l, m, ne, e => by cases y <;> simp [ltK] at e
  | .num i, .none, c, l, m, ne, e => by simp [ltK] at e
  | .num i, .text _, c, l, m, ne, e => by simp [ltK] at e
  | .num i, .tup _, c, l, m, ne, e => by simp [ltK] at e
  | .text i, .none, c, l, m, ne, e => by simp [ltK] at e
  | .text i, .num _, c, l, m, ne, e => by simp [ltK] at e
  | .text i, .tup _, c, l, m, ne, e => by simp [ltK] at e
  | .tup i, .none, c, l, m, ne, e => by simp [ltK] at e
  | .tup i, .num _, c, l, m, ne, e => by simp [ltK] at e
  | .tup i, .text _, c, l, m, ne, e => by simp [ltK] at e
theorem lex_keys : ∀ (xs ys : List NestedKey) (c : Bool) (l m : List (Int ⊕ List Nat)), xs ≠ ys → ltAll xs ys = some c → lexT (toksAll xs ++ l) (toksAll ys ++ m) = c
  | [], [], c, l, m, ne, e => absurd rfl ne
  | [], y :: ys, c, l, m, ne, e => by
    rw [ltAll] at e
    cases e
    rw [toksAll_nil, toksAll_cons]
    exact lexT_int (by decide) _ _
  | x :: xs, [], c, l, m, ne, e => by
    rw [ltAll] at e
    cases e
    rw [toksAll_nil, toksAll_cons]
    exact lexT_int (by decide) _ _
  | x :: xs, y :: ys, c, l, m, ne, e => by
    rw [ltAll] at e
    rw [toksAll_cons, toksAll_cons]
    show lexT (.inl 1 :: (toks x ++ toksAll xs ++ l)) (.inl 1 :: (toks y ++ toksAll ys ++ m)) = c
    unfold lexT
    rw [lex_self (O := itemOrd), List.append_assoc, List.append_assoc]
    by_cases h : x = y
    · rw [if_pos h] at e
      subst h
      rw [lex_pre]
      exact lex_keys xs ys c l m (fun z => ne (by rw [z])) e
    · rw [if_neg h] at e
      exact lex_key x y c _ _ h e
end
theorem ltAll_self : ∀ xs : List NestedKey, ltAll xs xs = some false
  | [] => by rw [ltAll]
  | x :: xs => by rw [ltAll, if_pos rfl, ltAll_self xs]
theorem lex_tup {xs ys : List NestedKey} {c : Bool} (e : ltAll xs ys = some c) : lexT (toks (.tup xs)) (toks (.tup ys)) = c := by
  rw [toks_tup, toks_tup]
  by_cases h : xs = ys
  · subst h
    rw [ltAll_self] at e
    cases e
    exact lex_irrefl _
  · have := lex_keys xs ys c [] [] h e
    rwa [List.append_nil, List.append_nil] at this
open Classical in
/-- the kind of keys that such things make in a heap -/
noncomputable def nkKind (h : Heap) (ks : List NestedKey) : PyProof.Rows.KeyKind where
  toKeyOrd := listOrd itemOrd
  keyOf v := if q : ∃ k, k ∈ ks ∧ Ns h k v then some (toks q.choose) else none
  dflt := ([] : List (Int ⊕ List Nat))
theorem nk_some {h : Heap} {ks : List NestedKey} {k : NestedKey} {v : Value} (hk : k ∈ ks) (hv : Ns h k v) : (nkKind h ks).keyOf v = some (toks k) := by
  have q : ∃ k, k ∈ ks ∧ Ns h k v := ⟨k, hk, hv⟩
  have e : (nkKind h ks).keyOf v = some (toks q.choose) := dif_pos q
  rw [e, NestedIs.inj _ _ _ q.choose_spec.2.is hv.is]
theorem nk_inv {h : Heap} {ks : List NestedKey} {v : Value} {t : List (Int ⊕ List Nat)} (e : (nkKind h ks).keyOf v = some t) : ∃ k, k ∈ ks ∧ Ns h k v ∧ t = toks k := by
  by_cases q : ∃ k, k ∈ ks ∧ Ns h k v
  · have e2 : (nkKind h ks).keyOf v = some (toks q.choose) := dif_pos q
    rw [e2] at e
    exact ⟨_, q.choose_spec.1, q.choose_spec.2, (Option.some.inj e).symm⟩
  · have e2 : (nkKind h ks).keyOf v = none := dif_neg q
    rw [e2] at e
    cases e
end My

set_option Elab.async false
set_option linter.all false
set_option maxRecDepth 100000
set_option maxHeartbeats 2000000
namespace My
open PySem PySem.Spec PyProof.Rows L2 PySem.SeqAt PySem.W
section
variable {prog : Program} {w : World} {A : Around} {E : Value → Shared → Prop} {s : Shared}
theorem one_ltN {f : Bool} {x y : NestedKey} {a b : Value} {c : Bool} {n : Nat} {Q : Bool → Shared → Prop} (hf : f = true → ∃ i, x = .num i) (p : Ns s.heap x a) (q : Ns s.heap y b) (e : ltK x y = some c) (hd : x.depth ≤ n) (hu : A.units + n < cLine) (hq : Q c s) :
    wpAny (model prog w) A (oneLt' f a b) Q E s := by
  cases f with
  | false =>
    rw [oneLt'_eq]
    simp only [Bool.false_eq_true, if_false]
    exact wpAny_bind (rcLtN n hd p q e hu prog w E _ (wpAny_truthy_bool hq))
  | true =>
    obtain ⟨i, rfl⟩ := hf rfl
    cases p
    cases q with
    | int j u =>
      rw [ltK] at e
      cases e
      exact oneLt_int hq
    | _ => simp [ltK] at e
theorem katLexN {b fin : Bool} {n : Nat} {Q : Bool → Shared → Prop} : ∀ (xs ys : List NestedKey) (i : Nat) (us vs : List Value) (c : Bool), NsAll s.heap xs us → NsAll s.heap ys vs → ltAll xs ys = some c → (∀ x ∈ xs, x.depth ≤ n) → A.units + n < cLine →
    (b = true → i = 0 → ∀ x r, xs = x :: r → ∃ j, x = .num j) → fin = decide (us.length < vs.length) → Q c s → KatLex prog w A b fin Q (us.zip vs) i s
  | [], [], i, _, _, c, .nil, .nil, e, _, _, _, hf, hq => by
    rw [ltAll] at e
    cases e
    subst hf
    exact kat_nil hq
  | [], y :: ys, i, _, _, c, .nil, .cons q qs, e, _, _, _, hf, hq => by
    rw [ltAll] at e
    cases e
    subst hf
    exact kat_nil (by simpa using hq)
  | x :: xs, [], i, _, _, c, .cons p ps, .nil, e, _, _, _, hf, hq => by
    rw [ltAll] at e
    cases e
    subst hf
    exact kat_nil (by simpa using hq)
  | x :: xs, y :: ys, i, _, _, c, .cons p ps, .cons q qs, e, hd, hu, hb, hf, hq => by
    rw [List.zip_cons_cons]
    have dx := hd x (.head _)
    refine kat_cons (eqAt_key x y A s _ _ p.is q.is (by omega) prog w _ _ ?_)
    rw [← NestedKey.decide_eq]
    rw [ltAll] at e
    by_cases h : x = y
    · rw [if_pos h] at e
      rw [decide_eq_true h]
      exact kat_yes (katLexN xs ys (i + 1) _ _ c ps qs e (fun z hz => hd z (.tail _ hz)) hu (fun _ hi => absurd hi (Nat.succ_ne_zero i)) (by rw [hf]; simp) hq)
    · rw [if_neg h] at e
      rw [decide_eq_false h]
      refine kat_no (one_ltN (n := n) (fun hb2 => ?_) p q e dx hu hq)
      rw [Bool.and_eq_true, beq_iff_eq] at hb2
      exact hb hb2.1 hb2.2 x xs rfl
theorem each_tups {h : Heap} : ∀ {vs : List Value} {ks : List NestedKey}, EachIs (fun v k => Ns h k v) vs ks → (∀ k ∈ ks, ∃ i r, k = .tup (.num i :: r)) → ∃ fs, KatTups h vs fs ∧ fs.length = vs.length ∧ ∀ f ∈ fs, ∃ i t, f = Value.int i t
  | _, _, .nil, _ => ⟨[], KatTups.nil, rfl, fun f hf => by cases hf⟩
  | _, _, .cons (b := k) p t, hk => by
    obtain ⟨fs, h1, h2, h3⟩ := each_tups t fun k hk2 => hk k (.tail _ hk2)
    obtain ⟨i, r, rfl⟩ := hk k (.head _)
    cases p with
    | @tup a o vs n _ ho hc hd hr =>
      cases q : vs.toList with
      | nil => rw [q] at hr; cases hr
      | cons f fr =>
        rw [q] at hr
        cases hr with
        | cons p1 p2 =>
          obtain ⟨u, rfl⟩ : ∃ u, f = Value.int i u := by cases p1; exact ⟨_, rfl⟩
          refine ⟨_ :: fs, KatTups.cons ho hc hd (by rw [← Array.getElem?_toList, q]; rfl) h1, by rw [List.length_cons, List.length_cons, h2], fun g hg => ?_⟩
          rcases List.mem_cons.mp hg with rfl | hg
          · exact ⟨_, _, rfl⟩
          · exact h3 g hg
theorem sortsN {vs : List Value} {ks : List NestedKey} {n : Nat} (e : EachIs (fun v k => Ns s.heap k v) vs ks) (hh : ∀ k ∈ ks, ∃ i r, k = .tup (.num i :: r)) (hc : ∀ k ∈ ks, ∀ k' ∈ ks, ∃ c, ltK k k' = some c) (hd : ∀ k ∈ ks, k.depth ≤ n) (hu : A.units + n < cLine) :
    SortsAt prog w A s (nkKind s.heap ks) vs := by
  refine ⟨fun v hv => ?_, tuples' ((Value.type "int") != Value.type "tuple"), ?_, fun h2 E Q hq => ?_⟩
  · obtain ⟨k, hk, p⟩ := e.left v hv
    exact ⟨_, nk_some hk p⟩
  · intro E x y a b Q ha hb hq
    obtain ⟨k, hk, p, rfl⟩ := nk_inv ha
    obtain ⟨k', hk', p', rfl⟩ := nk_inv hb
    obtain ⟨c, ec⟩ := hc k hk k' hk'
    have dk := hd k hk
    obtain ⟨i, r, rfl⟩ := hh k hk
    obtain ⟨i', r', rfl⟩ := hh k' hk'
    rw [depth_tup] at dk
    rw [ltK] at ec
    have hq : Q (lexT (toks (.tup (.num i :: r))) (toks (.tup (.num i' :: r')))) s := hq
    rw [lex_tup ec] at hq
    cases p with
    | tup h1 h2 h3 h4 =>
      cases p' with
      | tup k1 k2 k3 k4 =>
        refine kat_lt h1 h3 k1 k3 (katLexN (n := n) _ _ 0 _ _ c h4 k4 ec (fun x hx => ?_) hu (fun _ _ x r ex => ?_) (by simp) hq)
        · have := depth_mem hx
          omega
        · obtain ⟨rfl, rfl⟩ := List.cons.inj ex
          exact ⟨_, rfl⟩
  · obtain ⟨fs, t1, t2, t3⟩ := each_tups e hh
    refine kat_kind (T := Value.type "int") t1 (by omega) (fun f hf => ?_) (beq_self_eq_true _) hq
    obtain ⟨i, t, rfl⟩ := t3 f hf
    exact looks_reads (Reads.int i t)
end
end My

set_option Elab.async false
set_option linter.all false
set_option maxRecDepth 100000
set_option maxHeartbeats 2000000
/-! sorted(.., key=f), f a def of the text that tells a tuple of each item. -/
namespace My
open PySem PySem.Spec PyProof.Rows L2 PySem.SeqAt PySem.W
/-- a key's promise: F of the item's data, all else stays -/
def spKey (F : NestedKey → NestedKey) (C : NestedKey → Prop) : Sp := fun vs H Q _ => ∃ x k, vs = [x] ∧ Nk H x k ∧ C k ∧ ∀ v H', Same H H' → Nk H' v (F k) → Q v H'
/-- items with their data, by their keys -/
def leF (F : NestedKey → NestedKey) : V × NestedKey → V × NestedKey → Bool := sortLe (listOrd itemOrd) false fun b => toks (F b.2)
theorem zip_each : ∀ {xs : List V} {ks : List NestedKey} {vs : List Value}, Vals xs vs → xs.length = ks.length → EachIs (fun (v : Value) (b : V × NestedKey) => RelV b.1 v) vs (xs.zip ks)
  | [], [], _, .nil, _ => .nil
  | _ :: _, k :: ks, _, .cons r t, h => .cons r (zip_each t (by simpa using h))
theorem each_vals : ∀ {vs : List Value} {bs : List (V × NestedKey)}, EachIs (fun (v : Value) (b : V × NestedKey) => RelV b.1 v) vs bs → Vals (bs.map Prod.fst) vs
  | _, _, .nil => .nil
  | _, _, .cons r t => .cons r (each_vals t)
theorem each_snd {R : Value → NestedKey → Prop} : ∀ {vs : List Value} {xs : List V} {ks : List NestedKey}, EachIs R vs ks → xs.length = ks.length → EachIs (fun v (b : V × NestedKey) => R v b.2) vs (xs.zip ks)
  | _, [], [], .nil, _ => .nil
  | _, x :: xs, _ :: _, .cons r t, h => .cons r (each_snd t (by simpa using h))
section
variable {X : Cx} {pins : List (Addr × Obj)} {σ : L2.St} {H : Hp} {s : Shared} {f a : Addr} {fd : FuncData} {ps : List Str} {j n : Nat} {F : NestedKey → NestedKey} {C : NestedKey → Prop}
theorem Room.in2 {A : Around} (r : Room (j + 1) A) : Room j A.in1.in1 := ⟨r.hd, by have := r.dp; show A.depth + 3 * j + 5 < _; omega, by have := r.un; show A.units + 1 + 1 + 16 * j + 200 < _; omega⟩
/-- one call of the key, some objects of the sort's own pinned -/
theorem key_call (G : FnOk X.prog X.w X.K X.mg X.base CX0 j f fd ps (spKey F C)) (hr : Room (j + 1) X.A) (hb : Binds X.K fd ps []) (I : Inv X pins σ H s) {x : V} {v : Value} {k : NestedKey} (rv : RelV x v) (hx : Nk H x k) (hC : C k) {Q : Value → Shared → Prop} {E : Value → Shared → Prop}
    (h : ∀ u s' y H', Inv X pins σ H' s' → RelV y u → Same H H' → Nk H' y (F k) → Q u s') : wpAny (model X.prog X.w) X.A.in1.in1 (call (.ref f) [v]) Q E s := by
  have sp : spKey F C [x] H (fun y H' => Same H H' ∧ Nk H' y (F k)) E0 := ⟨x, k, rfl, hx, hC, fun y H' s1 n1 => ⟨s1, n1⟩⟩
  have hl : ([v] ++ ([] : List Value)).length = ps.length := by
    have := G.len _ _ _ _ sp
    simpa using this
  refine wpAny_call (codeAny_mono (G.run X.A.in1.in1 X.stack s H ⟨[v], []⟩ [v] [x] _ E0 (Room.in2 hr) I.env0.in1.in1 (hb s [v] I.kIn hl) (.cons rv .nil) sp) fun r s' hq => ?_)
  match r, hq with
  | .error e, hq => exact hq.elim
  | .ok (.ret u), hq =>
    obtain ⟨y, H', I', ry, s1, n1⟩ := I.after hq
    exact h u s' y H' I' ry s1 n1
end
end My

set_option Elab.async false
set_option linter.all false
set_option maxRecDepth 100000
set_option maxHeartbeats 2000000
namespace My
open PySem PySem.Spec PyProof.Rows L2 PySem.SeqAt PySem.W
theorem each_snocN {R : Value → NestedKey → Prop} {v : Value} {k : NestedKey} (h : R v k) : ∀ {vs : List Value} {ks : List NestedKey}, EachIs R vs ks → EachIs R (vs ++ [v]) (ks ++ [k])
  | _, _, .nil => .cons h .nil
  | _, _, .cons a t => .cons a (each_snocN h t)
section
variable {X : Cx} {pins : List (Addr × Obj)} {σ : L2.St} {H : Hp} {s : Shared} {f a : Addr} {fd : FuncData} {ps : List Str} {j n : Nat} {F : NestedKey → NestedKey} {C : NestedKey → Prop}
/-- a key's value, as it is known to the sort -/
def IsKey (H : Hp) (v : Value) (k : NestedKey) : Prop := ∃ x, Nk H x k ∧ RelV x v
theorem IsKey.at {H H' : Hp} {v : Value} {k : NestedKey} (h : IsKey H v k) (t : Tups H H') : IsKey H' v k := let ⟨x, a, b⟩ := h; ⟨x, a.at t, b⟩
theorem sort_keyG {xs : List V} {vs : List Value} {ks : List NestedKey} {P : PySem.Fin → Shared → Prop} {E : Value → Shared → Prop} (G : FnOk X.prog X.w X.K X.mg X.base CX0 j f fd ps (spKey F C)) (hr : Room (j + 1) X.A) (hb : Binds X.K fd ps [])
    (I : Inv X pins σ H s) (fa : FpOk X pins H a) (ho : s.heap.get? a = some (seqObj "list" vs.toArray n)) (rv : Vals xs vs) (hk : NkAll H xs ks) (hC : ∀ k ∈ ks, C k) (hS : ∀ (s' : Shared) (vs' : List Value), EachIs (fun v k => Ns s'.heap k v) vs' (ks.map F) → SortsAt X.prog X.w X.A.in1.in1 s' (nkKind s'.heap (ks.map F)) vs')
    (hz : vs.length ≤ sizeLine)
    (h : ∀ H' s', Same H H' → H' a = none → Inv X pins σ (upd H' a (.lst (((xs.zip ks).mergeSort (leF F)).map Prod.fst))) s' → P (.done (.ret .none)) s') :
    wpAny (model X.prog X.w) X.A.in1.in1 (ksk_tree a (.ref f) false) P E s := by
  have lk : xs.length = ks.length := hk.length
  have lv : xs.length = vs.length := rv.length
  unfold ksk_tree
  refine wpAny_bind (listItems_at ho rfl ?_)
  refine wpAny_bind (listUpdate_at ho rfl ?_ (by rw [List.size_toArray]; exact hz) (Nat.zero_le _))
  obtain ⟨e1, ho1⟩ : ∃ e1, (s.heap.update a (Obj.mapSeq fun _ => (#[] : Array Value))).get? a = some (seqObj "list" #[] e1) := ⟨_, get?_update_seq ho fun _ => #[]⟩
  have s1 := Heap.SameBut.update s.heap a (Obj.mapSeq fun _ => (#[] : Array Value))
  have I1 : Inv X pins σ H { s with heap := s.heap.update a (Obj.mapSeq fun _ => (#[] : Array Value)) } := I.turnedL (ch := [a]) (t' := s.toks) (fun b o hb e => (s1.2 b (fun z => hb (by simp [z]))).trans e) (fun b hb => by rw [List.mem_singleton.mp hb]; exact fa)
  generalize s.heap.update a (Obj.mapSeq fun _ => (#[] : Array Value)) = h1 at ho1 I1 ⊢
  refine wpAny_bind (seqEpoch_at ho1 rfl ?_)
  refine wpAny_bind (wpAny_newTuple ?_ (by show vs.length ≤ _; exact hz))
  refine wpAny_bind (wpAny_newList ?_ (Nat.zero_le _))
  refine wpAny_holding ?_
  show wpAny _ _ (ksk_rest a (.ref f) false vs.toArray e1 (.ref _)) _ _ { s with heap := (h1.push (seqObj "tuple" vs.toArray 0)).push (seqObj "list" #[] 0) }
  have I2 : Inv X pins σ H { s with heap := h1.push (seqObj "tuple" vs.toArray 0) } := I1.kept (t' := s.toks) fun b u e => Heap.get?_push_of_some _ e
  have I3 : Inv X pins σ H { s with heap := (h1.push (seqObj "tuple" vs.toArray 0)).push (seqObj "list" #[] 0) } := I2.kept (t' := s.toks) fun b u e => Heap.get?_push_of_some _ e
  have ho3 : ((h1.push (seqObj "tuple" vs.toArray 0)).push (seqObj "list" #[] 0)).get? a = some (seqObj "list" #[] e1) := Heap.get?_push_of_some _ (Heap.get?_push_of_some _ ho1)
  have hk3 : ((h1.push (seqObj "tuple" vs.toArray 0)).push (seqObj "list" #[] 0)).get? (h1.push (seqObj "tuple" vs.toArray 0)).objs.size = some (seqObj "list" #[] 0) := Heap.get?_push_size _ rfl
  have fk : FpOk X pins H (h1.push (seqObj "tuple" vs.toArray 0)).objs.size := I2.fpOk (Nat.le_refl _) (I2.hok.fresh (Nat.le_refl _))
  have hka : (h1.push (seqObj "tuple" vs.toArray 0)).objs.size ≠ a := fun z => by
    have := Heap.lt_size (Heap.get?_push_of_some (seqObj "tuple" vs.toArray 0) ho1)
    rw [← z] at this
    exact Nat.lt_irrefl _ this
  generalize (h1.push (seqObj "tuple" vs.toArray 0)).push (seqObj "list" #[] 0) = h3 at I3 ho3 hk3 ⊢
  generalize (h1.push (seqObj "tuple" vs.toArray 0)).objs.size = kS at hk3 fk hka ⊢
  clear I1 I2 ho1 s1
  unfold ksk_rest
  refine wpAny_bind (wpAny_rule ?_)
  rw [List.forIn_toArray]
  refine wpAny_bind (ksk_fold (fun i s' => ∃ H' kA e, Inv X pins σ H' s' ∧ Same H H' ∧ H' a = none ∧ H' kS = none ∧ s'.heap.get? kS = some (seqObj "list" kA e) ∧ s'.heap.get? a = some (seqObj "list" #[] e1) ∧ EachIs (IsKey H') kA.toList ((ks.map F).take i)) vs 0 _
    ⟨H, #[], 0, I3, Same.refl _, fa.1, fk.1, hk3, ho3, by rw [List.take_zero]; exact EachIs.nil⟩ ?step ?done)
  case step =>
    rintro i v s' hv ⟨H', kA, e, I', sm, na, nk, gk, ga, ek⟩
    simp only [Nat.zero_add] at ek ⊢
    have hi : i < vs.length := (List.getElem?_eq_some_iff.mp hv).1
    have hxi : xs[i]? = some xs[i] := List.getElem?_eq_getElem (by omega)
    obtain ⟨k, hki, nkx⟩ := hk.get hxi
    obtain ⟨v2, hv2, rx⟩ := rv.get hxi
    obtain rfl : v2 = v := Option.some.inj (hv2.symm.trans hv)
    have szA : kA.size ≤ vs.length := by
      have h1 := ek.length
      rw [Array.length_toList, List.length_take, List.length_map] at h1
      omega
    have Ip := I'.pinned (fp := [a, kS]) (fun b hb => by
      rcases List.mem_cons.mp hb with rfl | hb
      · exact ⟨na, fa.2⟩
      · rw [List.mem_singleton.mp hb]; exact ⟨nk, fk.2⟩) (fun b hb => by
      rcases List.mem_cons.mp hb with rfl | hb
      · exact ⟨_, ga, fun v z => by cases z⟩
      · rw [List.mem_singleton.mp hb]; exact ⟨_, gk, fun v z => by cases z⟩)
    refine wpAny_bind (wpAny_attempt (key_call G hr hb Ip rx (nkx.at (.same sm)) (hC k (List.mem_of_getElem? hki)) fun u s2 y H2 I2 ry sm2 ny => ?_))
    have pa := I2.pin (a, seqObj "list" #[] e1) (List.mem_append_right _ (List.mem_append_right _ (mem_pinsAt (by simp) ga)))
    have pk := I2.pin (kS, seqObj "list" kA e) (List.mem_append_right _ (List.mem_append_right _ (mem_pinsAt (by simp) gk)))
    have I2 := I2.unpinned
    try dsimp only
    have s3 := Heap.SameBut.update s2.heap kS (Obj.mapSeq (·.push u))
    obtain ⟨c2, hc2⟩ : ∃ c2, (s2.heap.update kS (Obj.mapSeq (·.push u))).get? kS = some (seqObj "list" (kA.push u) c2) := ⟨_, get?_update_seq pk.1 (·.push u)⟩
    refine wpAny_bind (listUpdate_at pk.1 rfl ?_ (Nat.le_trans szA hz) (by rw [Array.size_push]; omega))
    refine wpAny_pure ⟨rfl, H2, kA.push u, c2, ?_, sm.trans sm2, pa.2.1, pk.2.1, hc2, (s3.2 a hka.symm).trans pa.1, ?_⟩
    · exact I2.turnedL (ch := [kS]) (t' := s2.toks) (fun b o hb e => (s3.2 b (fun z => hb (by simp [z]))).trans e) (fun b hb => by rw [List.mem_singleton.mp hb]; exact ⟨pk.2.1, fk.2⟩)
    · have e2 : (ks.map F).take (i + 1) = (ks.map F).take i ++ [F k] := by
        rw [List.take_add_one, List.getElem?_map, hki]
        rfl
      rw [e2, Array.toList_push]
      exact each_snocN ⟨y, ny, ry⟩ (ek.mono fun v k q => q.at (.same sm2))
  case done =>
    rintro s' ⟨H', kA, e, I', sm, na, nk, gk, ga, ek⟩
    rw [List.take_of_length_le (by rw [List.length_map]; omega)] at ek
    have szA : kA.size = vs.length := by
      have h1 := ek.length
      rw [Array.length_toList, List.length_map] at h1
      omega
    refine wpAny_bind (listItems_at gk rfl ?_)
    have en : EachIs (fun v k => Ns s'.heap k v) kA.toList (ks.map F) := ek.mono fun v k q => let ⟨x, a, b⟩ := q; a.ns I' b
    have mem : ∀ {k : NestedKey}, k ∈ ks.map F → ∃ k0, k0 ∈ ks ∧ F k0 = k := fun h => List.mem_map.mp h
    have S : SortsAt X.prog X.w X.A.in1.in1 s' (nkKind s'.heap (ks.map F)) kA.toList := hS s' kA.toList en
    have hid : (hideAll s'.heap [kS]).get? kS = none := hideAll_none _ (by simp)
    have kp : KeepsBut a (hideAll s'.heap [kS]) s'.heap := fun b o _ q => of_hideAll _ q
    refine keyH_end (κ := nkKind s'.heap (ks.map F)) (b := false) (vs := vs) (h₁ := hideAll s'.heap [kS]) kp hid gk ga hka S szA hz fun h4 tk c k4 n4 => ?_
    have out := sortVals_each (κ := nkKind s'.heap (ks.map F)) (rev := false) (R := fun (v : Value) (b : V × NestedKey) => RelV b.1 v) (ks := kA.toList) (vs := vs) (bs := xs.zip ks) (fun b => toks (F b.2)) (zip_each rv lk) (by
      have e3 : EachIs (fun v k => (nkKind s'.heap (ks.map F)).keyOf v = some (toks (F k))) kA.toList ks := each_of_map F ((each_mem en).mono fun v k q => nk_some q.2 q.1)
      exact each_snd e3 lk)
    have keep : ∀ b o, b ∉ [a, kS] → s'.heap.get? b = some o → h4.get? b = some o := fun b o nb q => k4 b o (fun z => nb (by simp [z])) (hideAll_get _ q fun z => nb (by simp [List.mem_singleton.mp z]))
    have I4 : Inv X pins σ H' { s' with heap := hideAll s'.heap [], toks := s'.toks } := I'
    refine h H' _ sm na ?_
    have rel : Vals (((xs.zip ks).mergeSort (leF F)).map Prod.fst) (sortVals (nkKind s'.heap (ks.map F)) false kA.toList vs) := each_vals out
    have lo : (((xs.zip ks).mergeSort (leF F)).map Prod.fst).length ≤ sizeLine := by
      rw [List.length_map, List.length_mergeSort, List.length_zip]
      omega
    have I5 : Inv X pins σ H' { s' with heap := h4, toks := tk } := by
      refine I'.turnedL (ch := [a, kS]) (t' := tk) keep fun b hb => ?_
      rcases List.mem_cons.mp hb with rfl | hb
      · exact ⟨na, fa.2⟩
      · rw [List.mem_singleton.mp hb]; exact ⟨nk, fk.2⟩
    exact I5.take (t' := tk) (fun b ob _ e => e) ⟨na, fa.2⟩ ⟨lo, _, c, rel, n4⟩
theorem sort_key {xs : List V} {vs : List Value} {ks : List NestedKey} {P : PySem.Fin → Shared → Prop} {E : Value → Shared → Prop} (G : FnOk X.prog X.w X.K X.mg X.base CX0 j f fd ps (spKey F C)) (hr : Room (j + 1) X.A) (hb : Binds X.K fd ps [])
    (I : Inv X pins σ H s) (fa : FpOk X pins H a) (ho : s.heap.get? a = some (seqObj "list" vs.toArray n)) (rv : Vals xs vs) (hk : NkAll H xs ks) (hC : ∀ k ∈ ks, C k) (hh : ∀ k ∈ ks, ∃ i r, F k = .tup (.num i :: r))
    (hc : ∀ k ∈ ks, ∀ k' ∈ ks, ∃ c, ltK (F k) (F k') = some c) (hd : ∀ k ∈ ks, (F k).depth ≤ 50) (hz : vs.length ≤ sizeLine)
    (h : ∀ H' s', Same H H' → H' a = none → Inv X pins σ (upd H' a (.lst (((xs.zip ks).mergeSort (leF F)).map Prod.fst))) s' → P (.done (.ret .none)) s') :
    wpAny (model X.prog X.w) X.A.in1.in1 (ksk_tree a (.ref f) false) P E s := by
  have mem : ∀ {k : NestedKey}, k ∈ ks.map F → ∃ k0, k0 ∈ ks ∧ F k0 = k := fun h => List.mem_map.mp h
  refine sort_keyG G hr hb I fa ho rv hk hC (fun s' vs' en => sortsN (n := 50) en
      (fun k hk => by obtain ⟨k0, h0, rfl⟩ := mem hk; exact hh k0 h0)
      (fun k hk k' hk' => by obtain ⟨k0, h0, rfl⟩ := mem hk; obtain ⟨k1, h1, rfl⟩ := mem hk'; exact hc k0 h0 k1 h1)
      (fun k hk => by obtain ⟨k0, h0, rfl⟩ := mem hk; exact hd k0 h0) (by have := hr.un; show X.A.units + 1 + 1 + 50 < cLine; omega)) hz h
end
end My

set_option Elab.async false
set_option linter.all false
set_option maxRecDepth 100000
set_option maxHeartbeats 2000000
/-! Dicts whose keys are tuples of numbers, texts and such tuples, all values True. -/
namespace My
open PySem PySem.Spec PyProof.Rows L2 PySem.SeqAt PySem.W
def tri (xs : List (NestedKey × Addr)) : List (NestedKey × Addr × Value) := xs.map fun p => (p.1, p.2, Value.bool true)
def NDraw (P : Program) (w : World) (d : Addr) (xs : List (NestedKey × Addr)) (h : Heap) : Prop :=
  ∃ o es ep, h.get? d = some o ∧ o.ExactDict ∧ o.data = .dict es ep ∧ es.toList = (tri xs).map (entryOfKey (nestedKind P w)) ∧ ((tri xs).map (·.1)).Nodup ∧ (d == sysModules) = false
/-- such a dict -/
def ND (P : Program) (w : World) (d : Addr) (xs : List (NestedKey × Addr)) : HO := .ext (NDraw P w d xs)
/-- such a dict (of none, too), its keys there -/
def NdAt (P : Program) (w : World) (H : Hp) (d : Addr) (xs : List (NestedKey × Addr)) : Prop := (H d = some (ND P w d xs) ∨ (xs = [] ∧ H d = some (.dK []))) ∧ ∀ p ∈ xs, Nk H (.ref p.2) p.1 ∧ p.1.depth ≤ 8
def putN (xs : List (NestedKey × Addr)) (k : NestedKey) (a : Addr) : List (NestedKey × Addr) := if k ∈ xs.map (·.1) then xs else xs ++ [(k, a)]
theorem tri_keys (xs : List (NestedKey × Addr)) : (tri xs).map (·.1) = xs.map (·.1) := by
  unfold tri
  rw [List.map_map]
  rfl
theorem atKey_some {xs : List (NestedKey × Addr)} {k : NestedKey} : (atKey (tri xs) k).isSome = decide (k ∈ xs.map (·.1)) := by
  induction xs with
  | nil => rfl
  | cons p xs ih =>
    unfold tri atKey at *
    rw [List.map_cons, List.find?_cons]
    by_cases e : p.1 = k
    · subst e
      simp
    · have e2 : ¬ k = p.1 := fun z => e z.symm
      simp only [decide_eq_false e]
      rw [ih, List.map_cons]
      simp [List.mem_cons, e2]
theorem stored_tri (xs : List (NestedKey × Addr)) (k : NestedKey) (a : Addr) : storedH (tri xs) k a (.bool true) = tri (putN xs k a) := by
  unfold storedH putN
  rw [atKey_some]
  by_cases e : k ∈ xs.map (·.1)
  · rw [decide_eq_true e, if_pos rfl, if_pos e]
    unfold tri
    rw [List.map_map]
    refine List.map_congr_left fun p _ => ?_
    show putAt k (Value.bool true) (p.1, p.2, Value.bool true) = _
    unfold putAt
    split <;> rfl
  · rw [decide_eq_false e, if_neg Bool.false_ne_true, if_neg e]
    unfold tri
    rw [List.map_append]
    rfl
section
variable {X : Cx} {pins : List (Addr × Obj)} {σ : L2.St} {H : Hp} {s : Shared} {d : Addr} {xs : List (NestedKey × Addr)}
theorem nd_full (I : Inv X pins σ H s) (h : NdAt X.prog X.w H d xs) : s.heap.DictOfH (nestedKind X.prog X.w) d (tri xs) ∧ (d == sysModules) = false := by
  have keys : ∀ x ∈ tri xs, (nestedKind X.prog X.w).is s.heap x.1 x.2.1 := fun x hx => by
    obtain ⟨p, hp, rfl⟩ := List.mem_map.mp hx
    exact ⟨(h.2 p hp).1.is I rfl, (h.2 p hp).2⟩
  rcases h.1 with e | ⟨rfl, e⟩
  · obtain ⟨⟨o, es, ep, h1, h2, h3, h4, h5, h6⟩, _⟩ := (show ObjOk X.prog X.w H s.heap d (ND X.prog X.w d xs) from I.hok d _ e)
    exact ⟨⟨o, es, ep, h1, h2, h3, h4, keys, h5⟩, h6⟩
  · obtain ⟨z, hd, vs, rel, o, es, ep, h1, h2, h3, h4⟩ := (show ObjOk X.prog X.w H s.heap d (.dK []) from I.hok d _ e)
    cases rel
    have e0 : es.toList = [] := by
      have := h4.2.1
      cases q : es.toList with
      | nil => rfl
      | cons a b => rw [q] at this; cases this
    exact ⟨⟨o, es, ep, h1, h2, h3, e0, keys, List.nodup_nil⟩, hd⟩
theorem nd_new {P : Program} {w : World} {H : Hp} {h : Heap} (m : h.DictOfH (nestedKind P w) d (tri xs)) (hd : (d == sysModules) = false) : ObjOk P w H h d (ND P w d xs) := by
  obtain ⟨o, es, ep, h1, h2, h3, h4, _, h5⟩ := m
  refine ⟨⟨o, es, ep, h1, h2, h3, h4, h5, hd⟩, ⟨o, h1⟩, ?_⟩
  rintro g1 g2 ⟨o, es, ep, k1, k2⟩ up
  exact ⟨o, es, ep, up o k1, k2⟩
theorem nd_mut {P : Program} {w : World} {H : Hp} (h : NdAt P w H d xs) : Mut (H d) := by
  rcases h.1 with e | ⟨_, e⟩ <;> rw [e] <;> trivial
/-- behind d[k] = True -/
theorem nd_put {P : Program} {w : World} {H : Hp} {a : Addr} {k : NestedKey} (h : NdAt P w H d xs) (hk : Nk H (.ref a) k) (hd : k.depth ≤ 8) (nd : ∀ ys, H d ≠ some (.tup ys)) : NdAt P w (upd H d (ND P w d (putN xs k a))) d (putN xs k a) := by
  have t : Tups H (upd H d (ND P w d (putN xs k a))) := fun b ys e => by
    rw [upd_ne (fun z => nd ys (by rw [← z]; exact e))]
    exact e
  refine ⟨.inl upd_same, fun p hp => ?_⟩
  unfold putN at hp
  split at hp
  · exact ⟨(h.2 p hp).1.at t, (h.2 p hp).2⟩
  · rcases List.mem_append.mp hp with hp | hp
    · exact ⟨(h.2 p hp).1.at t, (h.2 p hp).2⟩
    · rw [List.mem_singleton.mp hp]
      exact ⟨hk.at t, hd⟩
theorem nd_ntup {P : Program} {w : World} {H : Hp} (h : NdAt P w H d xs) : ∀ ys, H d ≠ some (.tup ys) := fun ys z => by
  rcases h.1 with e | ⟨_, e⟩
  · rw [e] at z; cases z
  · rw [e] at z; cases z
theorem nd_dictSet {A : Around} {a : Addr} {k : NestedKey} {E : Value → Shared → Prop} {Q : Unit → Shared → Prop} (hu : A.units + 8 < cLine) (I : Inv X pins σ H s) (h : NdAt X.prog X.w H d xs) (hk : Nk H (.ref a) k) (hd : k.depth ≤ 8) (hz : xs.length < sizeLine)
    (q : ∀ s', Inv X pins σ (upd H d (ND X.prog X.w d (putN xs k a))) s' → Q () s') : wpAny (model X.prog X.w) A (dictSet d (.ref a) (.bool true)) Q E s := by
  obtain ⟨m, hs⟩ := nd_full I h
  refine wpAny_dictSet_heap (knd := nestedKind X.prog X.w) (hsz := by unfold tri; rw [List.length_map]; omega) hu ⟨hk.is I rfl, hd⟩ m fun h' m' sb => q _ ?_
  rw [stored_tri] at m'
  have he : ∃ o, h'.get? d = some o := let ⟨o, _, _, g, _⟩ := m'; ⟨o, g⟩
  exact d_write I (nd_mut h) sb he (nd_new m' hs)
theorem nd_setItem {A : Around} {a : Addr} {k : NestedKey} {E : Value → Shared → Prop} {Q : Unit → Shared → Prop} (hu : A.units + 9 < cLine) (I : Inv X pins σ H s) (h : NdAt X.prog X.w H d xs) (hk : Nk H (.ref a) k) (hd : k.depth ≤ 8) (hz : xs.length < sizeLine)
    (q : ∀ s', Inv X pins σ (upd H d (ND X.prog X.w d (putN xs k a))) s' → Q () s') : wpAny (model X.prog X.w) A (setItem (.ref d) (.ref a) (.bool true)) Q E s := by
  obtain ⟨m, hs⟩ := nd_full I h
  refine wpAny_setItem_heap (knd := nestedKind X.prog X.w) (hsz := by unfold tri; rw [List.length_map]; omega) (by show A.units + 1 + 8 < cLine; omega) ⟨hk.is I rfl, hd⟩ m fun h' m' sb => q _ ?_
  rw [stored_tri] at m'
  have he : ∃ o, h'.get? d = some o := let ⟨o, _, _, g, _⟩ := m'; ⟨o, g⟩
  exact d_write I (nd_mut h) sb he (nd_new m' hs)
end
section
variable {X : Cx} {o i value : Expr} {td ty tv : TE} {pos pos' : Pos}
/-- d[k] = True -/
def sDPutN (P : Program) (w : World) (td ty tv : TE) : TS := fun D σ H => tv σ H fun v H1 => td σ H1 fun x H2 => ty σ H2 fun y H3 => ∃ d a k xs, v = .bl true ∧ x = .ref d ∧ y = .ref a ∧ NdAt P w H3 d xs ∧ Nk H3 (.ref a) k ∧ k.depth ≤ 8 ∧ xs.length < sizeLine ∧ D.nx σ (upd H3 d (ND P w d (putN xs k a)))
theorem ps_dputN (hu : X.A.units + 64 < cLine) (ho : PE X o td) (hi : PE X i ty) (hv : PE X value tv) (hs : swapsWith value (some (.Subscript o i pos')) pos.line X.env = pure false) : PS X (.Assign [.Subscript o i pos'] value pos) (sDPutN X.prog X.w td ty tv) := by
  constructor
  intro pins s σ H D I h
  refine wpAny_Assign_Subscript (thn (hv.run pins s σ H _ I h) ?_) hs
  rintro r s1 ⟨v, H1, I1, rv, q1⟩
  refine thn (ho.run pins s1 σ H1 _ I1 q1) ?_
  rintro u s2 ⟨x, H2, I2, rx, q2⟩
  refine thn (hi.run pins s2 σ H2 _ I2 q2) ?_
  rintro iv s3 ⟨y, H3, I3, ry, d, a, k, xs, rfl, rfl, rfl, hn, hk, hd, hz, q3⟩
  cases rv
  cases rx
  cases ry
  exact nd_setItem (by omega) I3 hn hk hd hz fun s4 I4 => ⟨σ, _, I4, q3⟩
/-- k in d, k not in d -/
def rInD (P : Program) (w : World) (neg : Bool) : R2 := fun x y H Q => ∃ d a k xs, x = .ref a ∧ y = .ref d ∧ NdAt P w H d xs ∧ Nk H (.ref a) k ∧ k.depth ≤ 8 ∧ Q (.bl (if neg then !decide (k ∈ xs.map (·.1)) else decide (k ∈ xs.map (·.1)))) H
theorem op_inD (hu : X.A.units + 64 < cLine) : OpR X (compareOp .In) (rInD X.prog X.w false) := by
  intro pins s σ H x y v u Q I rx ry h
  obtain ⟨d, a, k, xs, rfl, rfl, hn, hk, hd, q⟩ := h
  cases rx
  cases ry
  obtain ⟨m, hs⟩ := nd_full I hn
  refine wpAny_in_heap (knd := nestedKind X.prog X.w) (by show X.A.units + 1 + 8 < cLine; omega) ⟨hk.is I rfl, hd⟩ hs m ⟨.bl _, H, I.tok _, rfl, ?_⟩
  rw [atKey_some]
  exact q
theorem op_notInD (hu : X.A.units + 64 < cLine) : OpR X (compareOp .NotIn) (rInD X.prog X.w true) := by
  intro pins s σ H x y v u Q I rx ry h
  obtain ⟨d, a, k, xs, rfl, rfl, hn, hk, hd, q⟩ := h
  cases rx
  cases ry
  obtain ⟨m, hs⟩ := nd_full I hn
  refine notIn_keyed (knd := nestedKind X.prog X.w) (by show X.A.units + 1 + 8 < cLine; omega) ⟨hk.is I rfl, hd⟩ hs ⟨_, m, rfl⟩ ⟨.bl _, H, I.tok _, rfl, ?_⟩
  rw [valueAt_pairsH, Option.isSome_map, atKey_some]
  exact q
end
end My

set_option Elab.async false
set_option linter.all false
set_option maxRecDepth 100000
set_option maxHeartbeats 2000000
namespace My
open PySem PySem.Spec PyProof.Rows L2 PySem.SeqAt PySem.W
theorem kdl_rawD {prog : Program} {w : World} {d : Addr} {es : Array DictEntry} {ep : Nat} (lo : (d == sysModules) = false) : KdlSrc prog w "dict" d d es.size (fun i v => ∃ hi : i < es.size, v = es[i].key) (fun h => h.DictRaw d es ep) where
  type := fun _ hm => hm.typeIs
  there := fun h hm => let ⟨o, ho, _⟩ := hm; ⟨Heap.lt_size ho, Heap.lt_size ho⟩
  keep := fun _ _ hm hk => hm.at fun o e => hk d (.inl rfl) o e
  notList := by decide
  notTuple := by decide
  hint := fun _ _ _ _ hm hq => kdl_hint_dict hm.typeIs hq
  iter := fun _ s hh hm => by
    obtain ⟨o, ho, _⟩ := id hm
    exact ⟨_, _, (fun _ _ hq => wpAny_pyIter_dict_raw lo hm hq), Walks.rawKeys hh _ d (Nat.ne_of_lt (Heap.lt_size ho)) es ep, ⟨⟨_, Heap.get?_push_size _ rfl, rfl, rfl⟩, hm.at fun o e => Heap.get?_push_of_some _ e⟩⟩
/-- what sorted tells of such a dict's keys -/
def sortD (F : NestedKey → NestedKey) (xs : List (NestedKey × Addr)) : List V := (((xs.map fun p => V.ref p.2).zip (xs.map (·.1))).mergeSort (leF F)).map Prod.fst
theorem vals_refs : ∀ {xs : List (NestedKey × Addr)} {us : List Value}, us.length = xs.length → (∀ (j : Nat) (v : Value), us[j]? = some v → ∃ p : NestedKey × Addr, xs[j]? = some p ∧ v = Value.ref p.2) → Vals (xs.map fun p => V.ref p.2) us
  | [], [], _, _ => .nil
  | p :: xs, u :: us, hl, h => by
    refine .cons ?_ (vals_refs (by simpa using hl) fun j v e => h (j + 1) v (by simpa using e))
    obtain ⟨q, e, e2⟩ := h 0 u rfl
    cases e
    exact e2
theorem nk_refs {H : Hp} : ∀ {xs : List (NestedKey × Addr)}, (∀ p ∈ xs, Nk H (.ref p.2) p.1) → NkAll H (xs.map fun p => V.ref p.2) (xs.map (·.1))
  | [], _ => .nil
  | p :: xs, h => .cons (h p (.head _)) (nk_refs fun q hq => h q (.tail _ hq))
section
variable {X : Cx} {f : Addr} {fd : FuncData} {ps : List Str} {j : Nat} {F : NestedKey → NestedKey} {C : NestedKey → Prop}
def rSortD (P : Program) (w : World) (f : Addr) (F : NestedKey → NestedKey) (C : NestedKey → Prop) : List V → List V → Hp → VK → Prop := fun vs zs H Q => ∃ (d : Addr) (xs : List (NestedKey × Addr)), vs = [.ref d] ∧ zs = [.ref f] ∧ NdAt P w H d xs ∧ (∀ p ∈ xs, C p.1) ∧
  (∀ p ∈ xs, ∃ i r, F p.1 = .tup (.num i :: r)) ∧ (∀ p ∈ xs, ∀ q ∈ xs, ∃ c, ltK (F p.1) (F q.1) = some c) ∧ (∀ p ∈ xs, (F p.1).depth ≤ 50) ∧ xs.length ≤ sizeLine ∧ ∀ H' p, Same H H' → H' p = none → H p = none → Q (.ref p) (upd H' p (.lst (sortD F xs)))
theorem cr_sortD (hcalm : X.calm = true) (G : FnOk X.prog X.w X.K X.mg X.base CX0 j f fd ps (spKey F C)) (hr : Room (j + 1) X.A) (hb : Binds X.K fd ps []) : CallRK X (.builtin "sorted") [Str.ofString "key"] (rSortD X.prog X.w f F C) := by
  intro pins s σ H vs zs us ws Q I r1 r2 h
  obtain ⟨d, xs, rfl, rfl, hn, hC, hh, hc, hd, hz, q⟩ := h
  obtain ⟨u, rfl, ru⟩ := vals1 r1
  obtain ⟨u2, rfl, ru2⟩ := vals1 r2
  cases ru
  cases ru2
  obtain ⟨m, lo⟩ := nd_full I hn
  obtain ⟨o, es, ep, g1, g2, g3, g4, g5, g6⟩ := m
  have hes : es.size = xs.length := by rw [← Array.length_toList, g4, List.length_map]; unfold tri; rw [List.length_map]
  show wpAny _ _ (call (.builtin "sorted") [.ref d] [(Str.ofString "key", .ref f)]) _ _ _
  refine call_function_entry_kw kind_sorted plain_sorted entry_sorted (ksk_s1 _ _) ?_
  unfold Builtin.«sorted»
  refine wpAny_bind (m := checkCount "sorted" 1 1 _) (wpAny_pure ?_)
  refine wpAny_bind (kdu_collect (A := X.A.in1) (kdl_rawD (es := es) (ep := ep) lo) (I.ok.hd hcalm) ⟨o, g1, g2, g3⟩ (by omega) fun h' tk acc hk hacc => ?_)
  have rv : Vals (xs.map fun p => V.ref p.2) acc.toList := vals_refs (by rw [Array.length_toList, hacc.1, hes]) fun i v e => by
    obtain ⟨hi, rfl⟩ := hacc.2 i v (by rw [← Array.getElem?_toList]; exact e)
    have hx : i < xs.length := by omega
    refine ⟨xs[i], List.getElem?_eq_getElem hx, ?_⟩
    have e2 : es[i]? = some es[i] := Array.getElem?_eq_getElem hi
    rw [← Array.getElem?_toList, g4, List.getElem?_map] at e2
    unfold tri at e2
    rw [List.getElem?_map, List.getElem?_eq_getElem hx] at e2
    rw [← Option.some.inj e2]
    rfl
  have la : acc.toList.length ≤ sizeLine := by rw [Array.length_toList, hacc.1]; omega
  have I1 : L2.Inv X pins σ H { s with heap := h', toks := tk } := I.kept hk
  refine wpAny_bind (wpAny_newList ?_ la)
  show wpAny _ _ _ _ _ { s with heap := h'.push (seqObj "list" acc.toList.toArray 0), toks := tk }
  have I2 : L2.Inv X pins σ H { s with heap := h'.push (seqObj "list" acc.toList.toArray 0), toks := tk } := I1.kept (t' := tk) fun b u e => Heap.get?_push_of_some _ e
  have hoL : (h'.push (seqObj "list" acc.toList.toArray 0)).get? h'.objs.size = some (seqObj "list" acc.toList.toArray 0) := Heap.get?_push_size _ rfl
  have fresh : H h'.objs.size = none := I1.hok.fresh (Nat.le_refl _)
  have fp : FpOk X pins H h'.objs.size := I1.fpOk (Nat.le_refl _) fresh
  refine wpAny_bind (wpAny_holding (wpAny_call_entry_kw slot_list_sort ⟨_, hoL, rfl⟩ entry_list_sort ?_ (ksk_l1 _ _)))
  rw [ksk_t1]
  have mem : ∀ {k : NestedKey}, k ∈ xs.map (·.1) → ∃ p, p ∈ xs ∧ p.1 = k := fun h => List.mem_map.mp h
  refine sort_key (X := X) (pins := pins) (σ := σ) (H := H) (s := { s with heap := h'.push (seqObj "list" acc.toList.toArray 0), toks := tk }) G hr hb I2 fp hoL rv (nk_refs fun p hp => (hn.2 p hp).1)
    (fun k hk => by obtain ⟨p, hp, rfl⟩ := mem hk; exact hC p hp) (fun k hk => by obtain ⟨p, hp, rfl⟩ := mem hk; exact hh p hp)
    (fun k hk k' hk' => by obtain ⟨p, hp, rfl⟩ := mem hk; obtain ⟨p2, hp2, rfl⟩ := mem hk'; exact hc p hp p2 hp2) (fun k hk => by obtain ⟨p, hp, rfl⟩ := mem hk; exact hd p hp) la fun H' s' sm nh I3 => ?_
  exact ⟨_, rfl, wpAny_pure ⟨_, rfl, .ref h'.objs.size, _, I3, rfl, q H' _ sm nh fresh⟩⟩
end
end My

set_option Elab.async false
set_option linter.all false
set_option maxRecDepth 100000
set_option maxHeartbeats 2000000
/-! {k: True for .. in ..}, k a tuple of numbers, texts and such tuples. -/
namespace My
open PySem PySem.Spec PyProof.Rows L2 PySem.SeqAt PySem.W
section
variable {X : Cx}
def DcStep (P : Program) (w : World) (J : It) (g : TG) (tt : TT) (tk tv : TE) (vs : List Nat) (σ : L2.St) (D : Addr) (Qd : Hp → Prop) (W : Nat → Nat → Hp → Prop) (i m : Nat) (H : Hp) : Prop :=
  (J.stop i H ∧ Qd H) ∨ (J.go i H ∧ ∃ Nx : Hp → Prop, (∀ H', Nx H' → ∃ m', m' < m ∧ W (i + 1) m' H') ∧ ∀ x H', J.yld i H x H' →
    g x (wipe σ vs) H' fun σ2 H2 => wipe σ2 vs = wipe σ vs ∧ tt σ2 H2 fun b H3 => if b = true then tk σ2 H3 fun y H4 => tv σ2 H4 fun z H5 =>
      ∃ a k xs, y = .ref a ∧ z = .bl true ∧ NdAt P w H5 D xs ∧ Nk H5 (.ref a) k ∧ k.depth ≤ 8 ∧ xs.length < sizeLine ∧ Nx (upd H5 D (ND P w D (putN xs k a))) else Nx H3)
def tDcN (P : Program) (w : World) (wi : TI) (g : TG) (tt : TT) (tk tv : TE) (vs : List Nat) : TE := fun σ H Q => wi σ H fun J H1 => ∀ D, H1 D = none →
  ∃ W : Nat → Nat → Hp → Prop, (∃ m, W 0 m (upd H1 D (.dK []))) ∧ ∀ i m H', W i m H' → DcStep P w J g tt tk tv vs σ D (fun H2 => Q (.ref D) H2) W i m H'
abbrev Blk (X : Cx) (scope : Scope) (s : Shared) (H : Hp) (C : Addr) (cl : List (Str × Addr)) (fp : List Addr) : Cx := X.blk s H scope (compEnvC scope cl C X.env) fp
theorem dcN_core {pins : List (Addr × Obj)} {s : Shared} {σ : L2.St} {H : Hp} {Q : VK} {kx vx tg iter : Expr} {ifs : List Expr} {scope : Scope} {own : List (Str × Nat)} {pos pos' : Pos} {wi : TI} {g : TG} {tt : TT} {tk tv : TE} {use : Option (Value → Sem Unit)} {Qf : Value → Shared → Prop}
    (hu : X.A.units + 64 < cLine) (calm : X.calm = true) (nd : X.N.Nodup) (I : L2.Inv X pins σ H s) (hi : PI X tg iter wi) (ok : BlkOk X.N X.env.scope scope own)
    (hg : ∀ s H C cl fp, PG (Blk X scope s H C cl fp) tg g) (ht : ∀ s H C cl fp, PTs (Blk X scope s H C cl fp) ifs tt) (hk : ∀ s H C cl fp, PE (Blk X scope s H C cl fp) kx tk) (hv : ∀ s H C cl fp, PE (Blk X scope s H C cl fp) vx tv)
    (fold : ∀ x, foldedSetIterable iter X.env x = pure x) (h : tDcN X.prog X.w wi g tt tk tv (own.map (·.2)) σ H Q)
    (back : ∀ D C s' m H', L2.Inv X pins σ H' s' → Q (.ref D) H' → s'.heap.Ns C m → FpOk X pins H' C → compPost (model X.prog X.w) X.A X.xe use Qf (.ref D) C (.ok .next) s') :
    wpAny (model X.prog X.w) X.A (comprehension (.DictComp kx vx [⟨tg, iter, ifs, 0⟩] scope pos) scope X.env pos' newDict false (eval iter X.env) use) Qf X.xe s := by
  have free : ∀ y ∈ scope.names, y.2 = .free → ∃ c, X.env.cells.lookup y.1 = some c := by
    intro y hy e
    exact (ok.free y hy e).elim (fun k => I.ok.has _ (.inl k)) fun k => I.ok.has _ (.inr k)
  refine wpAny_comprehension_free (use := use) rfl fold (closure_ok free) ok.kind (fun y hy e => by rw [ok.uniq y hy, e]) (thn (hi.run pins s σ H _ I h) fun xv s1 hx => thn hx ?_)
  rintro itv s2 ⟨it, fp, tn, J, H2, rfl, I2, T, st2, f2, q⟩
  refine wpAny_newObj_type (newEnv_comp ?_)
  obtain ⟨D, hD⟩ : ∃ D, D = s2.heap.objs.size := ⟨_, rfl⟩
  rw [← hD]
  have fresh : H2 D = none := I2.hok.fresh (Nat.le_of_eq hD.symm)
  obtain ⟨W, ⟨m0, w0⟩, turn⟩ := q D fresh
  obtain ⟨s3, hs3⟩ : ∃ s3 : Shared, s3 = { s2 with heap := s2.heap.push { cls := .type "dict", data := .dict #[] } } := ⟨_, rfl⟩
  have I3 : L2.Inv X pins σ (upd H2 D (.dK [])) s3 := by
    rw [hs3]
    refine I2.laid (t' := s2.toks) (fun b o e => Heap.get?_push_of_some _ e) (Nat.le_of_eq hD.symm) ?_
    rw [hD]
    exact dk_empty s2.heap I2.big
  have h3 : s3.heap = s2.heap.push { cls := .type "dict", data := .dict #[] } := by rw [hs3]
  have old : ∀ b ∈ fp, b < s2.heap.objs.size := fun b hb => let ⟨o, e, _⟩ := T.obj _ _ st2 b hb; Heap.lt_size e
  have f3 : ∀ b ∈ fp, FpOk X pins (upd H2 D (.dK [])) b ∧ b < s3.heap.objs.size := by
    intro b hb
    have lt := old b hb
    refine ⟨⟨?_, (f2 b hb).2⟩, by rw [h3, Heap.size_push]; exact Nat.lt_succ_of_lt lt⟩
    rw [upd_ne (by rw [hD]; exact Nat.ne_of_lt lt)]
    exact (f2 b hb).1
  have st3 : tn 0 s3.heap := T.keep _ _ _ st2 fun b _ o e => by rw [h3]; exact Heap.get?_push_of_some _ e
  have I4 := block_start I3 ok nd f3
  obtain ⟨cl, hcl⟩ : ∃ cl, cl = cellsFrom (s3.heap.objs.size + 1) scope.names (cloFrom X.env.cells scope.names []) := ⟨_, rfl⟩
  obtain ⟨C, hC⟩ : ∃ C, C = s3.heap.objs.size := ⟨_, rfl⟩
  obtain ⟨H3, hH3⟩ : ∃ H3, H3 = upd H2 D (.dK []) := ⟨_, rfl⟩
  rw [← hcl, ← hC, ← hH3] at I4
  rw [← hH3] at I3 f3 w0
  obtain ⟨s4, hs4⟩ : ∃ s4 : Shared, s4 = { s3 with heap := pushCells (s3.heap.push { cls := .type "dict", data := .dict #[] }) scope.names } := ⟨_, rfl⟩
  rw [← hs4] at I4
  rw [← hs3]
  show codeAny _ _ (.compStart (.DictComp kx vx [⟨tg, iter, ifs, 0⟩] scope pos) 0 (.ref it) (.ref D) (compEnvC scope (cellsFrom (s3.heap.objs.size + 1) scope.names (cloFrom X.env.cells scope.names [])) s3.heap.objs.size X.env)) (compPost (model X.prog X.w) X.A X.xe use Qf (.ref D) s3.heap.objs.size) { s3 with heap := pushCells (s3.heap.push { cls := .type "dict", data := .dict #[] }) scope.names }
  rw [← hcl, ← hC, ← hs4]
  have pg := hg s3 H3 C cl fp
  have pt := ht s3 H3 C cl fp
  have pk := hk s3 H3 C cl fp
  have pv := hv s3 H3 C cl fp
  have cL : (compEnvC scope cl C X.env).locals = C := rfl
  have nfp : ∀ b ∈ fp, H3 b = none := fun b hb => (f3 b hb).1.1
  have st4 : tn 0 s4.heap := T.keep _ _ _ st3 fun b _ o e => by rw [hs4]; exact pushCells_keeps _ _ _ _ (Heap.get?_push_of_some _ e)
  have stat : ∀ {σ' : L2.St} {H' : Hp} {s' : Shared}, L2.Inv (Blk X scope s3 H3 C cl fp) [] σ' H' s' → (∀ b ∈ fp, H' b = none) → ∀ b ∈ fp, FpOk (Blk X scope s3 H3 C cl fp) [] H' b := by
    intro σ' H' s' I' hn b hb
    exact ⟨hn b hb, (I'.ok.exf b hb).1, I'.ok.exfs b hb, .inl hb, fun x c e => (I'.ok.exf b hb).2 x c e, fun p hp => absurd (show p ∈ ([] : List (Addr × Obj)) ++ [] from hp) (by simp)⟩
  have loop : codeAny (model X.prog X.w) X.A (.compLoop (.DictComp kx vx [⟨tg, iter, ifs, 0⟩] scope pos) 0 (.ref it) (.ref D) (compEnvC scope cl C X.env)) (compPost (model X.prog X.w) X.A X.xe use Qf (.ref D) C) s4 := by
    refine compLoop_anyD (fun n s' => ∃ i H', L2.Inv (Blk X scope s3 H3 C cl fp) [] (wipe σ (own.map (·.2))) H' s' ∧ tn i s'.heap ∧ (∀ b ∈ fp, H' b = none) ∧ W i n H') ?_ m0 ⟨0, H3, I4, st4, nfp, w0⟩
    rintro n s5 ⟨i, H5, I5, st5, n5, w5⟩
    rcases turn i n H5 w5 with ⟨stop, qq⟩ | ⟨go, Nx, hNx, step⟩
    · refine thnF (T.done (Blk X scope s3 H3 C cl fp) rfl rfl rfl calm i [] s5 _ H5 (fun _ _ => False) I5 (stat I5 n5) st5 stop) ?_
      rintro r s6 ⟨rfl, I6⟩
      have I7 : L2.Inv X pins σ H5 s6 := I3.call' (ch := fp) I6.os I6.base I6.hok I6.bare fun b hb => ⟨(f3 b hb).1.2.2.2.1, (f3 b hb).1.2.1, (f3 b hb).1.2.2.2.2.1, (f3 b hb).1.2.2.2.2.2⟩
      have nC : H5 C = none := I6.free
      obtain ⟨m, hn, _⟩ := I6.loc
      exact back D C s6 m H5 I7 qq hn (I3.fpOk (Nat.le_of_eq hC.symm) nC)
    · refine thnF (T.item (Blk X scope s3 H3 C cl fp) rfl rfl rfl calm i [] s5 _ H5 (fun _ _ => False) I5 (stat I5 n5) st5 go) ?_
      rintro r s6 ⟨u, rfl, h6⟩
      refine thnF h6 ?_
      rintro _ s7 ⟨x, H7, I7, r7, y7, st7, n7⟩
      refine thnF (pg.run _ s7 _ H7 x u _ (I7.pinned (stat I7 n7) (T.obj _ _ st7)) r7 (step x H7 y7)) ?_
      rintro _ s8 ⟨σ8, H8, I8, hw8, q8⟩
      refine thnF (pt.run _ s8 σ8 H8 _ I8 q8) ?_
      rintro b s9 ⟨H9, I9, q9⟩
      have fin : ∀ {s' : Shared} {H' : Hp}, L2.Inv (Blk X scope s3 H3 C cl fp) ([] ++ pinsAt fp s7.heap) σ8 H' s' → Nx H' → ∃ m, m < n ∧ ∃ i H', L2.Inv (Blk X scope s3 H3 C cl fp) [] (wipe σ (own.map (·.2))) H' s' ∧ tn i s'.heap ∧ (∀ b ∈ fp, H' b = none) ∧ W i m H' := by
        intro s' H' I' nx
        obtain ⟨m', lt, w'⟩ := hNx H' nx
        have pin : ∀ b ∈ fp, ∀ o, s7.heap.get? b = some o → s'.heap.get? b = some o ∧ H' b = none := by
          intro b hb o e
          have z := I'.pin (b, o) (List.mem_append_right _ (List.mem_append_right _ (mem_pinsAt hb e)))
          exact ⟨z.1, z.2.1⟩
        refine ⟨m', lt, i + 1, H', (I'.unpinned (pins := [])).weak (by rw [← hw8, wipe_length]) (fun j v e => ?_), T.keep _ _ _ st7 fun b hb o e => (pin b hb o e).1, fun b hb => ?_, w'⟩
        · rw [← hw8] at e
          exact (wipe_some e).1
        · obtain ⟨o, e, _⟩ := T.obj _ _ st7 b hb
          exact (pin b hb o e).2
      cases b with
      | false =>
        simp only [Bool.false_eq_true, if_false] at q9 ⊢
        exact fin I9 q9
      | true =>
        simp only [if_true] at q9 ⊢
        refine thnF (pk.run _ s9 σ8 H9 _ I9 q9) ?_
        rintro z s10 ⟨yk, H10, I10, r10, q10⟩
        refine thnF (pv.run _ s10 σ8 H10 _ I10 q10) ?_
        rintro z2 s11 ⟨yv, H11, I11, r11, a, k, xs, rfl, rfl, hn, nk, dk, lz, nx⟩
        cases r10
        cases r11
        exact nd_dictSet (X := Blk X scope s3 H3 C cl fp) (by show X.A.units + 8 < cLine; omega) I11 hn nk dk lz fun s12 I12 => fin I12 nx
  exact codeAny_compStart_dict loop (T.self X.A 0 _ _ _ st4 loop)
end
end My

set_option Elab.async false
set_option linter.all false
set_option maxRecDepth 100000
set_option maxHeartbeats 2000000
namespace My
open PySem PySem.Spec PyProof.Rows L2 PySem.SeqAt PySem.W
section
variable {X : Cx} {kx vx tg iter : Expr} {ifs : List Expr} {scope : Scope} {own : List (Str × Nat)} {pos spos py : Pos} {wi : TI} {g : TG} {tt : TT} {tk tv : TE} {i : Nat} {y : Str}
theorem sw_dict {gs : List Comprehension} {l : Nat} {env : Env} (hk : env.scope.kind = .function) (hy : env.scope.names.lookup y = some .local) (hl : (py.line == pos.line) = true) (ha : (scope.names.any fun (n, k) => n == y && (k == .local || k == .cell)) = false) :
    swapsWith (.DictComp kx vx gs scope pos) (some (.Name y py)) l env = pure true := by
  have k1 : env.kindOf y = some .local := hy
  have k2 : env.blockKind = .function := by
    unfold Env.blockKind
    rw [hk]
    rfl
  unfold swapsWith
  simp only [k2, k1, ha, Expr.pos, hl]
  rfl
/-- as a value -/
theorem pe_dcN (hu : X.A.units + 64 < cLine) (calm : X.calm = true) (nd : X.N.Nodup) (hi : PI X tg iter wi) (ok : BlkOk X.N X.env.scope scope own)
    (hg : ∀ s H C cl fp, PG (Blk X scope s H C cl fp) tg g) (ht : ∀ s H C cl fp, PTs (Blk X scope s H C cl fp) ifs tt) (hk : ∀ s H C cl fp, PE (Blk X scope s H C cl fp) kx tk) (hv : ∀ s H C cl fp, PE (Blk X scope s H C cl fp) vx tv)
    (fold : ∀ x, foldedSetIterable iter X.env x = pure x := by intro _; rfl) : PE X (.DictComp kx vx [⟨tg, iter, ifs, 0⟩] scope pos) (tDcN X.prog X.w wi g tt tk tv (own.map (·.2))) := by
  constructor
  intro pins s σ H Q I h
  rw [arm_eval_DictComp]
  refine dcN_core hu calm nd I hi ok hg ht hk hv fold h ?_
  rintro D C s' m H' I' q hn ⟨f0, f1, f2, f3, f4, f5⟩
  exact ⟨m, hn, fun h2 sb => ⟨.ref D, H', I'.turned (t' := s'.toks) (fun b o hb e => (sb.2 b hb).trans e) f0 f1 f3 f4 f5, rfl, q⟩⟩
/-- name = {..} on one line, the name a local -/
theorem ps_setDcN (hu : X.A.units + 64 < cLine) (calm : X.calm = true) (nd : X.N.Nodup) (hy : X.N[i]? = some y) (hyl : X.env.scope.names.lookup y = some .local) (hsw : swapsWith (.DictComp kx vx [⟨tg, iter, ifs, 0⟩] scope pos) (some (.Name y py)) spos.line X.env = pure true)
    (hi : PI X tg iter wi) (ok : BlkOk X.N X.env.scope scope own)
    (hg : ∀ s H C cl fp, PG (Blk X scope s H C cl fp) tg g) (ht : ∀ s H C cl fp, PTs (Blk X scope s H C cl fp) ifs tt) (hk : ∀ s H C cl fp, PE (Blk X scope s H C cl fp) kx tk) (hv : ∀ s H C cl fp, PE (Blk X scope s H C cl fp) vx tv)
    (fold : ∀ x, foldedSetIterable iter X.env x = pure x := by intro _; rfl) : PS X (.Assign [.Name y py] (.DictComp kx vx [⟨tg, iter, ifs, 0⟩] scope pos) spos) (tAsg (tDcN X.prog X.w wi g tt tk tv (own.map (·.2))) (gName i)) := by
  constructor
  intro pins s σ H D I h
  rw [exec_Assign_Name_used _ _ _ _ hsw]
  refine wpAny_bind (wpAny_standAt (wpAny_bind ?_))
  show wpAny _ X.A (do let _ ← comprehension (.DictComp kx vx [⟨tg, iter, ifs, 0⟩] scope pos) scope X.env (firstIterPos [⟨tg, iter, ifs, 0⟩] pos) newDict false (eval iter X.env) (some (assign (.Name y py) X.env))) _ _ s
  have h2 : tDcN X.prog X.w wi g tt tk tv (own.map (·.2)) σ H (fun x H1 => gName i x σ H1 D.nx) := h
  refine wpAny_bind (thn (dcN_core (Qf := fun _ s' => SP X pins D .next s') hu calm nd I hi ok hg ht hk hv fold h2 ?_) fun _ s' hq => wpAny_pure (wpAny_pure hq))
  rintro L C s' m H' I' q hn ⟨f0, f1, f2, f3, f4, f5⟩
  show wpAny _ _ (assign (.Name y py) X.env (.ref L)) _ _ _
  refine wpAny_assign_Name (store_ok2 (v := V.ref L) I' nd hy (.inl hyl) rfl ?_ (.inr hyl))
  rintro s2 I2 ⟨a, sb, ha⟩
  have ne : C ≠ a := ha.elim (fun z => by rw [z]; exact f1) fun z e => f4 y a z e.symm
  exact ⟨m, hn.sameBut sb ne, fun h3 sb3 => ⟨_, H', I2.turned (t' := s2.toks) (fun b o hb e => (sb3.2 b hb).trans e) f0 f1 f3 f4 f5, q⟩⟩
end
/-- a walk's turns -/
theorem dcN_it {P : Program} {w : World} {J : It} {n : Nat} {G : Hp → Prop} {Y : Nat → Hp → V → Hp → Prop} (wk : Walk J n G Y) {g : TG} {tt : TT} {tk tv : TE} {vs : List Nat} {σ : L2.St} {H1 : Hp} {D : Addr} {Qd : Hp → Prop} (Pv : Nat → Hp → Prop) (h0 : Pv 0 (upd H1 D (.dK []))) (hG : ∀ i H, i ≤ n → Pv i H → G H)
    (hs : ∀ i x H H', i < n → Pv i H → Y i H x H' → g x (wipe σ vs) H' fun σ2 H2 => wipe σ2 vs = wipe σ vs ∧ tt σ2 H2 fun b H3 => if b = true then tk σ2 H3 fun y H4 => tv σ2 H4 fun z H5 =>
      ∃ a k xs, y = .ref a ∧ z = .bl true ∧ NdAt P w H5 D xs ∧ Nk H5 (.ref a) k ∧ k.depth ≤ 8 ∧ xs.length < sizeLine ∧ Pv (i + 1) (upd H5 D (ND P w D (putN xs k a))) else Pv (i + 1) H3)
    (hd : ∀ H, Pv n H → Qd H) : ∃ W : Nat → Nat → Hp → Prop, (∃ m, W 0 m (upd H1 D (.dK []))) ∧ ∀ i m H', W i m H' → DcStep P w J g tt tk tv vs σ D Qd W i m H' := by
  refine ⟨fun i m H => m = n - i ∧ i ≤ n ∧ Pv i H, ⟨n, by simp, Nat.zero_le _, h0⟩, ?_⟩
  rintro i m H ⟨rfl, hi, p⟩
  have q := hG i H hi p
  by_cases lt : i < n
  · exact .inr ⟨wk.goes i H lt q, Pv (i + 1), fun H' p' => ⟨n - (i + 1), by omega, rfl, lt, p'⟩, fun x H' y => hs i x H H' lt p (wk.yields i H x H' lt q y)⟩
  · obtain rfl : i = n := by omega
    exact .inl ⟨wk.stops H q, hd H p⟩
end My

set_option Elab.async false
set_option linter.all false
set_option maxRecDepth 100000
set_option maxHeartbeats 2000000
/-! Pages as data: their places, how these stand, lists that are put in order. -/
namespace My
open PySem PySem.Spec PyProof.Rows L2 PySem.SeqAt PySem.W
def HomeW (ws : List Int) : Prop := ws.length ≤ 7 ∧ ∀ w ∈ ws, 0 ≤ w ∧ w < 7
/-- what stands behind a page's day -/
inductive Rest : Str → List NestedKey → Prop
  | house {a : Str} {ws : List Int} : Plain a → HomeW ws → Rest "house" [.text a, .tup (ws.map .num)]
  | home {a : Str} {ws : List Int} : Plain a → HomeW ws → Rest "home" [.text a, .tup (ws.map .num)]
  | part {a b : Str} {ws : List Int} : Plain a → Plain b → HomeW ws → Rest "part" [.text a, .text b, .tup (ws.map .num)]
  | mourn {a : Str} {m : Int} : Plain a → 0 ≤ m → m ≤ 60 → Rest "mourn" [.text a, .num m]
  | join {a b : Str} : Plain a → Plain b → Rest "join" [.text a, .text b]
  | ahead {a b : Str} : Plain a → Plain b → Rest "ahead" [.text a, .text b]
  | card {a b : Str} : Plain a → Plain b → Rest "card" [.text a, .text b]
  | visit {a b : Str} : Plain a → Plain b → Rest "visit" [.text a, .text b]
def PgK (k : NestedKey) : Prop := ∃ z d r, k = .tup (.text z :: .num d :: r) ∧ Rest z r ∧ 0 ≤ d ∧ d < 20000
def ixK (z : Str) : Nat := kinds.idxOf z
def place : NestedKey → NestedKey
  | .tup (.text z :: .num d :: r) => .tup [.num d, .num (ixK z), .tup (.text z :: .num d :: r)]
  | k => k
theorem place_eq (z : Str) (d : Int) (r : List NestedKey) : place (.tup (.text z :: .num d :: r)) = .tup [.num d, .num (ixK z), .tup (.text z :: .num d :: r)] := rfl
theorem lt_nums : ∀ ws vs : List Int, ∃ c, ltAll (ws.map .num) (vs.map .num) = some c
  | [], [] => ⟨_, by rw [List.map_nil, ltAll]⟩
  | [], _ :: _ => ⟨true, by rw [List.map_nil, List.map_cons, ltAll]⟩
  | _ :: _, [] => ⟨false, by rw [List.map_nil, List.map_cons, ltAll]⟩
  | a :: ws, b :: vs => by
    rw [List.map_cons, List.map_cons, ltAll]
    split
    · exact lt_nums ws vs
    · exact ⟨_, by rw [ltK]⟩
theorem lt_step {x y : NestedKey} {xs ys : List NestedKey} (h1 : ∃ c, ltK x y = some c) (h2 : ∃ c, ltAll xs ys = some c) : ∃ c, ltAll (x :: xs) (y :: ys) = some c := by
  rw [ltAll]
  split
  · exact h2
  · exact h1
theorem lt_text (a b : Str) : ∃ c, ltK (.text a) (.text b) = some c := ⟨_, by rw [ltK]⟩
theorem lt_num (a b : Int) : ∃ c, ltK (.num a) (.num b) = some c := ⟨_, by rw [ltK]⟩
theorem lt_nil : ∃ c, ltAll [] [] = some c := ⟨_, by rw [ltAll]⟩
theorem lt_home (ws vs : List Int) : ∃ c, ltK (.tup (ws.map .num)) (.tup (vs.map .num)) = some c := by
  rw [ltK]
  exact lt_nums ws vs
theorem rest_lt {z : Str} {r r' : List NestedKey} (h : Rest z r) (h' : Rest z r') : ∃ c, ltAll r r' = some c := by
  have ne : ∀ {a b : String}, (Str.ofString a == Str.ofString b) = false → Str.ofString a = Str.ofString b → False := fun {a b} e z => by rw [z] at e; simp at e
  generalize hz : z = z' at h'
  cases h <;> cases h' <;> first
    | exact lt_step (lt_text _ _) (lt_step (lt_home _ _) lt_nil)
    | exact lt_step (lt_text _ _) (lt_step (lt_text _ _) (lt_step (lt_home _ _) lt_nil))
    | exact lt_step (lt_text _ _) (lt_step (lt_num _ _) lt_nil)
    | exact lt_step (lt_text _ _) (lt_step (lt_text _ _) lt_nil)
    | exact (ne (by decide +kernel) hz).elim
theorem ixK_inj {z z' : Str} {r r' : List NestedKey} (h : Rest z r) (h' : Rest z' r') (e : ixK z = ixK z') : z = z' := by
  cases h <;> cases h' <;> first | rfl | exact absurd e (by decide +kernel)
/-- each two pages' places can be compared -/
theorem place_lt {k k' : NestedKey} (h : PgK k) (h' : PgK k') : ∃ c, ltK (place k) (place k') = some c := by
  obtain ⟨z, d, r, rfl, hr, _⟩ := h
  obtain ⟨z', d', r', rfl, hr', _⟩ := h'
  rw [place_eq, place_eq, ltK]
  by_cases e : ixK z = ixK z'
  · have ez := ixK_inj hr hr' e
    subst ez
    exact lt_step (lt_num _ _) (lt_step (lt_num _ _) (lt_step (by rw [ltK]; exact lt_step (lt_text _ _) (lt_step (lt_num _ _) (rest_lt hr hr'))) lt_nil))
  · rw [ltAll]
    split
    · rw [ltAll, if_neg (fun q => e (by injection q with q; exact Int.ofNat.inj q))]
      exact lt_num _ _
    · exact lt_num _ _
theorem place_depth {k : NestedKey} (h : PgK k) : (place k).depth ≤ 50 ∧ k.depth ≤ 8 := by
  obtain ⟨z, d, r, rfl, hr, _⟩ := h
  have hn : ∀ ws : List Int, NestedKey.depthAll (ws.map .num) = 0 := fun ws => by
    induction ws with
    | nil => rw [List.map_nil, NestedKey.depthAll]
    | cons a l ih => rw [List.map_cons, NestedKey.depthAll, ih, NestedKey.depth]; rfl
  have hd : NestedKey.depthAll r ≤ 2 := by
    cases hr <;> simp only [NestedKey.depthAll, NestedKey.depth, hn] <;> decide
  rw [place_eq]
  simp only [NestedKey.depthAll, NestedKey.depth]
  omega
theorem place_head {k : NestedKey} (h : PgK k) : ∃ i r, place k = .tup (.num i :: r) := by
  obtain ⟨z, d, r, rfl, _⟩ := h
  exact ⟨_, _, rfl⟩
theorem place_inj {k k' : NestedKey} (h : PgK k) (h' : PgK k') (e : place k = place k') : k = k' := by
  obtain ⟨z, d, r, rfl, _⟩ := h
  obtain ⟨z', d', r', rfl, _⟩ := h'
  rw [place_eq, place_eq] at e
  injection e with e
  simp only [List.cons.injEq] at e
  exact e.2.2.1
end My

set_option Elab.async false
set_option linter.all false
set_option maxRecDepth 100000
set_option maxHeartbeats 2000000
namespace My
open PySem PySem.Spec PyProof.Rows L2 PySem.SeqAt PySem.W
theorem text_total {x y : Str} (h1 : ¬ x.cps.toList < y.cps.toList) (h2 : ¬ y.cps.toList < x.cps.toList) : x = y :=
  str_of_cps (strKind.total _ _ (decide_eq_false h1) (decide_eq_false h2))
theorem text_asym {x y : Str} (h1 : x.cps.toList < y.cps.toList) (h2 : y.cps.toList < x.cps.toList) : False := by
  have := strKind.trans _ _ _ (decide_eq_true h1) (decide_eq_true h2)
  rw [strKind.irrefl] at this
  cases this
mutual
theorem flipK : ∀ (x y : NestedKey) (c : Bool), x ≠ y → ltK x y = some c → ltK y x = some (!c)
  | .num i, .num j, c, ne, e => by
    rw [ltK] at e ⊢
    cases e
    have : i ≠ j := fun z => ne (by rw [z])
    by_cases h : i < j
    · rw [decide_eq_true h, decide_eq_false (by omega)]; rfl
    · rw [decide_eq_false h, decide_eq_true (by omega)]; rfl
  | .text x, .text y, c, ne, e => by
    rw [ltK] at e ⊢
    cases e
    by_cases h : x.cps.toList < y.cps.toList
    · rw [decide_eq_true h, decide_eq_false (fun h2 => text_asym h h2)]; rfl
    · rw [decide_eq_false h, decide_eq_true (Classical.byContradiction fun h2 => ne (by rw [text_total h h2]))]; rfl
  | .tup xs, .tup ys, c, ne, e => by
    rw [ltK] at e ⊢
    exact flipAll xs ys c (fun z => ne (by rw [z])) e
  | .none, y, c, ne, e => by cases y <;> simp [ltK] at e
  | .num i, .none, c, ne, e => by simp [ltK] at e
  | .num i, .text _, c, ne, e => by simp [ltK] at e
  | .num i, .tup _, c, ne, e => by simp [ltK] at e
  | .text i, .none, c, ne, e => by simp [ltK] at e
  | .text i, .num _, c, ne, e => by simp [ltK] at e
  | .text i, .tup _, c, ne, e => by simp [ltK] at e
  | .tup i, .none, c, ne, e => by simp [ltK] at e
  | .tup i, .num _, c, ne, e => by simp [ltK] at e
  | .tup i, .text _, c, ne, e => by simp [ltK] at e
theorem flipAll : ∀ (xs ys : List NestedKey) (c : Bool), xs ≠ ys → ltAll xs ys = some c → ltAll ys xs = some (!c)
  | [], [], c, ne, e => absurd rfl ne
  | [], y :: ys, c, ne, e => by
    rw [ltAll] at e
    cases e
    rw [ltAll]
    rfl
  | x :: xs, [], c, ne, e => by
    rw [ltAll] at e
    cases e
    rw [ltAll]
    rfl
  | x :: xs, y :: ys, c, ne, e => by
    rw [ltAll] at e ⊢
    by_cases h : x = y
    · subst h
      rw [if_pos rfl] at e ⊢
      exact flipAll xs ys c (fun z => ne (by rw [z])) e
    · rw [if_neg h] at e
      rw [if_neg (fun z => h z.symm)]
      exact flipK x y c h e
end
/-- the first page stands ahead of the other one -/
def ahead (k k' : NestedKey) : Bool := lexT (toks (place k)) (toks (place k'))
theorem ahead_lt {k k' : NestedKey} (h : PgK k) (h' : PgK k') : ltK (place k) (place k') = some (ahead k k') := by
  obtain ⟨c, e⟩ := place_lt h h'
  obtain ⟨i, r, e1⟩ := place_head h
  obtain ⟨i', r', e2⟩ := place_head h'
  have e3 := e
  rw [e1, e2, ltK] at e3
  have := lex_tup e3
  rw [← e1, ← e2] at this
  rw [e]
  exact congrArg some this.symm
theorem ahead_self (k : NestedKey) : ahead k k = false := lex_irrefl _
theorem ahead_trans {a b c : NestedKey} (h1 : ahead a b = true) (h2 : ahead b c = true) : ahead a c = true := lex_trans _ _ _ h1 h2
theorem ahead_flip {k k' : NestedKey} (h : PgK k) (h' : PgK k') (ne : k ≠ k') : ahead k' k = !ahead k k' := by
  have h1 := ahead_lt h h'
  have h2 := ahead_lt h' h
  rw [flipK _ _ _ (fun z => ne (place_inj h h' z)) h1] at h2
  exact (Option.some.inj h2).symm
/-- strictly rising by places -/
abbrev Ord (l : List NestedKey) : Prop := l.Pairwise fun a b => ahead a b = true
theorem ord_unique : ∀ {l m : List NestedKey}, Ord l → Ord m → (∀ k, k ∈ l ↔ k ∈ m) → l = m
  | [], [], _, _, _ => rfl
  | [], b :: _, _, _, h => absurd ((h b).mpr (.head _)) (by simp)
  | a :: _, [], _, _, h => absurd ((h a).mp (.head _)) (by simp)
  | a :: l, b :: m, hl, hm, h => by
    have ea : a = b := by
      rcases List.mem_cons.mp ((h a).mp (.head _)) with e | e
      · exact e
      · rcases List.mem_cons.mp ((h b).mpr (.head _)) with e2 | e2
        · exact e2.symm
        · have h1 := (List.pairwise_cons.mp hm).1 a e
          have h2 := (List.pairwise_cons.mp hl).1 b e2
          have := ahead_trans h1 h2
          rw [ahead_self] at this
          cases this
    subst ea
    have na : ∀ {n : List NestedKey}, Ord (a :: n) → a ∉ n := fun hn z => by
      have := (List.pairwise_cons.mp hn).1 a z
      rw [ahead_self] at this
      cases this
    rw [ord_unique (List.pairwise_cons.mp hl).2 (List.pairwise_cons.mp hm).2 fun k => ⟨fun hk => ?_, fun hk => ?_⟩]
    · rcases List.mem_cons.mp ((h k).mp (.tail _ hk)) with e | e
      · subst e; exact absurd hk (na hl)
      · exact e
    · rcases List.mem_cons.mp ((h k).mpr (.tail _ hk)) with e | e
      · subst e; exact absurd hk (na hm)
      · exact e
end My

set_option Elab.async false
set_option linter.all false
set_option maxRecDepth 100000
set_option maxHeartbeats 2000000
namespace My
open PySem PySem.Spec PyProof.Rows L2 PySem.SeqAt PySem.W
theorem zip_two (xs : List (NestedKey × Addr)) : (xs.map fun p => V.ref p.2).zip (xs.map (·.1)) = xs.map fun p => (V.ref p.2, p.1) := by
  induction xs with
  | nil => rfl
  | cons p xs ih => rw [List.map_cons, List.map_cons, List.map_cons, List.zip_cons_cons, ih]
theorem nk_pairs {H : Hp} : ∀ {l : List (V × NestedKey)}, (∀ b ∈ l, Nk H b.1 b.2) → NkAll H (l.map Prod.fst) (l.map Prod.snd)
  | [], _ => .nil
  | b :: l, h => .cons (h b (.head _)) (nk_pairs fun c hc => h c (.tail _ hc))
/-- the keys of such a dict, sorted by places -/
theorem sortD_ok {H : Hp} {F : NestedKey → NestedKey} {xs : List (NestedKey × Addr)} (hF : ∀ p ∈ xs, ∀ q ∈ xs, lexT (toks (F p.1)) (toks (F q.1)) = ahead p.1 q.1) (hk : ∀ p ∈ xs, Nk H (.ref p.2) p.1) (hp : ∀ p ∈ xs, PgK p.1) (nd : (xs.map (·.1)).Nodup) :
    ∃ ks, NkAll H (sortD F xs) ks ∧ Ord ks ∧ ∀ k, k ∈ ks ↔ k ∈ xs.map (·.1) := by
  have pm := List.mergeSort_perm ((xs.map fun p => V.ref p.2).zip (xs.map (·.1))) (leF F)
  have pw := sort_pairwise (sortLe_total (listOrd itemOrd) false fun b : V × NestedKey => toks (F b.2)) ((xs.map fun p => V.ref p.2).zip (xs.map (·.1)))
  unfold sortD
  change List.Pairwise (fun a b => leF F a b = true) (((xs.map fun p => V.ref p.2).zip (xs.map (·.1))).mergeSort (leF F)) at pw
  generalize ((xs.map fun p => V.ref p.2).zip (xs.map (·.1))).mergeSort (leF F) = l at pm pw ⊢
  rw [zip_two] at pm
  have mem : ∀ b ∈ l, ∃ p ∈ xs, b = (V.ref p.2, p.1) := fun b hb => by
    obtain ⟨p, hp, e⟩ := List.mem_map.mp (pm.mem_iff.mp hb)
    exact ⟨p, hp, e.symm⟩
  have pk : (l.map Prod.snd).Perm (xs.map (·.1)) := by
    have := pm.map Prod.snd
    rwa [List.map_map] at this
  refine ⟨l.map Prod.snd, nk_pairs fun b hb => ?_, ?_, fun k => pk.mem_iff⟩
  · obtain ⟨p, hp, rfl⟩ := mem b hb
    exact hk p hp
  · have nl : (l.map Prod.snd).Nodup := pk.nodup_iff.mpr nd
    have nl2 : l.Pairwise fun a b => a.2 ≠ b.2 := List.pairwise_map.mp nl
    refine List.pairwise_map.mpr ((pw.and nl2).imp_of_mem fun {a b} ha hb h => ?_)
    obtain ⟨p, hp1, rfl⟩ := mem a ha
    obtain ⟨q, hq1, rfl⟩ := mem b hb
    have h1 : (!lexT (toks (F q.1)) (toks (F p.1))) = true := h.1
    rw [hF q hq1 p hp1] at h1
    have := ahead_flip (hp p hp1) (hp q hq1) h.2
    rw [this] at h1
    simpa using h1
theorem putN_keys (xs : List (NestedKey × Addr)) (k : NestedKey) (a : Addr) : (∀ x, x ∈ (putN xs k a).map (·.1) ↔ x = k ∨ x ∈ xs.map (·.1)) ∧ ((xs.map (·.1)).Nodup → ((putN xs k a).map (·.1)).Nodup) ∧ (putN xs k a).length ≤ xs.length + 1 := by
  unfold putN
  split
  · rename_i h
    exact ⟨fun x => ⟨.inr, fun e => e.elim (fun z => by rw [z]; exact h) id⟩, id, Nat.le_succ _⟩
  · rename_i h
    refine ⟨fun x => ?_, fun nd => ?_, by rw [List.length_append]; exact Nat.le_refl _⟩
    · rw [List.map_append, List.mem_append]
      constructor
      · rintro (e | e)
        · exact .inr e
        · exact .inl (by simpa using e)
      · rintro (e | e)
        · exact .inr (by simpa using e)
        · exact .inl e
    · rw [List.map_append, List.nodup_append]
      refine ⟨nd, by simp, fun x hx y hy => ?_⟩
      obtain rfl : y = k := by simpa using hy
      exact fun z => h (by rw [← z]; exact hx)
theorem putN_mem {xs : List (NestedKey × Addr)} {k : NestedKey} {a : Addr} {p : NestedKey × Addr} (h : p ∈ putN xs k a) : p ∈ xs ∨ p = (k, a) := by
  unfold putN at h
  split at h
  · exact .inl h
  · rcases List.mem_append.mp h with h | h
    · exact .inl h
    · exact .inr (List.mem_singleton.mp h)
end My

set_option Elab.async false
set_option linter.all false
set_option maxRecDepth 100000
set_option maxHeartbeats 2000000
/-! The end of a law whose promise wants that no repr is under way, with tables of codes. -/
namespace GU
open PySem PySem.Spec PyProof.Rows L2
/-- what is tracked at the head: the script's list (where it is not the text's own) and the tables -/
def headH (own : Bool) (a : Addr) (T : List Addr) (o : Obj) (xs : List V) : Hp := fun b =>
  if b ∈ T then some (.tbl #[]) else if b = a ∧ own = false then some (.frz o (.lst xs)) else none
section
variable {own : Bool} {a b : Addr} {T : List Addr} {o : Obj} {xs : List V}
theorem head_tbl (h : b ∈ T) : headH own a T o xs b = some (.tbl #[]) := if_pos h
theorem head_scr (h : a ∉ T) (e : own = false) : headH own a T o xs a = some (.frz o (.lst xs)) := (if_neg h).trans (if_pos ⟨rfl, e⟩)
theorem head_cases (b : Addr) : (b ∈ T ∧ headH own a T o xs b = some (.tbl #[])) ∨ (b ∉ T ∧ b = a ∧ own = false ∧ headH own a T o xs b = some (.frz o (.lst xs))) ∨ (b ∉ T ∧ ¬ (b = a ∧ own = false) ∧ headH own a T o xs b = none) := by
  by_cases h : b ∈ T
  · exact .inl ⟨h, if_pos h⟩
  · by_cases k : b = a ∧ own = false
    · exact .inr (.inl ⟨h, k.1, k.2, (if_neg h).trans (if_pos k)⟩)
    · exact .inr (.inr ⟨h, k, (if_neg h).trans (if_neg k)⟩)
end
theorem law_callG {P : Program} {w : World} {K : PySem.W.Frag} {mg mb : Str → Option Value} {CX : CXT} {k : Nat} {fa a : Addr} {cs : List (Addr × Addr)} {fd : FuncData} {x : Str} {sp : Sp} {s : Shared} {vs : List Value} {ns : List Int}
    (inK : K.In s.heap) (glob : s.heap.Ns mainGlobals mg) (bltn : s.heap.Ns builtinsNs mb) (boot : ∀ x : Str, x ≠ "__name__" → mb x = bootBuiltins x) (lim : s.heap.NoLimit) (gens : s.gens = #[])
    (tabs : ∀ p ∈ cs, s.heap.get? p.2 = some { cls := .none, data := .fields #[] }) (far : ∀ p ∈ cs, K.lookup p.2 = none) (heads : ∀ p ∈ cs, PySem.W.CodeHd s.heap p.1 p.2)
    (bmod : ∃ (bm : Addr) (ob : Obj), mg "__builtins__" = some (.ref bm) ∧ bm ≠ builtinsNs ∧ s.heap.get? bm = some ob ∧ ob.cls = .type "module" ∧ ob.dict = some builtinsNs ∧ ob.data = .plain)
    (scr : s.heap.get? a = some { cls := .type "list", data := .seq vs.toArray }) (nums : IntsAre vs ns) (few : ns.length ≤ sizeLine) (room : Room k callerA)
    (F : ∀ base : Heap, K.In base → base.Ns mainGlobals mg → (∀ p ∈ cs, LamX.TabB base mg p.1 p.2) → FnG P w K mg base CX k fa fd [x] sp) (binds : ∀ (s : Shared) (u : Value), BindsTo s fd ⟨[u], []⟩ [(x, u)])
    (want : ∀ H : Hp, (∀ p ∈ cs, H p.2 = some (.tbl #[])) → SqL K H a (ns.map V.int) → sp [.ref a] H (fun v _ => v = .bl true) fun _ _ _ => False)
    (calm : ∀ H e s', CX [] H s (fun _ _ _ => False) e s' → False) :
    codeAny (model P w) callerA (.call (.ref fa) ⟨[.ref a], []⟩) (fun r s' => r = .ok (.ret (.bool true)) ∧ OldK s.heap s'.heap ∧ s'.os = s.os ∧ AllBare s'.gens) s := by
  let T := cs.map (·.2)
  let oA : Obj := { cls := .type "list", data := .seq vs.toArray }
  have tabT : ∀ b ∈ T, s.heap.get? b = some { cls := .none, data := .fields #[] } := by
    intro b hb
    obtain ⟨p, hp, rfl⟩ := List.mem_map.mp hb
    exact tabs p hp
  have farT : ∀ b ∈ T, K.lookup b = none := by
    intro b hb
    obtain ⟨p, hp, rfl⟩ := List.mem_map.mp hb
    exact far p hp
  have inT : ∀ p ∈ cs, p.2 ∈ T := fun p hp => List.mem_map.mpr ⟨p, hp, rfl⟩
  have apart : a ∉ T := fun z => by
    have q := (tabT a z).symm.trans scr
    cases congrArg Obj.data (Option.some.inj q)
  obtain ⟨own, hown⟩ : ∃ own : Bool, own = (K.lookup a).isSome := ⟨_, rfl⟩
  generalize hH : headH own a T oA (ns.map V.int) = H
  have cases3 := fun b => hH ▸ head_cases (own := own) (a := a) (T := T) (o := oA) (xs := ns.map V.int) b
  have vals := vals_ints nums
  have read : SqL K H a (ns.map V.int) := by
    cases e : K.lookup a with
    | none =>
      rw [e] at hown
      exact .inl (.inr ⟨oA, hH ▸ head_scr apart hown⟩)
    | some o =>
      obtain rfl : o = oA := Option.some.inj ((inK a o e).symm.trans scr)
      exact .inr ⟨oA, vs.toArray, _, e, rfl, rfl, rfl, by rw [List.size_toArray, nums.length]; exact few, by simpa using vals⟩
  have hok : HOk P w H s.heap := by
    intro b u e
    rcases cases3 b with ⟨hb, z⟩ | ⟨_, rfl, _, z⟩ | ⟨_, _, z⟩
    · cases z.symm.trans e
      exact tabT b hb
    · cases z.symm.trans e
      exact ⟨scr, by rw [List.length_map]; exact few, vs, _, vals, scr⟩
    · cases z.symm.trans e
  have clear : ∀ {b : Addr} {o : Obj}, s.heap.get? b = some o → (∀ vs n, o.data ≠ .seq vs n) → o.data ≠ .fields #[] → H b = none := by
    intro b o e h1 h2
    rcases cases3 b with ⟨hb, _⟩ | ⟨_, rfl, _, _⟩ | ⟨_, _, z⟩
    · cases (tabT b hb).symm.trans e
      exact (h2 rfl).elim
    · cases scr.symm.trans e
      exact (h1 _ _ rfl).elim
    · exact z
  have names : ∀ {b : Addr} {m : Str → Option Value}, s.heap.Ns b m → (hidT s.heap H).Ns b m := by
    rintro b m ⟨o, es, ep, e, d, r⟩
    exact ⟨o, es, ep, hidT_get e (clear e (fun vs n z => by rw [d] at z; cases z) fun z => by rw [d] at z; cases z), d, r⟩
  have inB : K.In (hidT s.heap H) := by
    intro b o e
    refine hidT_get (inK b o e) ?_
    rcases cases3 b with ⟨hb, _⟩ | ⟨_, rfl, ho, _⟩ | ⟨_, _, z⟩
    · cases (farT b hb).symm.trans e
    · rw [hown, e] at ho
      cases ho
    · exact z
  have md : L2.Mod K mg (hidT s.heap H) := ⟨inB, names glob, ⟨mb, names bltn, boot⟩, lim.imp fun mc h => ⟨names h.1, h.2⟩⟩
  have tb : ∀ p ∈ cs, LamX.TabB (hidT s.heap H) mg p.1 p.2 := by
    intro p hp
    obtain ⟨og, eg, pg, ag, dg, rg⟩ := id glob
    refine ⟨?_, ?_, fun z => ?_⟩
    · obtain ⟨o, us, file, tf, flags, tg, inF, text, tt, e1, r1, r2, r3, rest⟩ := heads p hp
      refine ⟨o, us, file, tf, flags, tg, inF, text, tt, hidT_get e1 (clear e1 (fun vs n z => ?_) fun z => ?_), r1, r2, r3, rest⟩
      · cases r2.symm.trans z
      · cases r2.symm.trans z
        simp at r3
    · obtain ⟨bm, ob, b1, b2, b3, b4, b5, b6⟩ := bmod
      refine ⟨bm, ob, b1, b2, fun q => ?_, fun q => ?_, hidT_get b3 (clear b3 (fun vs n z => ?_) fun z => ?_), b4, b5, b6⟩
      · rw [q] at b3
        cases ag.symm.trans b3
        cases dg.symm.trans b6
      · rw [q] at b3
        cases (tabs p hp).symm.trans b3
        cases b6
      · cases b6.symm.trans z
      · cases b6.symm.trans z
    · rw [z] at ag
      cases (tabs p hp).symm.trans ag
      cases dg
  have env : Env0 P w K mg (hidT s.heap H) callerA [] s H :=
    { frames := rfl, mod := md, bs := fun b o e => of_hidT e, bsz := Nat.le_of_eq (hidT_size _ _), funs := trivial, frf := fun b hb => absurd (show b ∈ ([] : List Addr) from hb) (by simp), hok := hok, bare := .of_eq gens }
  have hT : ∀ p ∈ cs, H p.2 = some (.tbl #[]) := fun p hp => hH ▸ head_tbl (inT p hp)
  refine codeAny_mono ((F _ inB (names glob) tb).go callerA rfl [] s H ⟨[.ref a], []⟩ [.ref a] [.ref a] _ _ room env (binds s (.ref a)) (.cons rfl .nil) (want H hT read)) ?_
  intro r s' h
  match r, h with
  | .error e, h => exact (calm H e s' h).elim
  | .ok (.ret u), h =>
    obtain ⟨v, H', os, bare, un, hok', rel, q⟩ := h
    obtain rfl : v = .bl true := q
    obtain rfl : u = Value.bool true := rel
    have same : ∀ b o, b ∉ T → s.heap.get? b = some o → s'.heap.get? b = some o := by
      intro b o nb e
      rcases cases3 b with ⟨hb, _⟩ | ⟨_, rfl, _, z⟩ | ⟨_, _, z⟩
      · exact absurd hb nb
      · have e2 := (hok' b _ (un.frzs b _ _ z)).1
        cases scr.symm.trans e
        exact e2
      · exact un.keep b o e z (fun z => absurd (show b ∈ ([] : List Addr) from z) (by simp)) (by simp)
    have more : ∀ p ∈ cs, ∃ ps : Array Value, s'.heap.get? p.2 = some { cls := .none, data := .fields ps } := by
      intro p hp
      obtain ⟨ps, z⟩ := un.tbls p.2 #[] (hT p hp)
      exact ⟨_, hok' p.2 _ z⟩
    refine ⟨rfl, ⟨fun b o e => ?_, fun b o e => ?_⟩, os, bare⟩
    all_goals
      by_cases hb : b ∈ T
      case neg => first | exact .inl (same b o hb e) | exact ⟨o, same b o hb e⟩
      obtain ⟨p, hp, rfl⟩ := List.mem_map.mp hb
      obtain ⟨ps, hm⟩ := more p hp
    · cases (tabs p hp).symm.trans e
      exact .inr (.inl ⟨((heads p hp).tab (tabs p hp)).isCodeTable, rfl, #[], ps, rfl, by rw [Array.empty_append]; exact hm⟩)
    · exact ⟨_, hm⟩
/-- what is known of the law's promise at the head's heap -/
def LawAtG (l : PySem.W.OpenLaw) (w : World) (K : PySem.W.Frag) (CX : CXT) (k n : Nat) (x : Str) (mg : Str → Option Value) (fa : Addr) (h : Heap) : Prop :=
  ∃ (fd : FuncData) (cs : List (Addr × Addr)) (sp : Sp), (∀ p ∈ cs, h.get? p.2 = some { cls := .none, data := .fields #[] }) ∧ (∀ p ∈ cs, K.lookup p.2 = none) ∧ (∀ p ∈ cs, PySem.W.CodeHd h p.1 p.2) ∧ (∀ (s : Shared) (u : Value), BindsTo s fd ⟨[u], []⟩ [(x, u)]) ∧
    (∀ (H : Hp) (a : Addr) (ns : List Int), ns.length ≤ n → (∀ p ∈ cs, H p.2 = some (.tbl #[])) → SqL K H a (ns.map V.int) → sp [.ref a] H (fun v _ => v = .bl true) fun _ _ _ => False) ∧
    ∀ base : Heap, K.In base → base.Ns mainGlobals mg → (∀ p ∈ cs, LamX.TabB base mg p.1 p.2) → FnG l.prog w K mg base CX k fa fd [x] sp
theorem walk_G {l : PySem.W.OpenLaw} {n k : Nat} {q : Program} {loose : List Str} {XP : (Str → Option Value) → Heap → Prop} {YP : World → Heap → Prop} {d : DefRec} {K : Params → PySem.W.Frag} {CX : World → CXT} {x : Str}
    (hn : l.most = some n) (hn2 : n ≤ sizeLine) (hdf : d.params.defaults = []) (hr : Room k callerA) (hY : ∀ (w : World) (h : Heap), YP w h → (K w.params).In h)
    (F : ∀ (w : World) (mg : Str → Option Value) (fa : Addr) (h : Heap), (K w.params).In h → h.Ns mainGlobals mg → mg d.name = some (.ref fa) → GE.TabsIn q (K w.params) h → LawAtG l w (K w.params) (CX w) k n x mg fa h)
    (hCX : ∀ (w : World) (H : Hp) (s : Shared) (e : Value) (s' : Shared), CX w [] H s (fun _ _ _ => False) e s' → False) :
    PySem.W.WalkO q loose XP YP l.row.toRowW d [] (fun f vs => PySem.call f vs) := by
  refine Att.attach_callB hn hdf fun w s0 s1 mg mb fa o pm cd doc a vs ns G Y ho hd hcd hmg hobj hints hlen hbits hg => ?_
  have KX := hY w _ Y
  obtain ⟨fd, cs, sp, hT, nT, C, hb, hsp, hF⟩ := F w mg fa _ KX G.T.g hmg fun x d c P h1 h2 => PySem.W.tab_of G.T KX h1 h2
  exact law_callG KX G.T.g G.T.b G.T.builtins G.T.nolimit hg hT nT C G.T.bmain hobj hints (Nat.le_trans hlen hn2) hr hF hb (fun H hH hS => hsp H a ns hlen hH hS) fun H e s' => hCX w H s1 e s'
end GU

set_option Elab.async false
set_option linter.all false
set_option maxRecDepth 100000
set_option maxHeartbeats 2000000
/-! tuple(elt for tg in iter if ..), whatever the element calls -/
namespace GE
open PySem PySem.Spec PyProof.Rows L2 GenW
section
variable {X : Cx} {pins : List (Addr × Obj)} {σ : L2.St} {H : Hp} {s : Shared}
/-- an around from which the def's generator may be woken -/
structure Near (X : Cx) (A : Around) : Prop where
  hd : A.handled = none
  fr : A.frames = X.A.frames
  dp : A.depth = X.A.depth
  un : A.units ≤ X.A.units + 8
/-- a generator that stands ready, its parts told -/
structure Parts (X : Cx) (pins : List (Addr × Obj)) (σ : L2.St) (scope : Scope) (elt tg iter : Expr) (ifs : List Expr) (gpos : Pos) (vs : List Nat) (g : TG) (tt : TT) (te : TE) (R : It → Hp → Prop) (a : Addr) (s5 : Shared) (it : Addr) (fp : List Addr) (tn : Nat → Heap → Prop) (J : It) (cenv : Env) (s4 : Shared) (H3 : Hp) (go : Obj) (gi : Nat) : Prop where
  gen : ∀ h : Heap, h.get? a = some go → h.IsGen a gi
  isg : s5.heap.IsGen a gi
  lim : s5.heap.NoLimit
  gs : s5.gens[gi]? = some (.fresh (.compStart (.GeneratorExp elt [⟨tg, iter, ifs, 0⟩] scope gpos) 0 (.ref it) .none cenv))
  T : Turn X.prog X.w X.K tg J fp it tn
  t0 : tn 0 s5.heap
  f0 : ∀ b ∈ fp, H3 b = none
  out : ∀ b ∈ fp, b < s4.heap.objs.size
  az : s4.heap.objs.size < a
  al : a < s5.heap.objs.size
  old : s4.heap.objs.size ≤ s5.heap.objs.size
  hco : cenv.scope.isCoroutine = false
  loc : cenv.locals = s4.heap.objs.size
  cel : ∀ x c, cenv.cells.lookup x = some c → c < s4.heap.objs.size
  stk : ∀ b ∈ frs X.stack, b < s4.heap.objs.size
  inv : ∀ (A : Around), Near X A → Inv (gctx X (A.deeper cenv) s4 H3 scope cenv fp) [(a, go)] (wipe σ vs) H3 s5
  pg : ∀ (A : Around), Near X A → PG (gctx X (A.deeper cenv) s4 H3 scope cenv fp) tg g
  pt : ∀ (A : Around), Near X A → PTs (gctx X (A.deeper cenv) s4 H3 scope cenv fp) ifs tt
  pe : ∀ (A : Around), Near X A → PE (gctx X (A.deeper cenv) s4 H3 scope cenv fp) elt te
  back : ∀ (A : Around) pn σ' H' s', Inv (gctx X (A.deeper cenv) s4 H3 scope cenv fp) pn σ' H' s' → Inv X pins σ H' s'
  fresh : s4.heap.objs.size ≤ s5.heap.objs.size
  read : R J H3
def MadeP (X : Cx) (pins : List (Addr × Obj)) (σ : L2.St) (scope : Scope) (elt tg iter : Expr) (ifs : List Expr) (gpos : Pos) (vs : List Nat) (g : TG) (tt : TT) (te : TE) (R : It → Hp → Prop) (u : Value) (s5 : Shared) : Prop :=
  ∃ (a it : Addr) (fp : List Addr) (tn : Nat → Heap → Prop) (J : It) (cenv : Env) (s4 : Shared) (H3 : Hp) (go : Obj) (gi : Nat), u = .ref a ∧ Parts X pins σ scope elt tg iter ifs gpos vs g tt te R a s5 it fp tn J cenv s4 H3 go gi
theorem gen_parts {c P : Addr} {elt tg iter : Expr} {ifs : List Expr} {gpos : Pos} {scope : Scope} {own : List (Str × Nat)} {wi : TI} {g : TG} {tt : TT} {te : TE} {k : Nat} {R : It → Hp → Prop}
    (hc : X.calm = true) (hN : X.N.Nodup) (hr : Room (k + 1) X.A) (TB : GxR.TabB X.base X.mg c P) (hcode : X.env.code = .ref c) (S : GSc X.N X.env.scope scope own) (hi : PI X tg iter wi)
    (hg : ∀ (A : Around) (s : Shared) (H : Hp) (C : Addr) (code : Value) (fp : List Addr), Room k A → PG (gctx X A s H scope (genEnv scope (cloFrom X.env.cells scope.names []) C code builtinsNs X.env) fp) tg g)
    (ht : ∀ (A : Around) (s : Shared) (H : Hp) (C : Addr) (code : Value) (fp : List Addr), Room k A → PTs (gctx X A s H scope (genEnv scope (cloFrom X.env.cells scope.names []) C code builtinsNs X.env) fp) ifs tt)
    (he : ∀ (A : Around) (s : Shared) (H : Hp) (C : Addr) (code : Value) (fp : List Addr), Room k A → PE (gctx X A s H scope (genEnv scope (cloFrom X.env.cells scope.names []) C code builtinsNs X.env) fp) elt te)
    (hs : ∀ v, genFold iter X.env v = pure v) (I : Inv X pins σ H s) (h : wi σ H fun J H1 => GxR.TabG H1 P ∧ ∀ H2, GxR.Tabbed P H1 H2 → R J H2) :
    wpAny (model X.prog X.w) X.A (eval (.GeneratorExp elt [⟨tg, iter, ifs, 0⟩] scope gpos) X.env) (MadeP X pins σ scope elt tg iter ifs gpos (own.map (·.2)) g tt te R) X.xe s := by
  have hfree : ∀ y ∈ scope.names, y.2 = .free → ∃ c, X.env.cells.lookup y.1 = some c := fun y hy e => by
    rcases S.blk.free y hy e with z | z
    · exact I.ok.has _ (.inl z)
    · exact I.ok.has _ (.inr z)
  refine wpAny_GeneratorExp_make S.co (closure_ok hfree) S.cell S.dot S.blk.kind (by have := hr.dp; omega) ?_ hs
  refine thn (hi.run pins s σ H _ I h) fun xv s1 hx => thn hx fun itv s2 h2 => ?_
  obtain ⟨it, fp, tn, J, H1, rfl, I2, T, t2, f2, ⟨ps, hP, htr⟩, q⟩ := h2
  have oP : s2.heap.get? P = some { cls := .none, data := .fields ps } := I2.hok P _ hP
  have cd : PySem.W.CodeHd s2.heap c P := TB.code.keeps I2.bk
  refine ⟨I2.nolimit, ?_⟩
  have nP : ∀ b ∈ fp, b ≠ P := fun b hb z => by
    have q := (f2 b hb).1
    rw [z, hP] at q
    cases q
  have rest : ∀ (code : Value) (h3 : Heap) (tk : Nat) (ps' : Array Value), Heap.ExtBut P s2.heap h3 → h3.get? P = some { cls := .none, data := .fields ps' } → (∃ more, ps' = ps ++ more) → TriplesOk ps'.toList →
      wpAny (model X.prog X.w) X.A (builtinsFor X.env.globals X.env.builtins) (fun bi s4 =>
        ∀ h', h'.Ns s4.heap.objs.size (fun y => if y = ".0" then some (.ref it) else none) → Heap.SameBut s4.heap.objs.size (s4.heap.push { cls := .type "frame", data := .dict #[] }) h' →
          (MadeP X pins σ scope elt tg iter ifs gpos (own.map (·.2)) g tt te R) (.ref h'.objs.size) { s4 with
            gens := s4.gens.push (.fresh (.compStart (.GeneratorExp elt [⟨tg, iter, ifs, 0⟩] scope gpos) 0 (.ref it) .none (genEnv scope (cloFrom X.env.cells scope.names []) s4.heap.objs.size code bi X.env))),
            toks := s4.toks + 1 + 1 + 1,
            heap := h'.push { cls := .type "generator", data := .fields #[.int s4.gens.size 0, .str "<genexpr>" (s4.toks + 1), .str (X.env.qual ++ "<genexpr>") (s4.toks + 1 + 1)] } }) X.xe { s2 with heap := h3, toks := tk } := by
    intro code h3 tk ps' hx hP3 hmore htr3
    obtain ⟨bm, ob, b1, b2, b3, b4, b5, b6, b7, b8⟩ := TB.bm
    refine wpAny_builtinsFor (m := X.mg) ?_ b1 b2 (hx _ _ b4 (I2.bk _ _ b5)) b6 b7 b8 ?_
    · rw [I2.ok.glob]
      exact (I2.mod.glob.keeps I2.bk).extBut hx TB.gP
    obtain ⟨more, rfl⟩ := hmore
    have I3 : Inv X pins σ (upd H1 P (.tbl (ps ++ more))) { s2 with heap := h3, toks := tk } := GxR.inv_tab (more := more) (h' := h3) (g' := s2.gens) (d' := s2.drawn) (t' := tk) I2 hP hx hP3 I2.bare
    have tab : GxR.Tabbed P H1 (upd H1 P (.tbl (ps ++ more))) := ⟨⟨_, upd_same, htr3⟩, fun b hb => upd_ne hb⟩
    have rd := q _ tab
    have t3 : tn 0 h3 := T.keep _ _ _ t2 fun b hb o e => hx b o (nP b hb) e
    have f3 : ∀ b ∈ fp, FpOk X pins (upd H1 P (.tbl (ps ++ more))) b ∧ b < h3.objs.size := fun b hb => by
      refine ⟨⟨?_, (f2 b hb).2⟩, ?_⟩
      · rw [upd_ne (nP b hb)]
        exact (f2 b hb).1
      · obtain ⟨o, e, _⟩ := T.obj _ _ t3 b hb
        exact Heap.lt_size e
    generalize upd H1 P (.tbl (ps ++ more)) = H3 at I3 rd f3
    intro h' hn' hs'
    generalize hs4 : ({ s2 with heap := h3, toks := tk } : Shared) = s4 at I3 hn' hs' ⊢
    have e4 : s4.heap = h3 := by rw [← hs4]
    rw [← e4] at t3 f3
    have hsz : h'.objs.size = s4.heap.objs.size + 1 := by rw [hs'.1, Heap.size_push]
    have hk : ∀ b o, s4.heap.get? b = some o → h'.get? b = some o := fun b o e => by
      rw [hs'.2 b (Nat.ne_of_lt (Heap.lt_size e))]
      exact Heap.get?_push_of_some _ e
    generalize hgo : ({ cls := .type "generator", data := .fields #[.int s4.gens.size 0, .str "<genexpr>" (s4.toks + 1), .str (X.env.qual ++ "<genexpr>") (s4.toks + 1 + 1)] } : Obj) = go
    have isg : ∀ hh : Heap, hh.get? h'.objs.size = some go → hh.IsGen h'.objs.size s4.gens.size := fun hh e => ⟨go, _, _, e, by rw [← hgo], by rw [← hgo], by rw [← hgo]⟩
    have hga : (h'.push go).get? h'.objs.size = some go := Heap.get?_push_size _ (by rw [← hgo]; rfl)
    have bare : AllBare (s4.gens.push (.fresh (.compStart (.GeneratorExp elt [⟨tg, iter, ifs, 0⟩] scope gpos) 0 (.ref it) .none (genEnv scope (cloFrom X.env.cells scope.names []) s4.heap.objs.size code builtinsNs X.env)))) := I3.bare.push rfl
    have kp5 : ∀ b o, s4.heap.get? b = some o → (h'.push go).get? b = some o := fun b o e => Heap.get?_push_of_some _ (hk b o e)
    have rmA : ∀ A, Near X A → Room k (A.deeper (genEnv scope (cloFrom X.env.cells scope.names []) s4.heap.objs.size code builtinsNs X.env)) := fun A N => by
      refine ⟨N.hd, ?_, ?_⟩
      · have := hr.dp
        have := N.dp
        show A.depth + 1 + 3 * k + 5 < _
        omega
      · have := hr.un
        have := N.un
        show A.units + 3 + 16 * k + 200 < _
        omega
    refine ⟨h'.objs.size, it, fp, tn, J, genEnv scope (cloFrom X.env.cells scope.names []) s4.heap.objs.size code builtinsNs X.env, s4, H3, go, s4.gens.size, rfl, ?_⟩
    have hs5 : (h'.push go).objs.size = h'.objs.size + 1 := Heap.size_push ..
    refine { gen := isg, isg := isg _ hga, lim := I3.nolimit.keeps kp5, gs := Array.getElem?_push_size .., T := T, t0 := T.keep _ _ _ t3 fun b _ o e => kp5 b o e, f0 := fun b hb => (f3 b hb).1.1, out := fun b hb => (f3 b hb).2, az := ?_, al := ?_, old := ?_, hco := S.co, loc := rfl, cel := ?_, stk := ?_, inv := ?_, pg := fun A N => hg _ s4 H3 s4.heap.objs.size code fp (rmA A N), pt := fun A N => ht _ s4 H3 s4.heap.objs.size code fp (rmA A N), pe := fun A N => he _ s4 H3 s4.heap.objs.size code fp (rmA A N), back := ?_, fresh := ?_, read := rd }
    · show s4.heap.objs.size < h'.objs.size
      omega
    · show h'.objs.size < (h'.push go).objs.size
      omega
    · show s4.heap.objs.size ≤ (h'.push go).objs.size
      omega
    · intro x c e
      have e : (cloFrom X.env.cells scope.names []).lookup x = some c := e
      rcases cloFrom_mem (PySem.mem_of_lookup e) with z | ⟨z, q⟩
      · cases z
      · obtain ⟨d, hd⟩ := hfree _ z rfl
        rw [hd] at q
        have q : c = d := q
        subst q
        obtain ⟨v, hv⟩ := I3.cell _ _ hd
        exact hv.lt
    · intro b hb
      rcases List.mem_cons.mp (I3.stkSub b hb) with z | z
      · rw [z]; exact I3.lt
      · obtain ⟨_, o, ho, _⟩ := I3.ok.funs.mem z
        exact Nat.lt_of_lt_of_le (Heap.lt_size ho) I3.sz
    · intro A N
      exact gen_start (code := code) (go := go) (tk := s4.toks + 1 + 1 + 1) I3 S.blk hN S.cell f3 N.hd (by show A.frames.map _ = _; rw [N.fr, I3.ok.frames]; rfl) hn' hk (fun v z => by rw [← hgo] at z; cases z) hga hsz bare
    · intro A pn σ' H' s' I'
      exact I3.call' (ch := fp) I'.os I'.base I'.hok I'.bare fun b hb => ⟨(f3 b hb).1.2.2.2.1, (f3 b hb).1.2.1, (f3 b hb).1.2.2.2.2.1, (f3 b hb).1.2.2.2.2.2⟩
    · show s4.heap.objs.size ≤ (h'.push go).objs.size
      omega
  cases hf : codeAmong gpos ps.toList with
  | none =>
    refine wpAny_genexprCodeX hcode (cd.code oP htr) (cd.tab oP) hf fun c' h' tk hx hge hlt hco' _ htab' _ => ?_
    obtain ⟨o1, v1, f1, tf, fl, t1, inF, tx, t0, op, _, _, _, _, _, _, _, _, _, htr', _⟩ := hco'
    exact rest _ h' tk _ hx htab'.2 ⟨_, rfl⟩ htr'
  | some cv =>
    refine wpAny_genexprCode_hit hcode (cd.code oP htr) hf ?_
    exact rest cv s2.heap s2.toks ps (Heap.ExtBut.refl _ _) oP ⟨#[], by simp⟩ htr
/-! ### all that is handed out is put into the list at S -/
def lo (acc : Array Value) (c : Nat) : Obj := { cls := .type "list", dict := none, data := .seq acc c, slots := #[] }
def GRt (Y : Cx) (pn : List (Addr × Obj)) (S : Addr) (Qt : List V → Hp → Prop) : GenEnd := fun _ _ r s1 =>
  ((r = .ok (.ret .none) ∨ r = .ok .next) ∧ ∃ σ' H' ys acc c, Inv Y (pn ++ [(S, lo acc c)]) σ' H' s1 ∧ Vals ys acc.toList ∧ Qt ys H') ∨ ∃ e, r = .error e ∧ (fun (_ : Value) (_ : Shared) => False) e s1
def GYt (Y : Cx) (pn : List (Addr × Obj)) (S : Addr) : Protocol := fun _ _ v s1 kap =>
  ∃ σ' H' acc c, Inv Y (pn ++ [(S, lo acc c)]) σ' H' s1 ∧ acc.size < sizeLine ∧
    ∀ (s2 : Shared) (c2 : Nat), (∀ b o, b ≠ S → s1.heap.get? b = some o → s2.heap.get? b = some o) → s2.heap.get? S = some (lo (acc.push v) c2) → s2.os = s1.os → AllBare s2.gens → kap (.send .none) s2
/-- one turn's reading; ys: what was handed out so far -/
def StepT (J : It) (g : TG) (tt : TT) (te : TE) (vs : List Nat) (σ : L2.St) (Qt : List V → Hp → Prop) (W : Nat → Nat → List V → Hp → Prop) (i m : Nat) (ys : List V) (H : Hp) : Prop :=
  (J.stop i H ∧ Qt ys H) ∨ (J.go i H ∧ ∃ Nx : List V → Hp → Prop, (∀ zs H', Nx zs H' → ∃ m', m' < m ∧ W (i + 1) m' zs H') ∧ ∀ x H', J.yld i H x H' → g x (wipe σ vs) H' fun σ2 H2 => wipe σ2 vs = wipe σ vs ∧ tt σ2 H2 fun b H3 =>
    if b = true then te σ2 H3 fun y H4 => ys.length < sizeLine ∧ Nx (ys ++ [y]) H4 else Nx ys H3)
theorem seg_turnsT {A0 : Around} {s3 : Shared} {H3 : Hp} {scope : Scope} {cenv : Env} {fp : List Addr} {pn : List (Addr × Obj)} {it S : Addr} {J : It} {tn : Nat → Heap → Prop} {elt tg iter : Expr} {ifs : List Expr} {pos : Pos} {vs : List Nat}
    {g : TG} {tt : TT} {te : TE} {Qt : List V → Hp → Prop} {W : Nat → Nat → List V → Hp → Prop} (hc : X.calm = true) (hco : cenv.scope.isCoroutine = false) (hpn : ∀ p ∈ pn, p.1 ∉ fp) (hS : S ∉ fp) (hS1 : s3.heap.objs.size ≤ S) (hS2 : S ≠ cenv.locals) (hS3 : ∀ x c, cenv.cells.lookup x = some c → c ≠ S)
    (hS4 : ∀ p ∈ pn, p.1 ≠ S) (hS5 : S ∉ frs X.stack)
    (T : Turn X.prog X.w X.K tg J fp it tn) (pg : PG (gctx X (A0.deeper cenv) s3 H3 scope cenv fp) tg g) (pt : PTs (gctx X (A0.deeper cenv) s3 H3 scope cenv fp) ifs tt) (pe : PE (gctx X (A0.deeper cenv) s3 H3 scope cenv fp) elt te)
    (turn : ∀ i m ys H', W i m ys H' → StepT J g tt te vs σ Qt W i m ys H') :
    ∀ (m n : Nat), m < n → ∀ (i : Nat) (s0 s1 : Shared) (H' : Hp) (ys : List V) (acc : Array Value) (c : Nat), Inv (gctx X (A0.deeper cenv) s3 H3 scope cenv fp) (pn ++ [(S, lo acc c)]) (wipe σ vs) H' s1 → Vals ys acc.toList → tn i s1.heap → (∀ b ∈ fp, H' b = none) → W i m ys H' →
      Seg (model X.prog X.w) A0 (GRt (gctx X (A0.deeper cenv) s3 H3 scope cenv fp) pn S Qt) (GYt (gctx X (A0.deeper cenv) s3 H3 scope cenv fp) pn S) n s0
        (.compLoop (.GeneratorExp elt [⟨tg, iter, ifs, 0⟩] scope pos) 0 (.ref it) .none cenv) ((model X.prog X.w).den (.compLoop (.GeneratorExp elt [⟨tg, iter, ifs, 0⟩] scope pos) 0 (.ref it) .none cenv)) [] s1 := by
  intro m
  induction m using Nat.strongRecOn with
  | ind m ih =>
    intro n hmn i s0 s1 H1 ys acc c I1 v1 t1 f1 w1
    have hpl : ∀ p ∈ pn ++ [(S, lo acc c)], p.1 ∉ fp := fun p hp => by
      rcases List.mem_append.mp hp with z | z
      · exact hpn p z
      · rw [List.mem_singleton.mp z]; exact hS
    have own : ∀ {pl : List (Addr × Obj)} {σ' : L2.St} {H' : Hp} {s' : Shared}, (∀ p ∈ pl, p.1 ∉ fp) → Inv (gctx X (A0.deeper cenv) s3 H3 scope cenv fp) pl σ' H' s' → (∀ b ∈ fp, H' b = none) → ∀ b ∈ fp, FpOk (gctx X (A0.deeper cenv) s3 H3 scope cenv fp) pl H' b :=
      fun {pl σ' H' s'} hpl I' hn b hb => ⟨hn b hb, (I'.ok.exf b hb).1, I'.ok.exfs b hb, .inl hb, fun x c e => (I'.ok.exf b hb).2 x c e, fun p hp z => hpl p (by simpa using hp) (by rw [z]; exact hb)⟩
    show Seg _ A0 _ _ _ s0 _ ((compTurn (.GeneratorExp elt [⟨tg, iter, ifs, 0⟩] scope pos) 0 (.ref it) .none cenv).onRaise (leaving cenv)) [] s1
    rw [compTurn_gen]
    rw [Sem.onRaise_eq_wrap]
    refine seg_bind_wrap (wpAny_standAt ?_)
    rcases turn i m ys H1 w1 with ⟨stop, qt⟩ | ⟨go, Nx, hNx, step⟩
    · refine seg_bind_wrap (wpF (T.done (gctx X (A0.deeper cenv) s3 H3 scope cenv fp) rfl rfl rfl hc i _ s1 _ H1 (fun _ _ => False) I1 (own hpl I1 f1) t1 stop) fun r s2 ⟨hr, I2⟩ => ?_)
      subst hr
      exact seg_end (.ok .next) (.inl ⟨.inr rfl, _, H1, ys, acc, c, I2, v1, qt⟩)
    · refine seg_bind_wrap (wpF (T.item (gctx X (A0.deeper cenv) s3 H3 scope cenv fp) rfl rfl rfl hc i _ s1 _ H1 (fun _ _ => False) I1 (own hpl I1 f1) t1 go) fun r s2 ⟨u, hr, h2⟩ => ?_)
      subst hr
      refine seg_bind_wrap (wpF h2 fun _ s4 ⟨x, H4, I4, r4, y4, t4, f4⟩ => ?_)
      have P4 := I4.pinned (own hpl I4 f4) (T.obj _ _ t4)
      refine seg_bind_wrap (wpF (pg.run _ s4 _ H4 x u _ P4 r4 (step x H4 y4)) fun _ s5 ⟨σ5, H5, I5, w5, q5⟩ => ?_)
      refine seg_bind_wrap (wpF (pt.run _ s5 σ5 H5 _ I5 q5) fun b s6 ⟨H6, I6, q6⟩ => ?_)
      have back : ∀ {s' : Shared} {H' : Hp}, Inv (gctx X (A0.deeper cenv) s3 H3 scope cenv fp) ((pn ++ [(S, lo acc c)]) ++ pinsAt fp s4.heap) σ5 H' s' →
          Inv (gctx X (A0.deeper cenv) s3 H3 scope cenv fp) (pn ++ [(S, lo acc c)]) (wipe σ vs) H' s' ∧ tn (i + 1) s'.heap ∧ ∀ b ∈ fp, H' b = none := fun {s' H'} I' => by
        have at' : ∀ b ∈ fp, ∀ o, s4.heap.get? b = some o → s'.heap.get? b = some o ∧ H' b = none := fun b hb o e =>
          let z := I'.pin (b, o) (List.mem_append_right _ (List.mem_append_right _ (mem_pinsAt hb e)))
          ⟨z.1, z.2.1⟩
        refine ⟨I'.unpinned.weak (by rw [← w5, wipe_length]) fun j v e => ?_, T.keep _ _ _ t4 fun b hb o e => (at' b hb o e).1, fun b hb => ?_⟩
        · rw [← w5] at e
          exact (wipe_some e).1
        · obtain ⟨o, e, _⟩ := T.obj _ _ t4 b hb
          exact (at' b hb o e).2
      cases b with
      | false =>
        have q6 : Nx ys H6 := by simpa using q6
        obtain ⟨m', hm, w'⟩ := hNx ys H6 q6
        obtain ⟨I7, t7, f7⟩ := back I6
        simp only [Bool.false_eq_true, if_false]
        exact seg_again rfl (ih m' hm n (by omega) (i + 1) s0 s6 H6 ys acc c I7 v1 t7 f7 w')
      | true =>
        rw [if_pos rfl] at q6
        simp only [if_true]
        have hy : ∀ v, yieldOut cenv v = yieldValue v := fun v => by
          unfold yieldOut
          simp [hco]
        simp only [hy]
        rw [Sem.bind_eq_wrap', Sem.bind_eq_wrap']
        rw [Sem.wrap_wrap, Sem.wrap_wrap]
        refine seg_wrap (wpF (pe.run _ s6 σ5 H6 _ I6 q6) fun v s7 ⟨yv, H7, I7, r7, hlt, qn⟩ => ?_)
        obtain ⟨I8, t8, f8⟩ := back I7
        obtain ⟨n, rfl⟩ : ∃ k, n = k + 1 := ⟨n - 1, by omega⟩
        have hsz : acc.size < sizeLine := by
          have e1 : ys.length = acc.toList.length := v1.length
          rw [← Array.length_toList, ← e1]
          exact hlt
        refine seg_at (seg_yield rfl rfl rfl ⟨_, H7, acc, c, I8, hsz, fun s9 c2 hk hS9 ho hb => ?_⟩)
        obtain ⟨m', hm, w'⟩ := hNx _ H7 qn
        have pS := I8.pin (S, lo acc c) (List.mem_append_right _ (List.mem_append_right _ (List.mem_singleton.mpr rfl)))
        have I9 : Inv (gctx X (A0.deeper cenv) s3 H3 scope cenv fp) pn (wipe σ vs) H7 s7 := I8.unpinned
        have I10 : Inv (gctx X (A0.deeper cenv) s3 H3 scope cenv fp) pn (wipe σ vs) H7 { s7 with heap := s9.heap, toks := s9.toks } :=
          I9.turned (t' := s9.toks) (it := S) hk pS.2.1 hS2 (.inr hS1) hS3 fun p hp => hS4 p (by simpa using hp)
        have I11 : Inv (gctx X (A0.deeper cenv) s3 H3 scope cenv fp) (pn ++ [(S, lo (acc.push v) c2)]) (wipe σ vs) H7 s9 := by
          refine (inv_heap (s' := s9) I10 rfl ho hb).pins_of fun p hp => ?_
          rcases List.mem_append.mp hp with z | z
          · exact (inv_heap (s' := s9) I10 rfl ho hb).pin p (List.mem_append_right _ z)
          · rw [List.mem_singleton.mp z]
            exact ⟨hS9, pS.2.1, hS2, hS5, fun v z => by cases z⟩
        refine seg_again rfl (ih m' hm n (by omega) (i + 1) s9 s9 H7 _ (acc.push v) c2 I11 ?_ (T.keep _ _ _ t8 fun b hb' o e => hk b o (fun z => hS (by rw [← z]; exact hb')) e) f8 w')
        rw [Array.toList_push]
        exact v1.append (.cons r7 .nil)
/-- list.extend walks the generator -/
theorem extend_walk {Y : Cx} {pn : List (Addr × Obj)} {Qt : List V → Hp → Prop} {A : Around} {R : Result → Shared → Prop} {a S : Addr} {go : Obj} {g : Nat} {res : Value} (hh : A.handled = none) (hd : A.depth < recursionLimit)
    (hpa : (a, go) ∈ pn) (hgen : ∀ h : Heap, h.get? a = some go → h.IsGen a g) (hSa : S ≠ a)
    (eT : ∀ σ' H' s' ys acc c, Inv Y (pn ++ [(S, lo acc c)]) σ' H' s' → Vals ys acc.toList → Qt ys H' → R (.ok (.ret res)) s') :
    ∀ (n : Nat) (s1 : Shared) (gs : GenState), s1.heap.IsGen a g → s1.heap.NoLimit → s1.gens[g]? = some gs →
      gs.Goes (model Y.prog Y.w) A.in1.in1 (GRt Y pn S Qt) (GYt Y pn S) n (.send .none) (s1.setGen g .running) → codeAny (model Y.prog Y.w) A (.builtin "list.extend.loop" ⟨[.ref S, .ref a, res], []⟩) R s1 := by
  have fin : ∀ {s2 : Shared} {h' : Heap}, (∃ σ' H' ys acc c, Inv Y (pn ++ [(S, lo acc c)]) σ' H' s2 ∧ Vals ys acc.toList ∧ Qt ys H') → (∀ b o, s2.heap.get? b = some o → h'.get? b = some o) → R (.ok (.ret res)) { s2.setGen g .finished with heap := h' } := fun {s2 h'} hp hk => by
    obtain ⟨σ', H', ys, acc, c, I2, v2, q⟩ := hp
    have I3 : Inv Y (pn ++ [(S, lo acc c)]) σ' H' (s2.setGen g .finished) := inv_heap I2 rfl rfl (allBare_setGen I2.bare rfl)
    exact eT σ' H' _ ys acc c (I3.kept (t' := s2.toks) hk) v2 q
  intro n
  induction n with
  | zero =>
    intro s1 gs isg lim hgs goes
    refine codeAny_builtin F.entry_extend_loop ?_
    rw [Around.under_plainId F.plain_extend_loop _]
    show wpAny _ A.in1 (pyNext (.ref a) >>= _) _ _ s1
    refine wpAny_bind (next_genG (A := A.in1) hh lim hd isg hgs goes (fun v s2 gs' hb hv => ?_) (fun s2 hp h' hk => ?_) fun e s2 he => he.elim)
    · obtain ⟨σ', H', acc, c, I2, hz, q2⟩ := hv
      have pS := I2.pin (S, lo acc c) (List.mem_append_right _ (List.mem_append_right _ (List.mem_singleton.mpr rfl)))
      have e0 : s2.heap.get? S = some (lo acc c) := pS.1
      have hS3 := Heap.get?_update_self (Obj.mapSeq (·.push v)) e0 rfl
      exact (q2 { s2 with heap := s2.heap.update S (Obj.mapSeq (·.push v)) } _ (fun b o hbS e => (Heap.get?_update_other _ _ (Ne.symm hbS)).trans e) hS3 rfl I2.bare).elim
    · exact wpAny_pure (fin hp hk)
  | succ n ih =>
    intro s1 gs isg lim hgs goes
    have hgl : g < s1.gens.size := (Array.getElem?_eq_some_iff.mp hgs).1
    refine codeAny_builtin F.entry_extend_loop ?_
    rw [Around.under_plainId F.plain_extend_loop _]
    show wpAny _ A.in1 (pyNext (.ref a) >>= _) _ _ s1
    refine wpAny_bind (wpAny_gsz (n := g + 1) hgl (next_genG (A := A.in1) hh lim hd isg hgs goes (fun v s2 gs' hb hv => ?_) (fun s2 hp h' hk => ?_) fun e s2 he => he.elim))
    · intro hsz
      obtain ⟨σ', H', acc, c, I2, hz, q2⟩ := hv
      have pS := I2.pin (S, lo acc c) (List.mem_append_right _ (List.mem_append_right _ (List.mem_singleton.mpr rfl)))
      have e0 : s2.heap.get? S = some (lo acc c) := pS.1
      show wpAny _ A.in1 (updateSeq S (·.push v) >>= _) _ _ _
      refine wpAny_bind (wpAny_updateSeq (s := s2.setGen g gs') e0 rfl (wpAny_pure ⟨plainId_quiet F.plain_extend_loop _, ?_⟩) (Nat.le_of_lt hz) (by show (acc.push v).size ≤ sizeLine + 1; rw [Array.size_push]; omega))
      have hS3 := Heap.get?_update_self (Obj.mapSeq (·.push v)) e0 rfl
      have k3 : ∀ b o, b ≠ S → s2.heap.get? b = some o → (s2.heap.update S (Obj.mapSeq (·.push v))).get? b = some o := fun b o hbS e => (Heap.get?_update_other _ _ (Ne.symm hbS)).trans e
      have hg2 : g < s2.gens.size := by
        have z : (s2.setGen g gs').gens.size = s2.gens.size := setGen_size _ _ _
        have hsz : g + 1 ≤ (s2.setGen g gs').gens.size := hsz
        omega
      have ha2 := (I2.pin (a, go) (List.mem_append_right _ (List.mem_append_left _ hpa))).1
      have lim2 := I2.nolimit
      refine ih { s2.setGen g gs' with heap := s2.heap.update S (Obj.mapSeq (·.push v)) } gs' (hgen _ (k3 a go (Ne.symm hSa) ha2)) ?_ (setGen_at hg2) ?_
      · obtain ⟨mc, hns, hnn⟩ := lim2
        refine ⟨mc, hns.at' fun o e => k3 _ o (fun z => ?_) e, hnn⟩
        obtain ⟨oo, es, ep, ho, hdd, _⟩ := hns
        rw [z, e0] at ho
        cases ho
        cases hdd
      · exact q2 _ _ k3 hS3 rfl (allBare_setGen (s := s2.setGen g gs') (allBare_setGen I2.bare hb) rfl)
    · intro _
      exact wpAny_pure (fin hp hk)
/-- what the reading of tuple(..) asks of the walk -/
def RT (g : TG) (tt : TT) (te : TE) (vs : List Nat) (σ : L2.St) (Qt : List V → Hp → Prop) : It → Hp → Prop := fun J H2 =>
  ∃ W : Nat → Nat → List V → Hp → Prop, (∃ m, W 0 m [] H2) ∧ ∀ i m ys H', W i m ys H' → StepT J g tt te vs σ Qt W i m ys H'
theorem collect_made {scope : Scope} {elt tg iter : Expr} {ifs : List Expr} {gpos : Pos} {vs : List Nat} {g : TG} {tt : TT} {te : TE} {Qt : List V → Hp → Prop} {a it : Addr} {s5 s4 : Shared} {fp : List Addr} {tn : Nat → Heap → Prop} {J : It} {cenv : Env} {H3 : Hp} {go : Obj} {gi : Nat} {A : Around} {E : Value → Shared → Prop} {Q : List Value → Shared → Prop}
    (hc : X.calm = true) (Pt : Parts X pins σ scope elt tg iter ifs gpos vs g tt te (RT g tt te vs σ Qt) a s5 it fp tn J cenv s4 H3 go gi) (N : Near X A.in1.in1) (hd : A.depth < recursionLimit) (bare : AllBare s5.gens)
    (hQ : ∀ pn σ' H' s' ys acc, Inv (gctx X (A.in1.in1.deeper cenv) s4 H3 scope cenv fp) pn σ' H' s' → Vals ys acc → Qt ys H' → Q acc s') : wpAny (model X.prog X.w) A (collect (.ref a)) Q E s5 := by
  have hSa : s5.heap.objs.size ≠ a := Nat.ne_of_gt Pt.al
  obtain ⟨W, ⟨m0, w0⟩, turn⟩ := Pt.read
  unfold collect
  refine wpAny_bind (wpAny_runValue (codeAny_builtin F.entry_proto_collect ?_))
  rw [Around.under_plainId F.plain_proto_collect _]
  show wpAny _ A.in1 (newList [] >>= fun l => again (.builtin "list.__iadd__" ⟨[l, .ref a], []⟩)) _ _ s5
  refine wpAny_bind (wpAny_newObj_type ?_)
  refine wpAny_pure ⟨plainId_quiet F.plain_list_iadd _, codeAny_builtin F.entry_list_iadd ?_⟩
  rw [Around.under_plainId F.plain_list_iadd _]
  have k1 : ∀ b o, s5.heap.get? b = some o → (s5.heap.push { cls := .type "list", data := .seq ([] : List Value).toArray }).get? b = some o := fun b o e => Heap.get?_push_of_some _ e
  have hS1 : (s5.heap.push { cls := .type "list", data := .seq ([] : List Value).toArray }).get? s5.heap.objs.size = some { cls := .type "list", data := .seq ([] : List Value).toArray } := Heap.get?_push_size _ rfl
  have gty : ({ s5 with heap := s5.heap.push { cls := .type "list", data := .seq ([] : List Value).toArray } } : Shared).TypeIs (.ref a) "generator" := Heap.IsGen.typeIs (s := { s5 with heap := s5.heap.push { cls := .type "list", data := .seq ([] : List Value).toArray } }) (Pt.isg.keeps k1)
  show wpAny _ A.in1 (Builtin.List.listExtendWith (.ref s5.heap.objs.size) (.ref a) (.ref s5.heap.objs.size)) _ _ _
  unfold Builtin.List.listExtendWith
  refine wpAny_bind (wpAny_typeOf gty ?_)
  have h1 : Builtin.List.listSameRef (.ref s5.heap.objs.size) (.ref a) = false := by simp [Builtin.List.listSameRef, hSa]
  rw [if_neg (by rw [h1]; decide)]
  refine wpAny_bind (wpAny_pyIter_gen (s := { s5 with heap := s5.heap.push { cls := .type "list", data := .seq ([] : List Value).toArray } }) (Pt.isg.keeps k1) ?_)
  refine wpAny_bind (wpAny_holding ?_)
  unfold Builtin.List.listLengthHint
  refine wpAny_bind (wpAny_specialOf gty F.gen_no_len ?_)
  show wpAny _ A.in1 (specialOf (Value.ref a) (Str.ofString "__length_hint__") >>= _) _ _ _
  refine wpAny_bind (wpAny_specialOf gty F.gen_no_hint (wpAny_pure ?_))
  show wpAny _ A.in1 (rule "list.extend.makes-room" >>= fun _ => Builtin.List.listTouch (.ref s5.heap.objs.size) >>= fun _ => again (.builtin "list.extend.loop" ⟨[.ref s5.heap.objs.size, .ref a, .ref s5.heap.objs.size], []⟩)) _ _ _
  refine wpAny_bind (wpAny_rule (wpAny_bind ?_))
  show wpAny _ A.in1 (updateSeq s5.heap.objs.size (·.push .none) >>= fun _ => updateSeq s5.heap.objs.size (·.pop)) _ _ _
  refine wpAny_bind (wpAny_updateSeq hS1 rfl ?_)
  have hS2 := Heap.get?_update_self (Obj.mapSeq (·.push Value.none)) hS1 rfl
  refine wpAny_updateSeq hS2 rfl ?_
  have hS3 := Heap.get?_update_self (Obj.mapSeq (·.pop)) hS2 rfl
  have k3 : ∀ b o, s5.heap.get? b = some o → (((s5.heap.push { cls := .type "list", data := .seq ([] : List Value).toArray }).update s5.heap.objs.size (Obj.mapSeq (·.push Value.none))).update s5.heap.objs.size (Obj.mapSeq (·.pop))).get? b = some o := fun b o e =>
    have ne : s5.heap.objs.size ≠ b := Nat.ne_of_gt (Heap.lt_size e)
    (Heap.get?_update_other _ _ ne).trans ((Heap.get?_update_other _ _ ne).trans (k1 b o e))
  refine wpAny_pure ⟨plainId_quiet F.plain_extend_loop _, ?_⟩
  generalize ((s5.heap.push { cls := .type "list", data := .seq ([] : List Value).toArray }).update s5.heap.objs.size (Obj.mapSeq (·.push Value.none))).update s5.heap.objs.size (Obj.mapSeq (·.pop)) = h6 at hS3 k3 ⊢
  have hS6 : ∃ c, h6.get? s5.heap.objs.size = some (lo #[] c) := ⟨_, hS3⟩
  obtain ⟨c6, hS6⟩ := hS6
  have I5 := Pt.inv A.in1.in1 N
  have zS : s4.heap.objs.size ≤ s5.heap.objs.size := Pt.old
  have I6 : ∀ g' : Array GenState, AllBare g' → Inv (gctx X (A.in1.in1.deeper cenv) s4 H3 scope cenv fp) ([(a, go)] ++ [(s5.heap.objs.size, lo #[] c6)]) (wipe σ vs) H3 { s5 with heap := h6, gens := g' } := fun g' hg' => by
    have I7 : Inv (gctx X (A.in1.in1.deeper cenv) s4 H3 scope cenv fp) [(a, go)] (wipe σ vs) H3 { s5 with heap := h6, gens := g' } := inv_heap (I5.kept (t' := s5.toks) k3) rfl rfl hg'
    refine I7.pins_of fun p hp => ?_
    rcases List.mem_append.mp hp with z | z
    · exact I7.pin p (List.mem_append_right _ z)
    · rw [List.mem_singleton.mp z]
      refine ⟨hS6, I5.hok.fresh (Nat.le_refl _), ?_, fun z => ?_, fun v z => by cases z⟩
      · show s5.heap.objs.size ≠ cenv.locals
        rw [Pt.loc]
        have := Pt.az
        have := Pt.al
        exact Nat.ne_of_gt (Nat.lt_trans Pt.az Pt.al)
      · exact absurd (Pt.stk _ z) (Nat.not_lt.mpr zS)
  refine extend_walk (A := A) (Y := gctx X (A.in1.in1.deeper cenv) s4 H3 scope cenv fp) (pn := [(a, go)]) (Qt := Qt) (go := go) (g := gi) N.hd hd (List.mem_singleton.mpr rfl) Pt.gen hSa (fun σ' H' s' ys acc c I' v' q => ?_) (m0 + 1) { s5 with heap := h6 } _ (Pt.isg.keeps k3) (Pt.lim.keeps k3) Pt.gs ⟨rfl, ?_⟩
  · show wpAny _ A (load s5.heap.objs.size >>= _) _ _ s'
    have pS := (I'.pin (s5.heap.objs.size, lo acc c) (List.mem_append_right _ (List.mem_append_right _ (List.mem_singleton.mpr rfl)))).1
    refine wpAny_bind (wpAny_load pS ?_)
    exact wpAny_pure (hQ _ σ' H' s' ys acc.toList I' v' q)
  · have t6 : tn 0 h6 := Pt.T.keep _ _ _ Pt.t0 fun b _ o e => k3 b o e
    refine seg_first (fun A Q E hq => Pt.T.self A 0 _ Q E t6 hq) ?_
    refine seg_turnsT (S := s5.heap.objs.size) hc Pt.hco (fun p hp z => ?_) (fun z => ?_) zS ?_ (fun x c e z => ?_) (fun p hp => ?_) (fun z => ?_) Pt.T (Pt.pg _ N) (Pt.pt _ N) (Pt.pe _ N) turn m0 (m0 + 1) (Nat.lt_succ_self _) 0 _ _ H3 [] #[] c6 (I6 _ (allBare_setGen (s := { s5 with heap := h6 }) bare rfl)) .nil t6 Pt.f0 w0
    · rw [List.mem_singleton.mp hp] at z
      exact absurd (Pt.out _ z) (Nat.not_lt.mpr (Nat.le_of_lt Pt.az))
    · exact absurd (Pt.out _ z) (Nat.not_lt.mpr zS)
    · rw [Pt.loc]
      exact Nat.ne_of_gt (Nat.lt_trans Pt.az Pt.al)
    · have := Pt.cel x c e
      rw [z] at this
      exact absurd this (Nat.not_lt.mpr zS)
    · rw [List.mem_singleton.mp hp]
      exact Ne.symm hSa
    · exact absurd (Pt.stk _ z) (Nat.not_lt.mpr zS)
theorem code_tuple_made {scope : Scope} {elt tg iter : Expr} {ifs : List Expr} {gpos : Pos} {vs : List Nat} {g : TG} {tt : TT} {te : TE} {Qt : List V → Hp → Prop} {a it : Addr} {s5 s4 : Shared} {fp : List Addr} {tn : Nat → Heap → Prop} {J : It} {cenv : Env} {H3 : Hp} {go : Obj} {gi : Nat} {A : Around} {E : Value → Shared → Prop} {Q1 : Value → Shared → Prop}
    (hc : X.calm = true) (Pt : Parts X pins σ scope elt tg iter ifs gpos vs g tt te (RT g tt te vs σ Qt) a s5 it fp tn J cenv s4 H3 go gi) (N : Near X A.in1.in1.in1) (hd : A.depth < recursionLimit) (bare : AllBare s5.gens)
    (hQ : ∀ pn σ' H' s' ys acc, Inv (gctx X (A.in1.in1.in1.deeper cenv) s4 H3 scope cenv fp) pn σ' H' s' → Vals ys acc → Qt ys H' → acc.toArray.size ≤ sizeLine ∧ Q1 (.ref s'.heap.objs.size) { s' with heap := s'.heap.push { cls := .type "tuple", data := .seq acc.toArray } }) :
    codeAny (model X.prog X.w) A (.call (.builtin "tuple.__new__") ⟨[.type "tuple", .ref a], []⟩) (wants Q1 E) s5 := by
  refine codeAny_of_tree ?_
  show wpAny _ A.in1 (do checkBuiltinCall "tuple.__new__" ⟨[.type "tuple", .ref a], []⟩; again (.builtin "tuple.__new__" ⟨[.type "tuple", .ref a], []⟩)) _ _ s5
  refine wpAny_bind (wpAny_of_eq (F.newCall_tuple_1 _) (wpAny_pure ⟨plainId_quiet F.plain_tuple_new _, codeAny_builtin F.entry_tuple_new ?_⟩))
  rw [Around.under_plainId F.plain_tuple_new _]
  have hsub := sub_tuple_self
  have hinit := init_tuple_lookup
  have hmh := madeHere_tuple
  have hTI : s5.TypeIs (.ref a) "generator" := Pt.isg.typeIs
  wp_walk using wpAny_typeOf hTI, collect_made (A := A.in1) hc Pt N hd bare
  intro pn σ' H' s' ys acc I' v' q
  obtain ⟨hz, h1⟩ := hQ pn σ' H' s' ys acc I' v' q
  show wpAny _ _ (Builtin.Tuple.tupleExact acc.toArray >>= fun v => ret v) _ _ _
  unfold Builtin.Tuple.tupleExact
  refine wpAny_bind (wpAny_newObj_type ?_ hz)
  exact wpAny_pure h1
/-- tuple(elt for tg in iter if ..) -/
def tTG (P : Addr) (wi : TI) (g : TG) (tt : TT) (te : TE) (vs : List Nat) : TE := fun σ H Q => wi σ H fun J H1 => GxR.TabG H1 P ∧ ∀ H2, GxR.Tabbed P H1 H2 →
  RT g tt te vs σ (fun ys H' => ys.length ≤ sizeLine ∧ ∀ q, H' q = none → Q (.ref q) (upd H' q (.tup ys))) J H2
theorem pe_tupleG {c P : Addr} {elt tg iter : Expr} {ifs : List Expr} {p pos gpos : Pos} {scope : Scope} {own : List (Str × Nat)} {wi : TI} {g : TG} {tt : TT} {te : TE} {k : Nat}
    (hc : X.calm = true) (hN : X.N.Nodup) (hr : Room (k + 1) X.A) (hgl : Gl X "tuple") (hm : X.mg "tuple" = none) (TB : GxR.TabB X.base X.mg c P) (hcode : X.env.code = .ref c) (S : GSc X.N X.env.scope scope own) (hi : PI X tg iter wi)
    (hg : ∀ (A : Around) (s : Shared) (H : Hp) (C : Addr) (code : Value) (fp : List Addr), Room k A → PG (gctx X A s H scope (genEnv scope (cloFrom X.env.cells scope.names []) C code builtinsNs X.env) fp) tg g)
    (ht : ∀ (A : Around) (s : Shared) (H : Hp) (C : Addr) (code : Value) (fp : List Addr), Room k A → PTs (gctx X A s H scope (genEnv scope (cloFrom X.env.cells scope.names []) C code builtinsNs X.env) fp) ifs tt)
    (he : ∀ (A : Around) (s : Shared) (H : Hp) (C : Addr) (code : Value) (fp : List Addr), Room k A → PE (gctx X A s H scope (genEnv scope (cloFrom X.env.cells scope.names []) C code builtinsNs X.env) fp) elt te)
    (hs : ∀ v, genFold iter X.env v = pure v := by intro _; rfl) (hb : bootBuiltins "tuple" = some (.type "tuple") := by decide +kernel)
    (hse : starEach [.GeneratorExp elt [⟨tg, iter, ifs, 0⟩] scope gpos] X.env = (false, eval (.GeneratorExp elt [⟨tg, iter, ifs, 0⟩] scope gpos) X.env) :: starEach [] X.env := by rfl) :
    PE X (.Call (.Name "tuple" p) [.GeneratorExp elt [⟨tg, iter, ifs, 0⟩] scope gpos] [] pos) (tTG P wi g tt te (own.map (·.2))) := by
  refine ⟨fun pins s σ H Q I h => ?_⟩
  refine Call_ (ld_blt I hgl hm hb (PyProof.Rows.callWith_type1 (args_cons (thn (gen_parts hc hN hr TB hcode S hi hg ht he hs I h) fun u s5 hu => args_nil ?_) hse) hse rfl))
  obtain ⟨a, it, fp, tn, J, cenv, s4, H3, go, gi, rfl, Pt⟩ := hu
  have N : Near X X.A.in1.in1.in1.in1 := ⟨hr.hd, rfl, rfl, by show X.A.units + 1 + 1 + 1 + 1 ≤ X.A.units + 8; omega⟩
  have bare := (Pt.inv _ N).bare
  refine callType_codes (Q₁ := fun obj s1 => s1.TypeIs obj "tuple" ∧ EP X pins σ Q obj s1) F.called_tuple (F.typeCall_tuple_1 _) F.entry_object_init
    (code_tuple_made (A := X.A.in1) hc Pt N (by have := hr.dp; show X.A.depth < _; omega) bare fun pn σ' H' s' ys acc I' v' q => ?_) fun obj s1 h1 => ?_
  · have I2 := Pt.back _ pn σ' H' s' I'
    have el : ys.length = acc.length := v'.length
    refine ⟨by rw [List.size_toArray, ← el]; exact q.1, ⟨_, Heap.get?_push_size _ rfl, rfl⟩, .ref s'.heap.objs.size, upd H' s'.heap.objs.size (.tup ys), ?_, rfl, q.2 _ (I2.hok.fresh (Nat.le_refl _))⟩
    exact I2.laid (t' := s'.toks) (fun c o e => Heap.get?_push_of_some _ e) (Nat.le_refl _) (show ObjOk X.prog X.w _ _ _ (.tup ys) from ⟨q.1, acc, v', IsTup.new _ _⟩)
  · exact ⟨h1.1, F.args_object_init_2 obj _, object_init_meets F.called_tuple.init.lookup F.called_tuple.made (by decide) X.prog X.w X.A.in1 _ s1 ⟨h1.1, rfl, h1.2⟩⟩
end
section
variable {J : It} {n : Nat} {G : Hp → Prop} {Y : Nat → Hp → V → Hp → Prop}
theorem tg_it (w : Walk J n G Y) {g : TG} {tt : TT} {te : TE} {vs : List Nat} {σ : L2.St} {H2 : Hp} {Qt : List V → Hp → Prop} (Pv : Nat → List V → Hp → Prop) (h0 : Pv 0 [] H2) (hG : ∀ i ys H, i ≤ n → Pv i ys H → G H)
    (hs : ∀ i x ys H H', i < n → Pv i ys H → Y i H x H' → g x (wipe σ vs) H' fun σ2 H2 => wipe σ2 vs = wipe σ vs ∧ tt σ2 H2 fun b H3 =>
      if b = true then te σ2 H3 fun y H4 => ys.length < sizeLine ∧ Pv (i + 1) (ys ++ [y]) H4 else Pv (i + 1) ys H3) (hd : ∀ ys H, Pv n ys H → Qt ys H) : RT g tt te vs σ Qt J H2 := by
  refine ⟨fun i m ys H => m = n - i ∧ i ≤ n ∧ Pv i ys H, ⟨n, by simp, Nat.zero_le _, h0⟩, ?_⟩
  rintro i m ys H ⟨rfl, hi, p⟩
  have q := hG i ys H hi p
  by_cases hlt : i < n
  · exact .inr ⟨w.goes i H hlt q, Pv (i + 1), fun zs H' p' => ⟨n - (i + 1), by omega, rfl, hlt, p'⟩, fun x H' y => hs i x ys H H' hlt p (w.yields i H x H' hlt q y)⟩
  · have e : i = n := by omega
    subst e
    exact .inl ⟨w.stops H q, hd ys H p⟩
end
end GE

set_option Elab.async false
set_option linter.all false
set_option maxRecDepth 100000
set_option maxHeartbeats 2000000
/-! Pages shown and compared as data. -/
namespace My
open PySem PySem.Spec PyProof.Rows L2 PySem.SeqAt PySem.W
mutual
theorem alike_self : ∀ k : NestedKey, alike k.data k.data = true
  | .none => by rw [NestedKey.data, alike]
  | .num _ => by rw [NestedKey.data, alike]
  | .text _ => by rw [NestedKey.data, alike]
  | .tup ks => by rw [NestedKey.data, alike]; exact alike_selves ks
theorem alike_selves : ∀ ks : List NestedKey, alikeAll (NestedKey.datas ks) (NestedKey.datas ks) = true
  | [] => by rw [NestedKey.datas, alikeAll]
  | k :: ks => by rw [NestedKey.datas, alikeAll, alike_self k, alike_selves ks]; rfl
end
theorem eqv_list_self (ks : List NestedKey) : PyData.eqv (.list (NestedKey.datas ks)) (.list (NestedKey.datas ks)) = true := eqv_refl_alike _ (by rw [alike]; exact alike_selves ks)
/-- what is known of a thing that is shown and compared -/
structure Fine (d : PyData) (c : Nat) : Prop where
  sh : GU.Sh d
  cost : GU.cost d ≤ c
  lay : d.canLay0 = true
  deep : d.depth ≤ 3
structure FineAll (ds : List PyData) (c : Nat) : Prop where
  sh : GU.ShAll ds
  cost : GU.costAll ds ≤ c
  lay : PyData.canLayAll0 ds = true
  deep : PyData.depthAll ds ≤ 3
theorem FineAll.nil : FineAll [] 0 := ⟨trivial, Nat.le_refl _, by rw [PyData.canLayAll0], by rw [PyData.depthAll]; omega⟩
theorem FineAll.cons {d : PyData} {ds : List PyData} {a b : Nat} (h : Fine d a) (t : FineAll ds b) : FineAll (d :: ds) (a + 2 + b) := by
  refine ⟨⟨h.sh, t.sh⟩, ?_, by rw [PyData.canLayAll0, h.lay, t.lay]; rfl, ?_⟩
  · rw [GU.costAll]
    have := h.cost
    have := t.cost
    omega
  · rw [PyData.depthAll]
    have := h.deep
    have := t.deep
    omega
theorem Fine.mono {d : PyData} {a b : Nat} (h : Fine d a) (le : a ≤ b) : Fine d b := ⟨h.sh, Nat.le_trans h.cost le, h.lay, h.deep⟩
theorem fine_text {z : Str} (h : Plain z) : Fine (.str z) 1004 := by
  refine ⟨fun c hc => Nat.lt_of_lt_of_le (h.2 c hc) (by decide), ?_, ?_, by rw [PyData.depth]; omega⟩
  · have := h.1
    rw [GU.cost]
    omega
  · rw [PyData.canLay0]
    unfold PyData.strOk
    rw [← Array.all_toList]
    refine List.all_eq_true.mpr fun c hc => ?_
    have := h.2 c hc
    simp
    omega
theorem fine_int {i : Int} (h0 : -1000000 < i) (h1 : i < 1000000) : Fine (.int i) 1921 := ⟨small_nat h0 h1, by rw [GU.cost]; omega, by rw [PyData.canLay0], by rw [PyData.depth]; omega⟩
theorem fine_home {ws : List Int} (h : HomeW ws) : Fine (NestedKey.tup (ws.map .num)).data 14000 := by
  have key : ∀ {ws : List Int}, (∀ w ∈ ws, 0 ≤ w ∧ w < 7) → FineAll (NestedKey.datas (ws.map .num)) (1923 * ws.length) ∧ PyData.depthAll (NestedKey.datas (ws.map .num)) = 0 := by
    intro ws
    induction ws with
    | nil => intro _; exact ⟨by rw [List.map_nil, NestedKey.datas]; exact .nil, by rw [List.map_nil, NestedKey.datas, PyData.depthAll]⟩
    | cons a l ih =>
      intro h
      have ha := h a (.head _)
      obtain ⟨i1, i2⟩ := ih fun w hw => h w (.tail _ hw)
      rw [List.map_cons, NestedKey.datas, NestedKey.data]
      refine ⟨?_, by rw [PyData.depthAll, i2, PyData.depth]; rfl⟩
      have := FineAll.cons (fine_int (i := a) (by omega) (by omega)) i1
      rw [List.length_cons]
      exact ⟨this.sh, by have := this.cost; omega, this.lay, this.deep⟩
  obtain ⟨k, kd⟩ := key h.2
  have := h.1
  rw [NestedKey.data]
  refine ⟨k.sh, ?_, by rw [PyData.canLay0]; exact k.lay, by rw [PyData.depth, kd]; omega⟩
  rw [GU.cost]
  have := k.cost
  omega
theorem plain_kind {z : Str} {r : List NestedKey} (h : Rest z r) : Plain z := by
  cases h <;> exact ⟨by decide +kernel, by decide +kernel⟩
theorem fine_rest {z : Str} {r : List NestedKey} (h : Rest z r) : FineAll (NestedKey.datas r) 17000 ∧ PyData.depthAll (NestedKey.datas r) ≤ 1 := by
  have one : ∀ {ws : List Int}, (NestedKey.tup (ws.map .num)).data.depth ≤ 1 := fun {ws} => by
    have : ∀ ws : List Int, PyData.depthAll (NestedKey.datas (ws.map .num)) = 0 := fun ws => by
      induction ws with
      | nil => rw [List.map_nil, NestedKey.datas, PyData.depthAll]
      | cons a l ih => rw [List.map_cons, NestedKey.datas, NestedKey.data, PyData.depthAll, ih, PyData.depth]; rfl
    rw [NestedKey.data, PyData.depth, this]
    omega
  have up : ∀ {ds : List PyData} {c : Nat}, FineAll ds c → c ≤ 17000 → FineAll ds 17000 := fun h le => ⟨h.sh, Nat.le_trans h.cost le, h.lay, h.deep⟩
  have txt : ∀ x : Str, (NestedKey.text x).data = .str x := fun x => by rw [NestedKey.data]
  have num : ∀ x : Int, (NestedKey.num x).data = .int x := fun x => by rw [NestedKey.data]
  cases h <;> simp only [NestedKey.datas, txt, num]
  case house a b => exact ⟨up (.cons (fine_text a) (.cons (fine_home b) .nil)) (by decide), by simp only [PyData.depthAll, PyData.depth]; refine Nat.max_le.mpr ⟨Nat.zero_le _, ?_⟩; first | exact Nat.max_le.mpr ⟨one, Nat.zero_le _⟩ | exact Nat.max_le.mpr ⟨Nat.zero_le _, Nat.max_le.mpr ⟨one, Nat.zero_le _⟩⟩⟩
  case home a b => exact ⟨up (.cons (fine_text a) (.cons (fine_home b) .nil)) (by decide), by simp only [PyData.depthAll, PyData.depth]; refine Nat.max_le.mpr ⟨Nat.zero_le _, ?_⟩; first | exact Nat.max_le.mpr ⟨one, Nat.zero_le _⟩ | exact Nat.max_le.mpr ⟨Nat.zero_le _, Nat.max_le.mpr ⟨one, Nat.zero_le _⟩⟩⟩
  case part a b c => exact ⟨up (.cons (fine_text a) (.cons (fine_text b) (.cons (fine_home c) .nil))) (by decide), by simp only [PyData.depthAll, PyData.depth]; refine Nat.max_le.mpr ⟨Nat.zero_le _, ?_⟩; first | exact Nat.max_le.mpr ⟨one, Nat.zero_le _⟩ | exact Nat.max_le.mpr ⟨Nat.zero_le _, Nat.max_le.mpr ⟨one, Nat.zero_le _⟩⟩⟩
  case mourn a b c => exact ⟨up (.cons (fine_text a) (.cons (fine_int (by omega) (by omega)) .nil)) (by decide), by simp only [PyData.depthAll, PyData.depth]; omega⟩
  case join a b => exact ⟨up (.cons (fine_text a) (.cons (fine_text b) .nil)) (by decide), by simp only [PyData.depthAll, PyData.depth]; omega⟩
  case ahead a b => exact ⟨up (.cons (fine_text a) (.cons (fine_text b) .nil)) (by decide), by simp only [PyData.depthAll, PyData.depth]; omega⟩
  case card a b => exact ⟨up (.cons (fine_text a) (.cons (fine_text b) .nil)) (by decide), by simp only [PyData.depthAll, PyData.depth]; omega⟩
  case visit a b => exact ⟨up (.cons (fine_text a) (.cons (fine_text b) .nil)) (by decide), by simp only [PyData.depthAll, PyData.depth]; omega⟩
theorem fine_page {k : NestedKey} (h : PgK k) : Fine k.data 20000 ∧ k.data.depth ≤ 2 := by
  obtain ⟨z, d, r, rfl, hr, d0, d1⟩ := h
  obtain ⟨f, fd⟩ := fine_rest hr
  have t := FineAll.cons (fine_text (plain_kind hr)) (FineAll.cons (fine_int (i := d) (by omega) (by omega)) f)
  have e : (NestedKey.tup (.text z :: .num d :: r)).data = .tuple (.str z :: .int d :: NestedKey.datas r) := by
    rw [NestedKey.data, NestedKey.datas, NestedKey.datas, NestedKey.data, NestedKey.data]
  have dp : (PyData.tuple (.str z :: .int d :: NestedKey.datas r)).depth ≤ 2 := by
    rw [PyData.depth, PyData.depthAll, PyData.depthAll, PyData.depth, PyData.depth]
    omega
  rw [e]
  refine ⟨⟨t.sh, ?_, by rw [PyData.canLay0]; exact t.lay, Nat.le_trans dp (by decide)⟩, dp⟩
  rw [GU.cost]
  have := t.cost
  omega
theorem fine_pages : ∀ {ks : List NestedKey}, (∀ k ∈ ks, PgK k) → FineAll (NestedKey.datas ks) (20002 * ks.length) ∧ PyData.depthAll (NestedKey.datas ks) ≤ 2
  | [], _ => ⟨by rw [NestedKey.datas]; exact .nil, by rw [NestedKey.datas, PyData.depthAll]; omega⟩
  | k :: ks, h => by
    obtain ⟨a, b⟩ := fine_page (h k (.head _))
    obtain ⟨c, d⟩ := fine_pages fun y hy => h y (.tail _ hy)
    have t := FineAll.cons a c
    rw [NestedKey.datas]
    refine ⟨⟨t.sh, by have := t.cost; rw [List.length_cons]; omega, t.lay, t.deep⟩, by rw [PyData.depthAll]; omega⟩
theorem shaped_pages {ks : List NestedKey} (h : ∀ k ∈ ks, PgK k) : SeqAt.shaped (.list (NestedKey.datas ks)) = true := by
  obtain ⟨f, fd⟩ := fine_pages h
  unfold SeqAt.shaped
  rw [Bool.and_eq_true, PyData.canLay0, PyData.depth]
  exact ⟨f.lay, decide_eq_true (by omega)⟩
theorem eqv_nil (ks : List NestedKey) : PyData.eqv (.list (NestedKey.datas ks)) (.list []) = ks.isEmpty := by
  cases ks with
  | nil => simp [NestedKey.datas, PyData.eqv, PyData.eqvAll]
  | cons k ks => simp [NestedKey.datas, PyData.eqv, PyData.eqvAll]
theorem repr_pages {ks : List NestedKey} (h : ∀ k ∈ ks, PgK k) (n : ks.length ≤ 200) : GU.Sh (.tuple (NestedKey.datas ks)) ∧ (PyData.tuple (NestedKey.datas ks)).depth ≤ 50 ∧ GU.cost (.tuple (NestedKey.datas ks)) ≤ sizeLine := by
  obtain ⟨f, fd⟩ := fine_pages h
  refine ⟨f.sh, by rw [PyData.depth]; omega, ?_⟩
  rw [GU.cost]
  have := f.cost
  have : GU.costAll (NestedKey.datas ks) + 3 ≤ 4000403 := by omega
  exact Nat.le_trans this (by decide)
end My

set_option Elab.async false
set_option linter.all false
set_option maxRecDepth 100000
set_option maxHeartbeats 2000000
/-! Errors of the program's own that carry fields: a def with generator expressions that may raise one; isinstance of a caught one where the answer is yes; != of pages. -/
namespace GE
open PySem PySem.Spec PyProof.Rows L2
theorem FunC.okX {P : Program} {w : World} {K : PySem.W.Frag} {mg : Str → Option Value} {base : Heap} {x qual : Str} {st : Stmt} {f : Addr} {fd : FuncData} {c : Addr} {N ps : List Str} {k : Nat} {sp : Sp} (F : FunC K x qual st f fd c) (S : FnScope N ps (defScope st))
    (len : ∀ vs H Q E, sp vs H Q E → vs.length = ps.length)
    (body : ∀ (A : Around) (outer : List Env) (s : Shared) (H : Hp) (vs : List V) (Q : VK) (E : XK), Room k (A.deeper (envOfC qual (defScope st) s.heap.objs.size f (.ref c))) → sp vs H Q E →
      ∃ t, PSs (cxOf (L2.CX P w) P w K mg base N qual (defScope st) f (.ref c) A outer s H E) (defBody st) t ∧ t { nx := fun _ H' => Q .non H', rt := Q } (start N vs) H) : FnOk P w K mg base (L2.CX P w) (k + 1) f fd ps sp := by
  obtain ⟨oc, od, kV, doc, pm, an, ct, osl, rfl, lk, hcd⟩ := F.ex
  exact fn_of lk hcd S len fun A outer s H vs Q E hr h => body A outer s H vs Q E hr h
end GE
namespace My
open PySem PySem.Spec PyProof.Rows L2 PySem.W
section
variable {prog : Program} {w : World} {A : Around} {E : Value → Shared → Prop} {s : Shared} {Q : Value → Shared → Prop} {K : PySem.W.Frag} {a D : Addr} {oe : Obj} {od : Option Obj} {c : Value}
/-- the class is the thing's own, or one above it: so no look at the thing's own attribute is taken -/
theorem yes_ans (e : PySem.W.kitOne K (.ref D) c = some true) : Answers (fun s => K.In s.heap ∧ PySem.W.InstAt s.heap a oe D od) (.ref a) c true := by
  intro dep tk prog w A R s hs
  obtain ⟨h0, g0, d0, t0, o0⟩ := s
  obtain ⟨⟨kin, inst⟩, fin⟩ := hs
  have own := inst.type (M := model prog w)
  unfold Builtin.«isinstance.nested»
  refine wpAny_bind (own.at ?_)
  unfold PySem.W.kitOne at e
  by_cases same : (Value.ref D == c) = true
  · rw [if_pos same]
    first
      | exact wpAny_bind (wpAny_rule (fin t0))
      | exact wpAny_bind (wpAny_rule (wpAny_pure (fin t0)))
      | ((repeat lk); exact fin t0)
  · rw [if_neg same] at e
    rw [if_neg same]
    obtain ⟨l1, l2, l3⟩ := PySem.W.kit_cls (M := model prog w) kin e
    have above : Looks (model prog w) h0 (isInstance (.ref a) c) true := own.andThen l3
    refine wpAny_bind (l1.at ?_)
    rw [if_pos (by decide)]
    k_delta "plainIsInstance"
    refine wpAny_bind (wpAny_bind (l2.at ?_))
    rw [if_neg (by decide)]
    refine wpAny_bind (above.at ?_)
    first
      | exact wpAny_pure (wpAny_pure (fin t0))
      | (rw [if_pos rfl]; first | exact wpAny_pure (wpAny_pure (fin t0)) | exact wpAny_pure (fin t0) | exact wpAny_bind (wpAny_pure (wpAny_pure (fin t0))))
theorem is_yes (kin : K.In s.heap) (inst : PySem.W.InstAt s.heap a oe D od) (e : PySem.W.kitOne K (.ref D) c = some true) (h : ∀ tk, Q (.bool true) { s with toks := tk }) : wpAny (model prog w) A (call (.builtin "isinstance") [.ref a, c]) Q E s :=
  PySem.call_isinstance (S := fun _ R s => (K.In s.heap ∧ PySem.W.InstAt s.heap a oe D od) ∧ ∀ tk, R (.ok (.ret (.bool true))) { s with toks := tk })
    (fun prog w A R s hs => PySem.isinstance_outer (yes_ans e 0 _ prog w A R s hs) (fun z => nomatch z)) ⟨⟨kin, inst⟩, h⟩
end
/-- isinstance(e, c), e the error that the suite holds, with fields in its dict -/
def rIsY (K : PySem.W.Frag) (D a : Addr) (cls : Value) (d : Option Addr) : List V → Hp → VK → Prop := fun xs H Q => ∃ (c : V) (cv : Value) (dd : Addr) (fs : List (Str × V)), xs = [.ref a, c] ∧ (∀ u, RelV c u → u = cv) ∧ PySem.W.kitOne K (.ref D) cv = some true ∧ cls = .ref D ∧ d = some dd ∧ H dd = some (.xd fs) ∧ Q (.bl true) H
theorem call_isY {X : Cx} {a D : Addr} {oe : Obj} {d : Option Addr} {cls : Value} {pn : List (Addr × Obj)} (hz : Zc cls d oe) (hf : ∃ vs, oe.data = .fields vs) : CallR (X.suite a ((a, oe) :: pn)) (.builtin "isinstance") (rIsY X.K D a cls d) := by
  intro pins s σ H xs us Q I r h
  obtain ⟨c, cv, dd, fs, rfl, hcv, e, hc, ed, hdd, q⟩ := h
  obtain ⟨u0, u1, rfl, r0, r1⟩ : ∃ u0 u1, us = [u0, u1] ∧ RelV (.ref a) u0 ∧ RelV c u1 := by
    cases r with
    | cons r0 r =>
      cases r with
      | cons r1 r =>
        cases r
        exact ⟨_, _, rfl, r0, r1⟩
  obtain rfl : u0 = Value.ref a := r0
  obtain rfl := hcv _ r1
  subst hc ed
  obtain ⟨here, _⟩ := I.pin (a, oe) (List.mem_append_left _ List.mem_cons_self)
  obtain ⟨vs, hv⟩ := hf
  have hx : ObjOk X.prog X.w H s.heap dd (.xd fs) := I.hok dd _ hdd
  obtain ⟨mA, hns, _⟩ := hx
  obtain ⟨od, ho, _⟩ := lookIn_ns hns
  have inst : PySem.W.InstAt s.heap a oe D (some od) := ⟨here, hz.1, by unfold PySem.W.notCls; rw [hv] <;> rfl, by rw [hz.2]; exact ho⟩
  exact is_yes I.kIn inst e fun tk => ⟨.bl true, H, I.kept (t' := tk) fun _ _ z => z, rfl, q⟩
mutual
theorem eqv_key : ∀ k l : NestedKey, PyData.eqv k.data l.data = NestedKey.beq k l
  | .none, l => by cases l <;> simp [NestedKey.data, PyData.eqv, NestedKey.beq]
  | .num a, l => by cases l <;> simp [NestedKey.data, PyData.eqv, NestedKey.beq] <;> (rw [Bool.eq_iff_iff]; simp)
  | .text a, l => by cases l <;> simp [NestedKey.data, PyData.eqv, NestedKey.beq] <;> (rw [Bool.eq_iff_iff]; simp)
  | .tup ks, .none => by simp [NestedKey.data, PyData.eqv, NestedKey.beq]
  | .tup ks, .num _ => by simp [NestedKey.data, PyData.eqv, NestedKey.beq]
  | .tup ks, .text _ => by simp [NestedKey.data, PyData.eqv, NestedKey.beq]
  | .tup ks, .tup ls => by
    rw [NestedKey.data, NestedKey.data, PyData.eqv, NestedKey.beq]
    exact eqv_keys ks ls
theorem eqv_keys : ∀ ks ls : List NestedKey, PyData.eqvAll (NestedKey.datas ks) (NestedKey.datas ls) = NestedKey.beqAll ks ls
  | [], [] => by simp [NestedKey.datas, PyData.eqvAll, NestedKey.beqAll]
  | [], _ :: _ => by simp [NestedKey.datas, PyData.eqvAll, NestedKey.beqAll]
  | _ :: _, [] => by simp [NestedKey.datas, PyData.eqvAll, NestedKey.beqAll]
  | k :: ks, l :: ls => by
    rw [NestedKey.datas, NestedKey.datas, PyData.eqvAll, NestedKey.beqAll, eqv_key k l, eqv_keys ks ls]
end
theorem eqv_dec (k l : NestedKey) : PyData.eqv k.data l.data = decide (k = l) := by rw [eqv_key, NestedKey.decide_eq]
theorem shaped_page {k : NestedKey} (h : PgK k) : SeqAt.shaped k.data = true := by
  obtain ⟨f, fd⟩ := fine_page h
  unfold SeqAt.shaped
  rw [Bool.and_eq_true]
  exact ⟨f.lay, decide_eq_true (by omega)⟩
end My

set_option Elab.async false
set_option linter.all false
set_option maxRecDepth 100000
set_option maxHeartbeats 2000000
/-! xs == [], xs != []: a list of any things against the list of none. -/
namespace My
open PySem PySem.Spec PyProof.Rows L2 PySem.SeqAt
def rEqE (K : PySem.W.Frag) (f : Bool → Bool) : R2 := fun x y H Q => ∃ (p q : Addr) (xs : List V), x = .ref p ∧ y = .ref q ∧ SqL K H p xs ∧ SqL K H q [] ∧ Q (.bl (f xs.isEmpty)) H
section
variable {X : Cx}
theorem op_eqE (hu : X.A.units + 1 < cLine) : OpR X (compareOp .Eq) (rEqE X.K fun b => b) := by
  intro pins s σ H x y v u Q I rx ry h
  obtain ⟨p, q, xs, rfl, rfl, hp, hq, h⟩ := h
  cases (show v = Value.ref p from rx)
  cases (show u = Value.ref q from ry)
  obtain ⟨us, r1, p1, _⟩ := I.list hp
  obtain ⟨ws, r2, p2, _⟩ := I.list hq
  cases r2
  cases r1 with
  | nil => exact RcAt.lists (e := fun _ => true) p1.isList p2.isList rfl (by omega) (fun j h1 _ => absurd h1 (Nat.not_lt_zero j)) X.prog X.w _ _ ⟨.bl true, H, I, rfl, h⟩
  | cons _ _ => exact RcAt.lists_lengths p1.isList p2.isList (by simp) (by omega) X.prog X.w _ _ ⟨.bl false, H, I, rfl, h⟩
theorem op_neE (hu : X.A.units + 1 < cLine) : OpR X (compareOp .NotEq) (rEqE X.K fun b => !b) := by
  intro pins s σ H x y v u Q I rx ry h
  obtain ⟨p, q, xs, rfl, rfl, hp, hq, h⟩ := h
  cases (show v = Value.ref p from rx)
  cases (show u = Value.ref q from ry)
  obtain ⟨us, r1, p1, _⟩ := I.list hp
  obtain ⟨ws, r2, p2, _⟩ := I.list hq
  cases r2
  cases r1 with
  | nil => exact RcNeAt.lists (e := fun _ => true) p1.isList p2.isList rfl (by omega) (fun j h1 _ => absurd h1 (Nat.not_lt_zero j)) X.prog X.w _ _ ⟨.bl false, H, I, rfl, h⟩
  | cons _ _ => exact RcNeAt.lists_lengths p1.isList p2.isList (by simp) (by omega) X.prog X.w _ _ ⟨.bl true, H, I, rfl, h⟩
end
end My

set_option Elab.async false
set_option linter.all false
/-! Rules that name the fragment, for use inside comprehensions (the block's context must not stand in what they ask). -/
namespace My
open PySem PySem.Spec PyProof.Rows L2
def rLenK (K : PySem.W.Frag) : List V → Hp → VK → Prop := fun xs H Q => ∃ p ys, xs = [.ref p] ∧ (SqL K H p ys ∨ SqT K H p ys) ∧ Q (.int ys.length) H
section
variable {X : Cx}
theorem call_lenK : CallR X (.builtin "len") (rLenK X.K) := call_len_seq
variable {o e : Expr} {es : List Expr} {to : TE} {t : TA} {name : Str} {apos cpos : Pos} {T id : String} {r : V → List V → Hp → VK → Prop} {K1 : PySem.W.Frag}
theorem pe_bmK (hK : X.K = K1) (pa : PlainAttrs T) (slot : Slot T name id) (hty : typeOf (.builtin id) = pure (.type "method_descriptor")) (hm : MtR X id r) (ho : PE X o to) (ha : PA X (e :: es) t)
    (hbase : attributeBase o name X.env (eval o X.env) = eval o X.env := by rfl)
    (hfew : ((backTo cpos (starEach (e :: es) X.env)).all (fun x => !x.1) && (backToKw cpos (keywordEach [] X.env)).all (fun x => x.1.isSome)
      && decide ((e :: es).length + ([] : List Keyword).length + (if ([] : List Keyword).isEmpty then 0 else 1) < 30)) = true := by rfl)
    (hline : (apos.endLine == cpos.line) = true := by rfl) (hs : starEach (e :: es) X.env = (false, eval e X.env) :: starEach es X.env := by rfl) (hplain : (backTo cpos (starEach es X.env)).any (·.1) = false := by rfl) :
    PE X (.Call (.Attribute o name apos) (e :: es) [] cpos) (tBM K1 T r to t) := by
  subst hK
  exact pe_bm pa slot hty hm ho ha hbase hfew hline hs hplain
theorem pi_listK {tg : Expr} {te : TE} (hK : X.K = K1) (h : PE X e te) : PI X tg e (iList K1 te) := by
  subst hK
  exact pi_list h
theorem pi_tupK {tg : Expr} {te : TE} (hK : X.K = K1) (h : PE X e te) : PI X tg e (iTup K1 te) := by
  subst hK
  exact pi_tup h
end
end My

set_option Elab.async false
set_option linter.all false
set_option maxRecDepth 100000
set_option maxHeartbeats 2000000
/-! What a set asks of nested tuples: that none of a class of the program's own lies in them, and how their hash is made. -/
namespace My
open PySem PySem.Spec PyProof.Rows L2 PySem.SeqAt
section
variable {P : Program} {w : World} {A : Around} {E : Value → Shared → Prop} {s : Shared}
/-- no object of an own class within -/
def NoCls (P : Program) (w : World) (n : Nat) (s : Shared) (v : Value) : Prop := ∀ (A : Around) (E : Value → Shared → Prop) (Q : Bool → Shared → Prop), Q false s → wpAny (model P w) A (ofAClassStatement n v) Q E s
theorem NoCls.tuple {n : Nat} {a : Addr} {ob : Obj} {vs : Array Value} {m : Nat} (g1 : s.heap.get? a = some ob) (g2 : ob.cls = .type "tuple") (g3 : ob.data = .seq vs m) (al : ∀ v ∈ vs.toList, NoCls P w n s v) : NoCls P w (n + 1) s (.ref a) := by
  intro A E Q q
  unfold ofAClassStatement
  refine wpAny_bind (wpAny_typeOf (T := "tuple") ⟨ob, g1, g2⟩ ?_)
  dsimp only
  rw [if_pos (by decide : (("tuple" : String) == "tuple") = true)]
  refine wpAny_bind (wpAny_pure ?_)
  rw [if_neg (by decide : ¬ (!true) = true)]
  refine wpAny_bind (wpAny_seqItems g1 g3 ?_)
  dsimp only
  refine wpAny_bind (?_ : wpAny _ _ (forIn vs _ _) _ _ s)
  rw [← Array.forIn_toList]
  refine wpAny_forIn_list _ (fun left got now => got.1 = none ∧ now = s ∧ ∀ v ∈ left, NoCls P w n s v) _ (fun v left got now => ?_) (fun got now => ?_) _ _ ⟨rfl, rfl, al⟩
  · rintro ⟨_, rfl, all⟩
    refine wpAny_bind (all v (.head _) _ _ _ ?_)
    rw [if_neg Bool.false_ne_true]
    exact wpAny_pure ⟨rfl, rfl, fun u hu => all u (.tail _ hu)⟩
  · obtain ⟨g, h⟩ := got
    rintro ⟨rfl, rfl, _⟩
    exact wpAny_pure q
mutual
theorem noCls : ∀ (k : NestedKey) (v : Value) (n : Nat) (s : Shared), NestedIs s.heap k v → k.depth ≤ n → NoCls P w n s v
  | .none, _, n, s, x, _ => by cases x; intro A E Q q; cases n <;> exact wpAny_pure q
  | .num _, _, n, s, x, _ => by cases x <;> (intro A E Q q; cases n <;> exact wpAny_pure q)
  | .text _, _, n, s, x, _ => by cases x; intro A E Q q; cases n <;> exact wpAny_pure q
  | .tup ks, _, n, s, x, d => by
    cases x with
    | tup g1 g2 g3 al =>
      rw [NestedKey.depth] at d
      cases n with
      | zero => omega
      | succ n => exact .tuple g1 g2 g3 (noClsAll ks _ n s al (by omega))
theorem noClsAll : ∀ (ks : List NestedKey) (vs : List Value) (n : Nat) (s : Shared), NestedAll s.heap ks vs → NestedKey.depthAll ks ≤ n → ∀ v ∈ vs, NoCls P w n s v
  | [], _, n, s, x, _, v, hv => by cases x; cases hv
  | k :: ks, _, n, s, x, d, v, hv => by
    cases x with
    | cons x1 x2 =>
      rw [NestedKey.depthAll] at d
      rcases List.mem_cons.mp hv with e | hv
      · rw [e]; exact noCls k _ n s x1 (by omega)
      · exact noClsAll ks _ n s x2 (by omega) v hv
end
/-- whether the hash is by value is told, whatever the answer -/
def HashTold (P : Program) (w : World) (n : Nat) (s : Shared) (v : Value) : Prop := ∀ (A : Around) (E : Value → Shared → Prop) (Q : Bool → Shared → Prop), (∀ b, Q b s) → wpAny (model P w) A (hashByValue n v) Q E s
theorem HashTold.tuple {n : Nat} {a : Addr} {ob : Obj} {vs : Array Value} {m : Nat} (g1 : s.heap.get? a = some ob) (g2 : ob.cls = .type "tuple") (g3 : ob.data = .seq vs m) (al : ∀ v ∈ vs.toList, HashTold P w n s v) : HashTold P w (n + 1) s (.ref a) := by
  intro A E Q q
  unfold hashByValue
  refine wpAny_bind (wpAny_specialOf (T := "tuple") ⟨ob, g1, g2⟩ F.slot_tuple_hash.lookup ?_)
  refine (?_ : wpAny _ _ (seqItems? (.ref a) >>= _) _ _ s)
  refine wpAny_bind (wpAny_seqItems g1 g3 ?_)
  refine wpAny_bind (?_ : wpAny _ _ (forIn vs _ _) _ _ s)
  rw [← Array.forIn_toList]
  refine wpAny_forIn_list _ (fun left got now => got.1 = none ∧ now = s ∧ ∀ v ∈ left, HashTold P w n s v) _ (fun v left got now => ?_) (fun got now => ?_) _ _ ⟨rfl, rfl, al⟩
  · rintro ⟨_, rfl, all⟩
    refine wpAny_bind (all v (.head _) _ _ _ fun b => ?_)
    cases b with
    | false =>
      rw [if_pos (by decide : (!false) = true)]
      exact wpAny_pure (wpAny_pure (q false))
    | true =>
      rw [if_neg (by decide : ¬ (!true) = true)]
      exact wpAny_pure ⟨rfl, rfl, fun u hu => all u (.tail _ hu)⟩
  · obtain ⟨g, h⟩ := got
    rintro ⟨rfl, rfl, _⟩
    exact wpAny_pure (q true)
mutual
theorem hashTold : ∀ (k : NestedKey) (v : Value) (n : Nat) (s : Shared), NestedIs s.heap k v → k.depth ≤ n → HashTold P w n s v
  | .none, _, n, s, x, _ => by cases x; intro A E Q q; cases n <;> exact wpAny_pure (q _)
  | .num _, _, n, s, x, _ => by cases x <;> (intro A E Q q; cases n <;> exact wpAny_pure (q _))
  | .text _, _, n, s, x, _ => by cases x; intro A E Q q; cases n <;> exact wpAny_pure (q _)
  | .tup ks, _, n, s, x, d => by
    cases x with
    | tup g1 g2 g3 al =>
      rw [NestedKey.depth] at d
      cases n with
      | zero => omega
      | succ n => exact .tuple g1 g2 g3 (hashToldAll ks _ n s al (by omega))
theorem hashToldAll : ∀ (ks : List NestedKey) (vs : List Value) (n : Nat) (s : Shared), NestedAll s.heap ks vs → NestedKey.depthAll ks ≤ n → ∀ v ∈ vs, HashTold P w n s v
  | [], _, n, s, x, _, v, hv => by cases x; cases hv
  | k :: ks, _, n, s, x, d, v, hv => by
    cases x with
    | cons x1 x2 =>
      rw [NestedKey.depthAll] at d
      rcases List.mem_cons.mp hv with e | hv
      · rw [e]; exact hashTold k _ n s x1 (by omega)
      · exact hashToldAll ks _ n s x2 (by omega) v hv
end
end
end My

set_option Elab.async false
set_option linter.all false
set_option maxRecDepth 100000
set_option maxHeartbeats 4000000
/-! Sets of nested tuples: the search and the adding. -/
namespace My
open PySem PySem.Spec PyProof.Rows L2 PySem.SeqAt
def KeyAt (h : Heap) (k : NestedKey) (a : Addr) : Prop := NestedIs h k (.ref a) ∧ k.depth ≤ 8
theorem KeyAt.stay {h h' : Heap} {k : NestedKey} {a : Addr} (x : KeyAt h k a) (g : ∀ b o vs n, h.get? b = some o → o.data = .seq vs n → h'.get? b = some o) : KeyAt h' k a := ⟨NestedIs.at g _ _ x.1, x.2⟩
abbrev Ent := Addr × NestedKey
/-- what is kept of an entry -/
def kept (w : World) (p : Ent) : Int × Value := (p.2.hash w, .ref p.1)
def hsh (w : World) (p : Ent) : Int := p.2.hash w
/-- the state of a search behind c steps -/
def stp (t : SetTable) (h : Int) (c : Nat) : SetTable.Probe := nth t.mask (runAt t.mask (SetTable.bits h % (t.mask + 1)) (SetTable.bits h)) c
theorem stp_j (t : SetTable) (h : Int) (c : Nat) : (stp t h c).j = way t.mask h c := rfl
theorem stp_add (t : SetTable) (h : Int) (c d : Nat) : nth t.mask (stp t h c) d = stp t h (c + d) := (nth_add t.mask c _ d).symm
theorem nth_clean (m : Nat) : ∀ (c : Nat) (p : SetTable.Probe), p.dummy = none → (nth m p c).dummy = none
  | 0, _, e => e
  | c + 1, p, e => nth_clean m c (adv m p) (by unfold adv; split <;> exact e)
theorem stp_clean (t : SetTable) (h : Int) (c : Nat) : (stp t h c).dummy = none := nth_clean t.mask c _ rfl
structure SetN (w : World) (h : Heap) (a : Addr) (M : List Ent) (es : Array (Int × Value)) (ep : Nat) (t : SetTable) : Prop where
  ob : ∃ o, h.get? a = some o ∧ o.ExactSet ∧ o.data = .set es ep t
  rows : es.toList = M.map (kept w)
  tab : TabOk t (M.map (hsh w))
  nd : (M.map (·.2)).Nodup
  key : ∀ p ∈ M, KeyAt h p.2 p.1
  led : w.params.followText "set-order" = true ∨ t.led = true
  room : M.length * 5 < t.mask * 3
section
variable {P : Program} {w : World} {A : Around} {E : Value → Shared → Prop} {s : Shared} {a : Addr} {M : List Ent} {es : Array (Int × Value)} {ep : Nat} {t : SetTable}
theorem SetN.size {h : Heap} (Z : SetN w h a M es ep t) : es.size = M.length := by
  rw [← Array.length_toList, Z.rows, List.length_map]
theorem fits_of (e1 : t.place.size = es.size) (e2 : t.dummies = #[]) (l : es.size ≤ t.mask) : t.fits es.size = true := by
  have z : (#[] : Array Nat).size = 0 := rfl
  simp only [SetTable.fits, SetTable.fill, e2, Bool.and_eq_true, beq_iff_eq, decide_eq_true_eq]
  omega
theorem SetN.fits {h : Heap} (Z : SetN w h a M es ep t) : t.fits es.size = true := by
  have l1 := Z.tab.sz
  rw [List.length_map] at l1
  have l2 := Z.size
  have l3 := Z.room
  exact fits_of (by omega) Z.tab.dm (by omega)
theorem SetN.at {h : Heap} (Z : SetN w h a M es ep t) {i : Nat} {p : Ent} (e : M[i]? = some p) : es[i]? = some (kept w p) := by
  rw [← Array.getElem?_toList, Z.rows, List.getElem?_map, e]
  rfl
/-- a search among such tuples shows nothing -/
theorem seenN {k : NestedKey} {b : Addr} (kb : KeyAt s.heap k b) {ys : List Value} (al : ∀ y ∈ ys, ∃ k' c, y = Value.ref c ∧ KeyAt s.heap k' c) {Q : Bool → Shared → Prop} (q : Q false s) : wpAny (model P w) A (searchCouldBeSeen (.ref b) ys) Q E s := by
  unfold searchCouldBeSeen
  refine wpAny_bind (wpAny_forIn_list _ (fun left got now => got.1 = none ∧ now = s ∧ ∀ y ∈ left, ∃ k' c, y = Value.ref c ∧ KeyAt s.heap k' c) _ (fun y left got now => ?_) (fun got now => ?_) _ _ ⟨rfl, rfl, al⟩)
  · rintro ⟨_, rfl, all⟩
    obtain ⟨k', c, rfl, kc⟩ := all y (.head _)
    have nx : ∀ y ∈ left, ∃ k' c, y = Value.ref c ∧ KeyAt now.heap k' c := fun u hu => all u (.tail _ hu)
    dsimp only
    by_cases e : (b == c || (carriedByValue (.ref b) && carriedByValue (.ref c))) = true
    · exact wp_if_pos e (wpAny_pure ⟨rfl, rfl, nx⟩)
    · refine wp_if_neg e (wpAny_bind (quiet_key k _ 8 now kb.1 kb.2 _ _ _ ?_))
      rw [if_neg (by decide : ¬ (!true) = true)]
      refine wpAny_bind (quiet_key k' _ 8 now kc.1 kc.2 _ _ _ ?_)
      rw [if_neg (by decide : ¬ (!true) = true)]
      refine wpAny_bind (noCls k _ 8 now kb.1 kb.2 _ _ _ ?_)
      rw [if_neg Bool.false_ne_true]
      refine wpAny_bind (noCls k' _ 8 now kc.1 kc.2 _ _ _ ?_)
      rw [if_neg Bool.false_ne_true]
      exact wpAny_pure ⟨rfl, rfl, nx⟩
  · obtain ⟨g, h⟩ := got
    rintro ⟨rfl, rfl, _⟩
    exact wpAny_pure q
theorem sameMemN (t : SetTable) : t.sameMemory t.moves t.mask = some true := by
  simp only [SetTable.sameMemory, beq_self_eq_true, if_true]
/-- the search for a tuple, from the c-th step on; K: the first empty slot of its way -/
theorem findN (Z : SetN w s.heap a M es ep t) {x : Addr} {k : NestedKey} (kx : KeyAt s.heap k x) (un : A.units + 8 < cLine) {K : Nat} (Kf : K < 10 * SetTable.turns t.mask) (Ke : way t.mask (k.hash w) K ∉ t.place.toList)
    (Kb : ∀ c, c < K → way t.mask (k.hash w) c ∈ t.place.toList) {Q : SetFound → Shared → Prop} (yes : k ∈ M.map (·.2) → Q (.there none) s) (no : k ∉ M.map (·.2) → Q (.free (way t.mask (k.hash w) K) false) s) :
    ∀ (f c : Nat) (st : Option SetTable.Probe), st.getD (t.probeStart (k.hash w)) = stp t (k.hash w) c → c ≤ K → K < c + f →
      (∀ (i : Nat) (p : Ent), M[i]? = some p → p.2 = k → ∃ d, c ≤ d ∧ d < K ∧ t.place.toList[i]? = some (way t.mask (k.hash w) d)) → wpAny (model P w) A (setSearchFrom a (.ref x) (k.hash w) true f st) Q E s := by
  intro f
  induction f with
  | zero => intro c st _ l1 l2; omega
  | succ f ih =>
    intro c st est l1 l2 ahead
    obtain ⟨o, g1, g2, g3⟩ := Z.ob
    rw [setSearchFrom_succ]
    refine wpAny_bind (wpAny_setState_of g1 g3 Z.fits ?_)
    dsimp only
    refine wp_if_neg (by rw [SetTable.gaveWay, mask_odd Z.tab.mok]; decide) ?_
    have hAt : ∀ (i : Nat) (p : Ent), M[i]? = some p → (fun i => (es[i]?.map (·.1)).getD 0) i = hsh w p := fun i p e => by
      dsimp only
      rw [Z.at e]
      rfl
    rcases go_spec t Z.tab.ris Z.tab.dm (fun i => (es[i]?.map (·.1)).getD 0) (k.hash w) (10 * SetTable.turns t.mask) (K - c) (stp t (k.hash w) c) (stp_clean _ _ _) (by omega)
      (fun d hd => by rw [stp_add]; exact Kb (c + d) (by omega)) (by rw [stp_add, show c + (K - c) = K by omega]; exact Ke) with ⟨d, i, dl, di, dh, dn, dp⟩ | ⟨dn, dp⟩
    · have pr : t.probe (fun i => (es[i]?.map (·.1)).getD 0) (k.hash w) (st.getD (t.probeStart (k.hash w))) = some (.candidate (way t.mask (k.hash w) (c + d)) i (stp t (k.hash w) (c + (d + 1)))) := by
        rw [est, ← stp_j, ← stp_add, ← stp_add]
        exact dp
      rw [pr]
      dsimp only
      rw [stp_add, stp_j] at di
      have il : i < M.length := by
        have a1 := (List.getElem?_eq_some_iff.mp di).1
        have a2 := Z.tab.sz
        rw [List.length_map] at a2
        rw [Array.length_toList] at a1
        omega
      obtain ⟨p, ep⟩ : ∃ p, M[i]? = some p := ⟨_, List.getElem?_eq_getElem il⟩
      have pm := List.mem_of_getElem? ep
      have kp := Z.key p pm
      have go : wpAny (model P w) A (searchRest a (.ref x) (k.hash w) true f es t (way t.mask (k.hash w) (c + d)) i (stp t (k.hash w) (c + (d + 1)))) Q E s := by
        unfold searchRest
        rw [Z.at ep]
        refine wpAny_bind (wpAny_holding ((nestedKind P w).eqBool un kp kx (wpAny_bind (wpAny_setState_of g1 g3 Z.fits ?_))))
        dsimp only
        by_cases e : p.2 = k
        · exact wp_if_pos (by rw [decide_eq_true e]; rfl) (wpAny_pure (yes (List.mem_map.mpr ⟨p, pm, e⟩)))
        · refine wp_if_neg (by rw [decide_eq_false e]; decide) ?_
          have sl : t.slot (way t.mask (k.hash w) (c + d)) = .live i := slot_live Z.tab.ris di
          rw [sameMemN]
          dsimp only
          rw [if_pos rfl, sl]
          dsimp only
          rw [Z.at ep]
          dsimp only [kept]
          refine wpAny_bind (wpAny_isSame_ref_self (wpAny_bind (wpAny_pure ?_)))
          rw [if_pos rfl]
          dsimp only
          refine wp_if_neg (by rw [decide_eq_false e]; decide) (ih (c + (d + 1)) _ rfl (by omega) (by omega) fun i0 p0 h0 e0 => ?_)
          obtain ⟨d0, b1, b2, b3⟩ := ahead i0 p0 h0 e0
          refine ⟨d0, ?_, b2, b3⟩
          rcases Nat.lt_trichotomy d0 (c + d) with z | z | z
          · refine absurd ((hAt i0 p0 h0).trans (congrArg (NestedKey.hash w) e0)) (dn (d0 - c) i0 (by omega) ?_)
            rw [stp_add, stp_j, show c + (d0 - c) = d0 by omega]
            exact b3
          · rw [z] at b3
            have := slot_live Z.tab.ris b3
            rw [sl] at this
            injection this with this
            rw [← this, ep] at h0
            cases h0
            exact absurd e0 e
          · omega
      by_cases ld : t.led = true
      · exact wp_if_neg (by rw [ld]; decide) go
      · refine wp_if_pos (by rw [Bool.eq_false_iff.mpr ld]; rfl) (wpAny_bind (seenN kx (fun y hy => ?_) ?_))
        · obtain ⟨e, he, rfl⟩ := List.mem_map.mp hy
          have he : e ∈ es := by
            have := Array.mem_toList_iff.mp he
            exact (Array.mem_filter.mp this).1
          have he := Array.mem_toList_iff.mpr he
          rw [Z.rows] at he
          obtain ⟨p2, hp2, rfl⟩ := List.mem_map.mp he
          exact ⟨p2.2, p2.1, rfl, Z.key p2 hp2⟩
        · rw [if_neg Bool.false_ne_true]
          exact go
    · have pr : t.probe (fun i => (es[i]?.map (·.1)).getD 0) (k.hash w) (st.getD (t.probeStart (k.hash w))) = some (.empty (way t.mask (k.hash w) K) none) := by
        rw [est, show way t.mask (k.hash w) K = (nth t.mask (stp t (k.hash w) c) (K - c)).j by rw [stp_add, show c + (K - c) = K by omega, stp_j]]
        exact dp
      rw [pr]
      refine wpAny_pure (no fun km => ?_)
      obtain ⟨p0, pm, e0⟩ := List.mem_map.mp km
      obtain ⟨i0, h0⟩ := List.mem_iff_getElem?.mp pm
      obtain ⟨d0, b1, b2, b3⟩ := ahead i0 p0 h0 e0
      refine dn (d0 - c) i0 (by omega) ?_ ((hAt i0 p0 h0).trans (congrArg (NestedKey.hash w) e0))
      rw [stp_add, stp_j, show c + (d0 - c) = d0 by omega]
      exact b3
end
end My

set_option Elab.async false
set_option linter.all false
set_option maxRecDepth 100000
set_option maxHeartbeats 4000000
namespace My
open PySem PySem.Spec PyProof.Rows L2 PySem.SeqAt
section
variable {P : Program} {w : World} {A : Around} {E : Value → Shared → Prop} {s : Shared} {a : Addr} {M : List Ent} {es : Array (Int × Value)} {ep : Nat} {t : SetTable}
theorem lookN (Z : SetN w s.heap a M es ep t) {x : Addr} {k : NestedKey} (kx : KeyAt s.heap k x) (un : A.units + 8 < cLine) {Q : SetFound → Shared → Prop} (yes : k ∈ M.map (·.2) → Q (.there none) s)
    (no : ∀ K, k ∉ M.map (·.2) → way t.mask (k.hash w) K ∉ t.place.toList → (∀ c, c < K → way t.mask (k.hash w) c ∈ t.place.toList) → Q (.free (way t.mask (k.hash w) K) false) s) : wpAny (model P w) A (setSearch a (.ref x) (k.hash w) true) Q E s := by
  have l3 := Z.room
  obtain ⟨K, Kf, Ke, Kb⟩ := Z.tab.first (by rw [List.length_map]; omega) (k.hash w)
  have small : K < 100000 := by
    have : 10 * SetTable.turns t.mask ≤ 1420 := by
      rcases Z.tab.mok with e | e | e <;> rw [e] <;> decide
    omega
  refine findN Z kx un Kf Ke Kb yes (fun n => no K n Ke Kb) 100000 0 none rfl (Nat.zero_le _) (by omega) fun i p e1 e2 => ?_
  have a2 := Z.tab.sz
  rw [List.length_map] at a2
  have il : i < t.place.toList.length := by
    have := (List.getElem?_eq_some_iff.mp e1).1
    rw [Array.length_toList]
    omega
  have ej := List.getElem?_eq_getElem il
  obtain ⟨c, lc, e⟩ := Z.tab.before Ke (i := i) (by rw [List.getElem?_map, e1]; show some (hsh w p) = _; rw [hsh, e2]) ej
  exact ⟨c, Nat.zero_le _, lc, by rw [ej, e]⟩
theorem picks (Me : ∀ (i : Nat) (p : Ent), M[i]? = some p → es[i]? = some (kept w p)) : ∀ l : List Nat, (∀ i ∈ l, i < M.length) →
    l.filterMap (fun i => es[i]?) = (l.filterMap fun i => M[i]?).map (kept w) ∧ (l.filterMap fun i => M[i]?).map (hsh w) = l.map fun i => (es.map (·.1)).getD i 0
  | [], _ => ⟨rfl, rfl⟩
  | i :: l, h => by
    obtain ⟨h1, h2⟩ := picks Me l fun j hj => h j (.tail _ hj)
    obtain ⟨p, ep⟩ : ∃ p, M[i]? = some p := ⟨_, List.getElem?_eq_getElem (h i (.head _))⟩
    have ee := Me i p ep
    rw [List.filterMap_cons_some ee, List.filterMap_cons_some ep, List.map_cons, List.map_cons, List.map_cons, h1, h2]
    refine ⟨rfl, ?_⟩
    congr 1
    rw [Array.getD_eq_getD_getElem?, Array.getElem?_map, ee]
    rfl
theorem range_picks {α : Type} (M : List α) : ∀ n, n ≤ M.length → (List.range n).filterMap (fun i => M[i]?) = M.take n
  | 0, _ => rfl
  | n + 1, h => by
    have e := List.getElem?_eq_getElem (show n < M.length from h)
    rw [List.range_succ, List.filterMap_append, range_picks M n (by omega), List.filterMap_cons_some e, List.filterMap_nil, List.take_add_one, e]
    rfl
/-- all but the set stays -/
theorem KeyAt.but {h h' : Heap} {k : NestedKey} {b : Addr} {o : Obj} (x : KeyAt h k b) (g1 : h.get? a = some o) (g3 : o.data = .set es ep t) (sb : Heap.SameBut a h h') : KeyAt h' k b := x.stay fun c u vs n e d => (sb.2 c fun z => by
  rw [z, g1] at e
  cases e
  rw [g3] at d
  cases d).trans e
/-- the table laid anew -/
theorem relayN {o : Obj} (g1 : s.heap.get? a = some o) (g2 : o.ExactSet) (g3 : o.data = .set es ep t) (rows : es.toList = M.map (kept w)) (ft : t.fits es.size = true) (nd : (M.map (·.2)).Nodup) (key : ∀ p ∈ M, KeyAt s.heap p.2 p.1)
    (led : w.params.followText "set-order" = true ∨ t.led = true) {n N : Nat} (e1 : SetTable.sizeAbove n - 1 = N) (e2 : MaskOk N) (e3 : SetTable.sizeAbove n ≤ 128) (room : M.length * 5 < N * 3) {Q : Unit → Shared → Prop}
    (q : ∀ h' M' es' ep' t', Heap.SameBut a s.heap h' → SetN w h' a M' es' ep' t' → M'.Perm M → Q () { s with heap := h' }) : wpAny (model P w) A (setRelay a n) Q E s := by
  have sz : es.size = M.length := by rw [← Array.length_toList, rows, List.length_map]
  have Me : ∀ (i : Nat) (p : Ent), M[i]? = some p → es[i]? = some (kept w p) := fun i p e => by
    rw [← Array.getElem?_toList, rows, List.getElem?_map, e]
    rfl
  obtain ⟨t', ord, er, pm, tb, em, el, _, _⟩ := relaid_ok t (hs := es.map (·.1)) (wanted := n) e1 e2 (by rw [Array.size_map]; omega)
  rw [Array.size_map, sz] at pm
  obtain ⟨p1, p2⟩ := picks Me ord.toList fun i hi => List.mem_range.mp (pm.mem_iff.mp hi)
  have pM : (ord.toList.filterMap fun i => M[i]?).Perm M := by
    have := pm.filterMap fun i => M[i]?
    rw [range_picks M _ (Nat.le_refl _), List.take_length] at this
    exact this
  rw [← p2] at tb
  have re : (ord.filterMap (es[·]?)).toList = (ord.toList.filterMap fun i => M[i]?).map (kept w) := by
    rw [Array.toList_filterMap]
    exact p1
  generalize ord.toList.filterMap (fun i => M[i]?) = M' at tb pM re
  have s2 : (ord.filterMap (es[·]?)).size = es.size := by rw [← Array.length_toList, re, List.length_map, pM.length_eq, sz]
  rw [setRelay_eq]
  refine wpAny_bind (wpAny_setState_of g1 g3 ft ?_)
  dsimp only
  refine wp_if_neg (by rw [sizeLine_eq]; omega) ?_
  rw [er]
  refine wpAny_bind (wp_if_neg (by rw [s2]; simp) (wpAny_pure ?_))
  refine wpAny_storeSet_of g1 g3 ?_ (by rw [s2, sz, sizeLine_eq]; rcases e2 with z | z | z <;> omega)
  have sb : Heap.SameBut a s.heap (s.heap.update a (Obj.putSet (ord.filterMap (es[·]?)) t')) := Heap.SameBut.update ..
  refine q _ M' _ (ep + 1) t' sb ⟨⟨_, store_at g1 g3, ⟨g2.1, g2.2.1, g2.2.2⟩, rfl⟩, re, tb, (pM.map (·.2)).nodup_iff.mpr nd, fun p hp => (key p (pM.mem_iff.mp hp)).but g1 g3 sb, by rw [el]; exact led, ?_⟩ pM
  rw [pM.length_eq, em]
  exact room
theorem tab_plain {hs : List Int} (T : TabOk t hs) (b : Bool) : TabOk (if b = true then t else { t with plain := false }) hs := by
  cases b
  · exact ⟨T.ris, T.dm, T.sz, T.mok, T.bd, T.reach⟩
  · exact T
theorem pl_mask (b : Bool) : (if b = true then t else { t with plain := false }).mask = t.mask := by cases b <;> rfl
theorem pl_led (b : Bool) : (if b = true then t else { t with plain := false }).led = t.led := by cases b <;> rfl
theorem pl_fill (b : Bool) : (if b = true then t else { t with plain := false }).fill = t.fill := by cases b <;> rfl
theorem put_in (M : List Ent) (p : Nat) (e : Ent) : (M.take p ++ e :: M.drop p).Perm (e :: M) := by
  have h : (M.take p ++ e :: M.drop p).Perm (e :: (M.take p ++ M.drop p)) := List.perm_middle
  rw [List.take_append_drop] at h
  exact h
/-- a tuple is added -/
theorem addN (Z : SetN w s.heap a M es ep t) {x : Addr} {k : NestedKey} (kx : KeyAt s.heap k x) (un : A.units + 8 < cLine) (few : M.length < 76) {Q : Bool → Shared → Prop}
    (q : ∀ b h' M' es' ep' t', Heap.SameBut a s.heap h' → SetN w h' a M' es' ep' t' → (k ∈ M.map (·.2) → M' = M) → (k ∉ M.map (·.2) → M'.Perm ((x, k) :: M)) → Q b { s with heap := h' }) :
    wpAny (model P w) A (setAddHashed a (.ref x) (k.hash w)) Q E s := by
  obtain ⟨o, g1, g2, g3⟩ := Z.ob
  have sz := Z.size
  have l3 := Z.room
  unfold setAddHashed
  refine wpAny_holding ?_
  rw [show (100000 : Nat) = 99999 + 1 from rfl, setAddHashedIn_succ]
  refine wpAny_bind (wpAny_setState_of g1 g3 Z.fits ?_)
  dsimp only
  refine wp_if_neg (by simp [byScan, Value.scannable]) (wpAny_bind (lookN Z kx un (fun km => ?_) fun K kn Ke Kb => ?_))
  · exact wpAny_pure (q false s.heap M es ep t (Heap.SameBut.refl a s.heap) Z (fun _ => rfl) fun z => absurd km z)
  · refine wpAny_bind (wpAny_setState_of g1 g3 Z.fits ?_)
    dsimp only
    obtain ⟨q1, q2, q3, q4, q5, q6, q7, q8, q9⟩ := Z.tab.put Ke Kb
    generalize t.put (way t.mask (k.hash w) K) = pt at q1 q3 q4 q5 q6 q7 q8 q9 ⊢
    obtain ⟨t1, pl⟩ := pt
    dsimp only at q1 q3 q4 q5 q6 q7 q8 q9 ⊢
    subst q1
    have fin : ∀ b : Bool, wpAny (model P w) A (do
        storeSet a (SetTable.insertAt es (SetTable.below t.place (way t.mask (k.hash w) K)) (k.hash w, Value.ref x)) (if b = true then t1 else { t1 with plain := false })
        if (!false && (if b = true then t1 else { t1 with plain := false }).tooFull) = true then do
          setRelay a (SetTable.grown (es.size + 1))
          pure true
        else pure true) Q E s := fun b => by
      have r1 := tab_plain q3 b
      have r2 := (pl_mask (t := t1) b).trans q4
      have r3 := (pl_led (t := t1) b).trans q5
      have r4 := (pl_fill (t := t1) b).trans q9
      generalize (if b = true then t1 else { t1 with plain := false }) = t2 at r1 r2 r3 r4 ⊢
      generalize SetTable.below t.place (way t.mask (k.hash w) K) = pp at q2 r1 ⊢
      have pm := put_in M pp (x, k)
      have ins : (SetTable.insertAt es pp (k.hash w, Value.ref x)).toList = (M.take pp ++ (x, k) :: M.drop pp).map (kept w) := by
        rw [SetTable.toList_insertAt, Z.rows, List.map_append, List.map_cons, List.map_take, List.map_drop]
        rfl
      have r1 : TabOk t2 ((M.take pp ++ (x, k) :: M.drop pp).map (hsh w)) := by
        rw [List.map_append, List.map_cons, List.map_take, List.map_drop]
        exact r1
      generalize M.take pp ++ (x, k) :: M.drop pp = M1 at pm ins r1
      have ln : M1.length = M.length + 1 := pm.length_eq
      have s1 : (SetTable.insertAt es pp (k.hash w, Value.ref x)).size = M.length + 1 := by rw [← Array.length_toList, ins, List.length_map, ln]
      generalize SetTable.insertAt es pp (k.hash w, Value.ref x) = es1 at ins s1 ⊢
      have nd : (M1.map (·.2)).Nodup := by
        refine (pm.map (·.2)).nodup_iff.mpr ?_
        rw [List.map_cons]
        exact List.nodup_cons.mpr ⟨kn, Z.nd⟩
      refine wpAny_bind (wpAny_storeSet_of g1 g3 ?_ (by rw [s1, sizeLine_eq]; omega))
      have sb : Heap.SameBut a s.heap (s.heap.update a (Obj.putSet es1 t2)) := Heap.SameBut.update ..
      have gg := store_at (es' := es1) (t' := t2) g1 g3
      generalize s.heap.update a (Obj.putSet es1 t2) = h1 at sb gg ⊢
      have key : ∀ p ∈ M1, KeyAt h1 p.2 p.1 := fun p hp => by
        rcases List.mem_cons.mp (pm.mem_iff.mp hp) with e | hp
        · rw [e]; exact kx.but g1 g3 sb
        · exact (Z.key p hp).but g1 g3 sb
      have led : w.params.followText "set-order" = true ∨ t2.led = true := by rw [r3]; exact Z.led
      rw [List.length_map] at r4
      have tz := r1.sz
      rw [List.length_map, ln] at tz
      by_cases fu : t2.tooFull = true
      · have fu2 : (M.length + 1) * 5 ≥ t.mask * 3 := by
          unfold SetTable.tooFull at fu
          rw [decide_eq_true_eq, r4, r2] at fu
          exact fu
        refine wp_if_pos (by rw [fu]; rfl) (wpAny_bind ?_)
        rw [sz]
        have ft : t2.fits es1.size = true := fits_of (by omega) r1.dm (by rw [s1, r2]; rcases Z.tab.mok with e | e | e <;> rw [e] at l3 fu2 ⊢ <;> omega)
        have go : ∀ N, SetTable.sizeAbove (SetTable.grown (M.length + 1)) - 1 = N → MaskOk N → SetTable.sizeAbove (SetTable.grown (M.length + 1)) ≤ 128 → (M.length + 1) * 5 < N * 3 →
            wpAny (model P w) A (setRelay a (SetTable.grown (M.length + 1))) (fun _ now => wpAny (model P w) A (pure true) Q E now) E { s with heap := h1 } := fun N n1 n2 n3 n4 =>
          relayN (s := { s with heap := h1 }) gg ⟨g2.1, g2.2.1, g2.2.2⟩ rfl ins ft nd key led n1 n2 n3 (by rw [ln]; exact n4) fun h2 M2 es2 ep2 t3 sb2 Z2 pm2 => wpAny_pure (q true h2 M2 es2 ep2 t3 (sb.trans sb2) Z2 (fun z => absurd z kn) fun _ => pm2.trans pm)
        rcases Z.tab.mok with e | e | e
        · have e2 : M.length = 4 := by rw [e] at l3 fu2; omega
          exact go 31 (by rw [e2, size_20]) (.inr (.inl rfl)) (by rw [e2, size_20]; decide) (by omega)
        · have e2 : M.length = 18 := by rw [e] at l3 fu2; omega
          exact go 127 (by rw [e2, size_76]) (.inr (.inr rfl)) (by rw [e2, size_76]; decide) (by omega)
        · rw [e] at fu2; omega
      · refine wp_if_neg (by rw [Bool.eq_false_iff.mpr fu]; decide) (wpAny_pure (q true h1 M1 es1 (ep + 1) t2 sb ⟨⟨_, gg, ⟨g2.1, g2.2.1, g2.2.2⟩, rfl⟩, ins, r1, nd, key, led, ?_⟩ (fun z => absurd z kn) fun _ => pm))
        unfold SetTable.tooFull at fu
        rw [decide_eq_true_eq, r4] at fu
        rw [ln]
        omega
    by_cases e : t1.plain = true
    · exact wp_if_pos e (wpAny_bind (hashTold k _ 8 s kx.1 kx.2 _ _ _ fun b => fin b))
    · exact wp_if_neg e (wpAny_bind (wpAny_pure (fin true)))
end
end My

set_option Elab.async false
set_option linter.all false
set_option maxRecDepth 100000
set_option maxHeartbeats 4000000
/-! set(xs) of a list, by any word T i h of what the set is behind i items. -/
namespace My
open PySem PySem.Spec PyProof.Rows L2 PySem.SeqAt
section
variable {P : Program} {w : World} {A : Around} {E : Value → Shared → Prop} {s : Shared}
/-- what adding the items asks -/
structure Adds (P : Program) (w : World) (A : Around) (S : Addr) (wr : List Addr) (n : Nat) (Pv : Nat → Value → Prop) (T : Nat → Heap → Prop) : Prop where
  stay : ∀ i h h', T i h → (∀ b o, b ∉ wr → h.get? b = some o → h'.get? b = some o) → T i h'
  add : ∀ (i : Nat) (v : Value) (s : Shared) (Q : Bool → Shared → Prop) (E : Value → Shared → Prop), i < n → Pv i v → T i s.heap → (∀ b h' tk, T (i + 1) h' → s.toks ≤ tk → Heap.SameBut S s.heap h' → Q b { s with heap := h', toks := tk }) → wpAny (model P w) A (setAdd S v) Q E s
theorem updateG {I : Addr} {fp wr : List Addr} {G : Array GenState → Array GenState → Prop} {n : Nat} {Pv : Nat → Value → Prop} {St : Nat → Shared → Prop} {R : Result → Shared → Prop} {S : Addr} {T : Nat → Heap → Prop}
    (W : WalksS P w A.in1 I fp wr G n Pv St) (nf : S ∉ fp) (D : Adds P w A.in1 S wr n Pv T) : ∀ (k i : Nat) (s : Shared), n - i = k → i ≤ n → St i s → T i s.heap → (∀ s', Moved (S :: wr) G s s' → T n s'.heap → R (.ok (.ret .none)) s') →
      codeAny (model P w) A (.builtin "set.update.loop" ⟨[.ref S, .ref I], []⟩) R s := by
  have up : ∀ b ∈ wr, b ∈ S :: wr := fun b hb => .tail _ hb
  intro k
  induction k with
  | zero =>
    intro i s e l st ti q
    obtain rfl : i = n := by omega
    refine codeAny_builtin PyProof.Rows.F.entry_set_update_loop ?_
    rw [Around.under_plainId PyProof.Rows.F.plain_set_update_loop _]
    refine (?_ : wpAny _ A.in1 (pyNext (.ref I) >>= _) _ _ s)
    exact wpAny_bind (W.done s _ _ st fun s' m => wpAny_pure (q s' (m.mono up) (D.stay _ _ _ ti fun b o nb e => m.heap b o nb e)))
  | succ k ih =>
    intro i s e l st ti q
    have lt : i < n := by omega
    refine codeAny_builtin PyProof.Rows.F.entry_set_update_loop ?_
    rw [Around.under_plainId PyProof.Rows.F.plain_set_update_loop _]
    refine (?_ : wpAny _ A.in1 (pyNext (.ref I) >>= _) _ _ s)
    refine wpAny_bind (W.item i s _ _ lt st fun v s1 pv st1 m => ?_)
    refine (?_ : wpAny _ A.in1 (holding [v] (setAdd S v) >>= _) _ _ s1)
    refine wpAny_bind (wpAny_holding (D.add i v s1 _ _ lt pv (D.stay _ _ _ ti fun b o nb e => m.heap b o nb e) fun b h2 tk t2 ltk sb => ?_))
    refine wpAny_pure ⟨plainId_quiet PyProof.Rows.F.plain_set_update_loop _, ih (i + 1) _ (by omega) lt (W.frame _ s1 _ _ st1 ltk fun c hc o e => ?_) t2 fun s3 m3 t3 => ?_⟩
    · rw [sb.2 c (fun z => nf (by rw [← z]; exact hc))]; exact e
    · refine q s3 (Moved.trans W.gtrans ((m.mono up).then_heap ltk fun c o hc e => ?_) m3) t3
      rw [sb.2 c (fun z => hc (by rw [z]; exact .head _))]; exact e
/-- a set made new -/
def freshSet (w : World) : Obj := { cls := .type "set", dict := none, data := .set #[] 0 (.fresh 0 0 (!w.params.followText "set-order")) }
theorem callG {l : Addr} {items : Array Value} {Q : Value → Shared → Prop} {T : Nat → Heap → Prop} (hh : A.handled = none) (hl : s.heap.IsList l items)
    (D : Adds P w A.in1.in1.in1 s.heap.objs.size [s.heap.objs.size + 1] items.size (fun i v => items[i]? = some v) T)
    (t0 : ∀ h : Heap, h.get? s.heap.objs.size = some (freshSet w) → (∀ b o, s.heap.get? b = some o → h.get? b = some o) → T 0 h)
    (q : ∀ (h' : Heap) (tk : Nat), T items.size h' → (∀ b o, s.heap.get? b = some o → h'.get? b = some o) → Q (.ref s.heap.objs.size) { s with heap := h', toks := tk }) :
    wpAny (model P w) A (call (.type "set") [.ref l]) Q E s := by
  obtain ⟨c, tl, f1⟩ := PySem.F.called_set.mro
  have f2 := PySem.F.called_set.made
  have f3 := PySem.F.called_set.sub
  refine wpAny_call (codeAny_of_tree (?_ : wpAny _ _ (callAny (.type "set") _) _ _ _))
  refine wpAny_pure ⟨Code.quiet_builtin _ (by decide +kernel), codeAny_builtin PySem.F.entry_type_call ?_⟩
  rw [Around.under_plain (weight_type_call_type "set" [.ref l] []) rfl]
  have f4 := PySem.F.called_set.notType
  have f5 := PySem.F.called_set.canCreate
  have f6 := F.typeCall_set_1 (.ref l)
  repeat (any_goals (first | assumption | wp_step))
  refine codeAny_mono (code_set_led1 (.ref l) (E := E) (Q₁ := fun v now => v = .ref s.heap.objs.size ∧ now = { s with heap := s.heap.push (freshSet w) }) ⟨rfl, rfl⟩) fun r now hr => ?_
  match r, hr with
  | .error e, hr => exact hr
  | .ok (.ret v), hr =>
    obtain ⟨rfl, rfl⟩ := hr
    have hS : (s.heap.push (freshSet w)).get? s.heap.objs.size = some (freshSet w) := Heap.get?_push_size _ rfl
    have hT : Shared.TypeIs { s with heap := s.heap.push (freshSet w) } (.ref s.heap.objs.size) "set" := ⟨_, hS, rfl⟩
    have f7 := F.called_set.init.lookup
    have f8 := F.called_set.init.bind (.ref s.heap.objs.size)
    repeat (any_goals (first | assumption | wp_step))
    refine codeAny_mono (codeAny_call_builtin (R := wants (fun r s₂ => r = .none ∧ ∃ h' tk, s₂ = { s with heap := h', toks := tk } ∧ T items.size h' ∧ ∀ b o, s.heap.get? b = some o → h'.get? b = some o) E) F.called_set.init.plain F.entry_set_init (check_set_init_1 hT ?_)) fun r₂ s₂ hr₂ => ?_
    · obtain ⟨⟨ocls, odict, odata, oslots⟩, o1, o2, nl, o3⟩ := hl
      simp only at o2 o3
      subst o2 o3
      have o4 : (s.heap.push (freshSet w)).get? l = some { cls := .type "list", dict := odict, data := .seq items nl, slots := oslots } := Heap.get?_push_of_some _ o1
      have f9 := F.sub_list_set
      have f10 := F.sub_list_frozenset
      have f11 : (Value.type "list" == Value.type "dict") = false := by decide
      have hl1 : (s.heap.push (freshSet w)).IsList l items := ⟨_, o4, rfl, nl, rfl⟩
      have lS : l < s.heap.objs.size := Heap.lt_size o1
      have z1 : (s.heap.push (freshSet w)).objs.size = s.heap.objs.size + 1 := Heap.size_push ..
      unfold Builtin.«set.__init__» noKeywords Builtin.Frozenset.updateFrom
      generalize hPI : pyIter = PI
      wp_walk
      subst hPI
      refine wpAny_pyIter_list hl1 (wpAny_bind (wpAny_runValue ?_))
      have ne1 : l ≠ (s.heap.push (freshSet w)).objs.size := by rw [z1]; exact Nat.ne_of_lt (Nat.lt_succ_of_lt lS)
      have D2 := D
      rw [← z1] at D2
      refine updateG ((Walks.list (by simp [hh]) _ l ne1 items).toS) (S := s.heap.objs.size) (by rw [z1]; simp only [List.mem_cons, List.not_mem_nil, or_false, not_or]; exact ⟨Nat.ne_of_lt (Nat.lt_succ_self _), (Nat.ne_of_lt lS).symm⟩) D2 (items.size - 0) 0 _ rfl (Nat.zero_le _) ⟨⟨_, Heap.get?_push_size _ rfl, rfl, rfl⟩, hl1.push _⟩ (t0 _ (Heap.get?_push_of_some _ hS) fun b o e => Heap.get?_push_of_some _ (Heap.get?_push_of_some _ e)) fun s' m t1 => ?_
      obtain ⟨h', g', d', tk', os'⟩ := s'
      have eg : g' = s.gens := m.gens
      have ed : d' = s.drawn := m.drawn
      have eo : os' = s.os := m.os
      subst eg ed eo
      refine wpAny_pure (wpAny_pure ⟨rfl, h', tk', rfl, t1, fun b o e => ?_⟩)
      have lt := Heap.lt_size e
      refine m.heap b o ?_ (Heap.get?_push_of_some _ (Heap.get?_push_of_some _ e))
      rw [z1]
      simp only [List.mem_cons, List.not_mem_nil, or_false, not_or]
      exact ⟨Nat.ne_of_lt lt, Nat.ne_of_lt (Nat.lt_succ_of_lt lt)⟩
    · match r₂, hr₂ with
      | .error e, hr₂ => exact hr₂
      | .ok (.ret r), hr₂ =>
        obtain ⟨rfl, h', tk, rfl, t1, kp⟩ := hr₂
        repeat (any_goals (first | assumption | wp_step))
        exact q _ _ t1 kp
end
end My

set_option Elab.async false
set_option linter.all false
set_option maxRecDepth 100000
set_option maxHeartbeats 4000000
/-! sorted(xs) of tuples whose first places are texts. -/
namespace My
open PySem PySem.Spec PyProof.Rows L2 PySem.SeqAt PySem.W
section
variable {prog : Program} {w : World} {A : Around} {E : Value → Shared → Prop} {s : Shared}
theorem one_ltT {f : Bool} {x y : NestedKey} {a b : Value} {c : Bool} {n : Nat} {Q : Bool → Shared → Prop} (tx : f = true → ∃ z, x = .text z) (p : Ns s.heap x a) (q : Ns s.heap y b) (e : ltK x y = some c) (hd : x.depth ≤ n) (hu : A.units + n < cLine) (hq : Q c s) :
    wpAny (model prog w) A (oneLt' f a b) Q E s := by
  cases f with
  | false => exact one_ltN (fun z => by cases z) p q e hd hu hq
  | true =>
    obtain ⟨z, rfl⟩ := tx rfl
    cases p
    cases q with
    | text z' u =>
      rw [ltK] at e
      cases e
      exact oneLt_str hq
    | _ => simp [ltK] at e
theorem katLexT {fin : Bool} {n : Nat} {Q : Bool → Shared → Prop} {x y : NestedKey} {xs ys : List NestedKey} {a b : Value} {us vs : List Value} {c : Bool} (p : Ns s.heap x a) (ps : NsAll s.heap xs us) (q : Ns s.heap y b) (qs : NsAll s.heap ys vs) (tx : ∃ z, x = .text z)
    (e : ltAll (x :: xs) (y :: ys) = some c) (hd : ∀ z ∈ x :: xs, z.depth ≤ n) (hu : A.units + n < cLine) (hf : fin = decide ((a :: us).length < (b :: vs).length)) (hq : Q c s) : KatLex prog w A true fin Q ((a :: us).zip (b :: vs)) 0 s := by
  rw [List.zip_cons_cons]
  have dx := hd x (.head _)
  refine kat_cons (eqAt_key x y A s _ _ p.is q.is (by omega) prog w _ _ ?_)
  rw [← NestedKey.decide_eq]
  rw [ltAll] at e
  by_cases h : x = y
  · rw [if_pos h] at e
    rw [decide_eq_true h]
    exact kat_yes (katLexN xs ys 1 _ _ c ps qs e (fun z hz => hd z (.tail _ hz)) hu (fun _ hi => absurd hi (by decide)) (by rw [hf]; simp) hq)
  · rw [if_neg h] at e
    rw [decide_eq_false h]
    exact kat_no (one_ltT (n := n) (fun _ => tx) p q e dx hu hq)
theorem each_text {h : Heap} : ∀ {vs : List Value} {ks : List NestedKey}, EachIs (fun v k => Ns h k v) vs ks → (∀ k ∈ ks, ∃ z r, k = .tup (.text z :: r)) → ∃ fs, KatTups h vs fs ∧ fs.length = vs.length ∧ ∀ f ∈ fs, ∃ z t, f = Value.str z t
  | _, _, .nil, _ => ⟨[], KatTups.nil, rfl, fun f hf => by cases hf⟩
  | _, _, .cons (b := k) p t, hk => by
    obtain ⟨fs, h1, h2, h3⟩ := each_text t fun k hk2 => hk k (.tail _ hk2)
    obtain ⟨z, r, rfl⟩ := hk k (.head _)
    cases p with
    | @tup a o vs n _ ho hc hd hr =>
      cases q : vs.toList with
      | nil => rw [q] at hr; cases hr
      | cons f fr =>
        rw [q] at hr
        cases hr with
        | cons p1 p2 =>
          obtain ⟨u, rfl⟩ : ∃ u, f = Value.str z u := by cases p1; exact ⟨_, rfl⟩
          refine ⟨_ :: fs, KatTups.cons ho hc hd (by rw [← Array.getElem?_toList, q]; rfl) h1, by rw [List.length_cons, List.length_cons, h2], fun g hg => ?_⟩
          rcases List.mem_cons.mp hg with rfl | hg
          · exact ⟨_, _, rfl⟩
          · exact h3 g hg
theorem sortsT {vs : List Value} {ks : List NestedKey} {n : Nat} (e : EachIs (fun v k => Ns s.heap k v) vs ks) (hh : ∀ k ∈ ks, ∃ z r, k = .tup (.text z :: r)) (hc : ∀ k ∈ ks, ∀ k' ∈ ks, ∃ c, ltK k k' = some c) (hd : ∀ k ∈ ks, k.depth ≤ n) (hu : A.units + n < cLine) :
    SortsAt prog w A s (nkKind s.heap ks) vs := by
  refine ⟨fun v hv => ?_, tuples' ((Value.type "str") != Value.type "tuple"), ?_, fun h2 E Q hq => ?_⟩
  · obtain ⟨k, hk, p⟩ := e.left v hv
    exact ⟨_, nk_some hk p⟩
  · intro E x y a b Q ha hb hq
    obtain ⟨k, hk, p, rfl⟩ := nk_inv ha
    obtain ⟨k', hk', p', rfl⟩ := nk_inv hb
    obtain ⟨c, ec⟩ := hc k hk k' hk'
    have dk := hd k hk
    obtain ⟨z, r, rfl⟩ := hh k hk
    obtain ⟨z', r', rfl⟩ := hh k' hk'
    rw [depth_tup] at dk
    rw [ltK] at ec
    have hq : Q (lexT (toks (.tup (.text z :: r))) (toks (.tup (.text z' :: r')))) s := hq
    rw [lex_tup ec] at hq
    cases p with
    | @tup _ _ vs1 _ _ h1 h2 h3 h4 =>
      cases p' with
      | @tup _ _ vs2 _ _ k1 k2 k3 k4 =>
        refine kat_lt h1 h3 k1 k3 ?_
        cases e1 : vs1.toList with
        | nil => rw [e1] at h4; cases h4
        | cons a1 us =>
          cases e2 : vs2.toList with
          | nil => rw [e2] at k4; cases k4
          | cons b1 ws =>
            rw [e1] at h4
            rw [e2] at k4
            cases h4 with
            | cons p1 p2 =>
              cases k4 with
              | cons q1 q2 =>
                refine katLexT (n := n) p1 p2 q1 q2 ⟨z, rfl⟩ ec (fun x hx => ?_) hu ?_ hq
                · have := depth_mem hx
                  omega
                · rw [← e1, ← e2]
                  simp
  · obtain ⟨fs, t1, t2, t3⟩ := each_text e hh
    refine kat_kind (T := Value.type "str") t1 (by omega) (fun f hf => ?_) (beq_self_eq_true _) hq
    obtain ⟨z, t, rfl⟩ := t3 f hf
    exact looks_reads (Reads.str z t)
end
end My

set_option Elab.async false
set_option linter.all false
set_option maxRecDepth 100000
set_option maxHeartbeats 4000000
/-! sorted(xs) of nested tuples. -/
namespace My
open PySem PySem.Spec PyProof.Rows L2 PySem.SeqAt PySem.W
mutual
theorem Ns.stay {h h' : Heap} (g : ∀ b o, h.get? b = some o → o.cls = .type "tuple" → h'.get? b = some o) : ∀ {k : NestedKey} {v : Value}, Ns h k v → Ns h' k v
  | .none, _, .none => .none
  | .num _, _, .int i t => .int i t
  | .text _, _, .text x t => .text x t
  | .tup _, _, .tup e c d r => .tup (g _ _ e c) c d (NsAll.stay g r)
theorem NsAll.stay {h h' : Heap} (g : ∀ b o, h.get? b = some o → o.cls = .type "tuple" → h'.get? b = some o) : ∀ {ks : List NestedKey} {vs : List Value}, NsAll h ks vs → NsAll h' ks vs
  | [], _, .nil => .nil
  | _ :: _, _, .cons a r => .cons (Ns.stay g a) (NsAll.stay g r)
end
/-- what sorting asks of the keys -/
structure Sbl (ks : List NestedKey) : Prop where
  heads : (∀ k ∈ ks, ∃ z r, k = .tup (.text z :: r)) ∨ ∀ k ∈ ks, ∃ i r, k = .tup (.num i :: r)
  cmp : ∀ k ∈ ks, ∀ k' ∈ ks, ∃ c, ltK k k' = some c
  deep : ∀ k ∈ ks, k.depth ≤ 50
theorem each_of {X : Cx} {pins : List (Addr × Obj)} {σ : L2.St} {H : Hp} {s : Shared} (I : Inv X pins σ H s) : ∀ {xs : List V} {ks : List NestedKey} {vs : List Value}, NkAll H xs ks → Vals xs vs → EachIs (fun v k => Ns s.heap k v) vs ks
  | _, _, _, .nil, .nil => .nil
  | _, _, _, .cons a h, .cons r1 r2 => .cons (a.ns I r1) (each_of I h r2)
/-- the items with their keys, sorted -/
def srt (xs : List V) (ks : List NestedKey) : List (V × NestedKey) := (xs.zip ks).mergeSort (leF id)
section
variable {X : Cx} {pins : List (Addr × Obj)} {σ : L2.St} {H : Hp} {s : Shared} {E : Value → Shared → Prop}
theorem sort_tail {xs : List V} {vs : List Value} {ks : List NestedKey} {Q : Value → Shared → Prop} (I : Inv X pins σ H s) (un : X.A.units + 60 < cLine) (rv : Vals xs vs) (nk : NkAll H xs ks) (sb : Sbl ks) (hz : vs.length ≤ sizeLine) (p : Addr) (ep : p = s.heap.objs.size)
    (q : ∀ s', Inv X pins σ (upd H p (.lst ((srt xs ks).map Prod.fst))) s' → Q (.ref p) s') :
    wpAny (model X.prog X.w) X.A.in1 (call (.builtin "list.sort") [.ref p]) (fun _ s' => Q (.ref p) s') E { s with heap := s.heap.push (seqObj "list" vs.toArray 0) } := by
  subst ep
  have ho : (s.heap.push (seqObj "list" vs.toArray 0)).get? s.heap.objs.size = some (seqObj "list" vs.toArray 0) := Heap.get?_push_size _ rfl
  have up : ∀ b o, s.heap.get? b = some o → (s.heap.push (seqObj "list" vs.toArray 0)).get? b = some o := fun b o e => Heap.get?_push_of_some _ e
  have e0 := each_of I nk rv
  have e1 : EachIs (fun v k => Ns (sortingHeap (s.heap.push (seqObj "list" vs.toArray 0)) s.heap.objs.size vs) k v) vs ks := e0.mono fun v k n => n.stay fun b o e _ => sortingHeap_old (Nat.ne_of_lt (Heap.lt_size e)) (up b o e)
  have S : SortsAt X.prog X.w X.A.in1.in1 { s with heap := sortingHeap (s.heap.push (seqObj "list" vs.toArray 0)) s.heap.objs.size vs } (nkKind (sortingHeap (s.heap.push (seqObj "list" vs.toArray 0)) s.heap.objs.size vs) ks) vs := by
    rcases sb.heads with h | h
    · exact sortsT (n := 50) (s := { s with heap := sortingHeap (s.heap.push (seqObj "list" vs.toArray 0)) s.heap.objs.size vs }) e1 h sb.cmp sb.deep (by show X.A.units + 1 + 1 + 50 < cLine; omega)
    · exact sortsN (n := 50) (s := { s with heap := sortingHeap (s.heap.push (seqObj "list" vs.toArray 0)) s.heap.objs.size vs }) e1 h sb.cmp sb.deep (by show X.A.units + 1 + 1 + 50 < cLine; omega)
  refine wpAny_call_entry slot_list_sort ⟨_, ho, rfl⟩ entry_list_sort (list_sort_vals (s := { s with heap := s.heap.push (seqObj "list" vs.toArray 0) }) ho S hz ⟨_, rfl, ?_⟩) (args_list_sort _)
  have lk : xs.length = ks.length := nk.length
  have out := sortVals_each (κ := nkKind (sortingHeap (s.heap.push (seqObj "list" vs.toArray 0)) s.heap.objs.size vs) ks) (rev := false) (R := fun (v : Value) (b : V × NestedKey) => RelV b.1 v) (ks := vs) (vs := vs) (bs := xs.zip ks) (fun b => toks b.2) (zip_each rv lk) (each_snd ((each_mem e1).mono fun v k q => nk_some q.2 q.1) lk)
  have rel : Vals ((srt xs ks).map Prod.fst) (sortVals (nkKind (sortingHeap (s.heap.push (seqObj "list" vs.toArray 0)) s.heap.objs.size vs) ks) false vs vs) := each_vals out
  generalize sortVals (nkKind (sortingHeap (s.heap.push (seqObj "list" vs.toArray 0)) s.heap.objs.size vs) ks) false vs vs = os at rel ⊢
  have lo : ((srt xs ks).map Prod.fst).length ≤ sizeLine := by
    have := rv.length
    rw [List.length_map, srt, List.length_mergeSort, List.length_zip]
    omega
  obtain ⟨c, gc⟩ := sortedHeap_at (vs := vs) (out := os.toArray) ho
  refine q _ (I.laid (t' := s.toks) (fun b o e => ?_) (Nat.le_refl _) ⟨lo, os, c, rel, gc⟩)
  have lt := Heap.lt_size e
  rw [sortedHeap_old (Nat.ne_of_lt lt) (by rw [size_push']; exact Nat.lt_succ_of_lt lt)]
  exact up b o e
/-- sorted(xs), a list -/
def rSortL (K : PySem.W.Frag) : List V → Hp → VK → Prop := fun vs H Q => ∃ (l : Addr) (xs : List V) (ks : List NestedKey), vs = [.ref l] ∧ SqL K H l xs ∧ NkAll H xs ks ∧ Sbl ks ∧ xs.length ≤ 1000 ∧ ∀ p, H p = none → Q (.ref p) (upd H p (.lst ((srt xs ks).map Prod.fst)))
theorem cr_sortL (un : X.A.units + 64 < cLine) : CallR X (.builtin "sorted") (rSortL X.K) := by
  intro pins s σ H vs us Q I r h
  obtain ⟨l, xs, ks, rfl, hl, nk, sb, lx, q⟩ := h
  rw [Vals.ref1 r]
  obtain ⟨its, rv, pl, hz⟩ := I.list hl
  have lv : its.length ≤ sizeLine := by rw [← rv.length, sizeLine_eq]; omega
  refine Calls.call_function_entry kind_sorted plain_sorted entry_sorted (args_sorted1 _) ?_
  unfold Builtin.«sorted»
  refine wpAny_bind (m := checkCount "sorted" 1 1 _) (wpAny_pure (wpAny_bind (collect_list pl.isList ?_ lv)))
  have k1 : ∀ b o, s.heap.get? b = some o → ((s.heap.push (seqObj "list" #[] 0)).update s.heap.objs.size (Obj.mapSeq (· ++ its.toArray))).get? b = some o := fun b o e => by
    have lt := Heap.lt_size e
    rw [Heap.get?_update_ne _ _ _ _ (Nat.ne_of_lt lt)]
    exact Heap.get?_push_of_some _ e
  have I1 : Inv X pins σ H { s with heap := (s.heap.push (seqObj "list" #[] 0)).update s.heap.objs.size (Obj.mapSeq (· ++ its.toArray)), toks := s.toks } := I.kept k1
  have fresh := I1.hok.fresh (Nat.le_refl _)
  refine wpAny_bind (wpAny_newList ?_ lv)
  refine wpAny_bind (wpAny_holding (sort_tail (Q := fun v s' => wpAny (model X.prog X.w) X.A.in1 (ret v) _ _ s') I1 (by omega) rv nk sb lv _ rfl fun s' J => wpAny_pure ⟨_, rfl, .ref _, _, J, rfl, q _ fresh⟩))
end
end My

set_option Elab.async false
set_option linter.all false
set_option maxRecDepth 100000
set_option maxHeartbeats 4000000
/-! set(xs), sorted(set) of nested tuples. -/
namespace My
open PySem PySem.Spec PyProof.Rows L2 PySem.SeqAt PySem.W
/-- the set at a, but for the tuples themselves -/
def SetW (w : World) (h : Heap) (a : Addr) (M : List Ent) : Prop := ∃ (es : Array (Int × Value)) (ep : Nat) (t : SetTable), (∃ o, h.get? a = some o ∧ o.ExactSet ∧ o.data = .set es ep t) ∧ es.toList = M.map (kept w) ∧ TabOk t (M.map (hsh w)) ∧ (M.map (·.2)).Nodup ∧
  (w.params.followText "set-order" = true ∨ t.led = true) ∧ M.length * 5 < t.mask * 3
theorem SetN.w {w : World} {h : Heap} {a : Addr} {M : List Ent} {es : Array (Int × Value)} {ep : Nat} {t : SetTable} (Z : SetN w h a M es ep t) : SetW w h a M := ⟨es, ep, t, Z.ob, Z.rows, Z.tab, Z.nd, Z.led, Z.room⟩
theorem SetW.full {w : World} {h : Heap} {a : Addr} {M : List Ent} (Z : SetW w h a M) (k : ∀ p ∈ M, KeyAt h p.2 p.1) : ∃ es ep t, SetN w h a M es ep t := let ⟨es, ep, t, a, b, c, d, e, f⟩ := Z; ⟨es, ep, t, a, b, c, d, k, e, f⟩
theorem SetW.nd {w : World} {h : Heap} {a : Addr} {M : List Ent} (Z : SetW w h a M) : (M.map (·.2)).Nodup := let ⟨_, _, _, _, _, _, d, _⟩ := Z; d
def SetO (w : World) (a : Addr) (M : List Ent) : HO := .ext fun h => SetW w h a M
theorem setO_new {P : Program} {w : World} {H : Hp} {h : Heap} {a : Addr} {M : List Ent} (Z : SetW w h a M) : ObjOk P w H h a (SetO w a M) := by
  have ⟨es, ep, t, ⟨o, g, r⟩, q⟩ := Z
  refine ⟨Z, ⟨o, g⟩, fun h1 h2 p k => ?_⟩
  have ⟨es', ep', t', ⟨o', g', r'⟩, q'⟩ := (p : SetW w h1 a M)
  exact ⟨es', ep', t', ⟨o', k o' g', r'⟩, q'⟩
/-- what the set has got of the first i items -/
structure Gets (ks : List Ent) (i : Nat) (M : List Ent) : Prop where
  sub : ∀ p ∈ M, p ∈ ks.take i
  all : ∀ p ∈ ks.take i, p.2 ∈ M.map (·.2)
  len : M.length ≤ i
theorem Gets.none (ks : List Ent) : Gets ks 0 [] := ⟨(fun p h => by cases h), (fun p h => by rw [List.take_zero] at h; cases h), Nat.le_refl _⟩
theorem Gets.next {ks M M' : List Ent} {i : Nat} {x : Ent} (g : Gets ks i M) (e : ks[i]? = some x) (c1 : x.2 ∈ M.map (·.2) → M' = M) (c2 : x.2 ∉ M.map (·.2) → M'.Perm (x :: M)) : Gets ks (i + 1) M' := by
  have tk : ks.take (i + 1) = ks.take i ++ [x] := by rw [List.take_add_one, e]; rfl
  by_cases c : x.2 ∈ M.map (·.2)
  · rw [c1 c]
    refine ⟨fun p hp => ?_, fun p hp => ?_, Nat.le_succ_of_le g.len⟩
    · rw [tk]; exact List.mem_append_left _ (g.sub p hp)
    · rw [tk] at hp
      rcases List.mem_append.mp hp with h | h
      · exact g.all p h
      · rw [List.mem_singleton.mp h]; exact c
  · have pm := c2 c
    refine ⟨fun p hp => ?_, fun p hp => ?_, by rw [pm.length_eq]; exact Nat.succ_le_succ g.len⟩
    · rw [tk]
      rcases List.mem_cons.mp (pm.mem_iff.mp hp) with h | h
      · rw [h]; exact List.mem_append_right _ (.head _)
      · exact List.mem_append_left _ (g.sub p h)
    · rw [(pm.map (·.2)).mem_iff, List.map_cons]
      rw [tk] at hp
      rcases List.mem_append.mp hp with h | h
      · exact .tail _ (g.all p h)
      · rw [List.mem_singleton.mp h]; exact .head _
theorem addsN {P : Program} {w : World} {A : Around} {h0 : Heap} {S : Addr} {wr : List Addr} {ks : List Ent} {n : Nat} {Pv : Nat → Value → Prop} (hn : n = ks.length) (few : ks.length ≤ 76) (pv : ∀ i v, Pv i v → ∃ p, ks[i]? = some p ∧ v = .ref p.1) (kk : ∀ p ∈ ks, KeyAt h0 p.2 p.1) (nS : h0.get? S = none)
    (nw : ∀ b ∈ wr, h0.get? b = none) (Sw : S ∉ wr) (un : A.units + 8 < cLine) : Adds P w A S wr n Pv (fun i h => (∃ M es ep t, SetN w h S M es ep t ∧ Gets ks i M) ∧ ∀ b o, h0.get? b = some o → h.get? b = some o) where
  stay := fun i h h' ⟨⟨M, es, ep, t, Z, g⟩, kp⟩ st => by
    have kp' : ∀ b o, h0.get? b = some o → h'.get? b = some o := fun b o e => st b o (fun z => by rw [nw b z] at e; cases e) (kp b o e)
    obtain ⟨o, g1, g2⟩ := Z.ob
    exact ⟨⟨M, es, ep, t, ⟨⟨o, st _ _ Sw g1, g2⟩, Z.rows, Z.tab, Z.nd, fun p hp => (kk p (List.mem_of_mem_take (g.sub p hp))).stay fun b o _ _ e _ => kp' b o e, Z.led, Z.room⟩, g⟩, kp'⟩
  add := fun i v s Q E lt pvi ⟨⟨M, es, ep, t, Z, g⟩, kp⟩ q => by
    obtain ⟨p, ep, rfl⟩ := pv i v pvi
    have kx : KeyAt s.heap p.2 p.1 := (kk p (List.mem_of_getElem? ep)).stay fun b o _ _ e _ => kp b o e
    unfold setAdd
    refine wpAny_holding (wpAny_bind ((nestedKind P w).pyHash un kx ?_))
    refine addN (s := { s with toks := s.toks + p.2.draws }) Z kx un (by have := g.len; omega) fun b h' M' es' ep' t' sb Z' c1 c2 => q b h' _ ⟨⟨M', es', ep', t', Z', g.next ep c1 c2⟩, fun c o e => ?_⟩ (Nat.le_add_right _ _) sb
    exact (sb.2 c (fun z => by rw [z, nS] at e; cases e)).trans (kp c o e)
theorem fresh_set {w : World} {h : Heap} {a : Addr} (g : h.get? a = some (freshSet w)) : SetN w h a [] #[] 0 (.fresh 0 0 (!w.params.followText "set-order")) where
  ob := ⟨_, g, ⟨rfl, rfl, rfl⟩, rfl⟩
  rows := rfl
  tab := ⟨List.Pairwise.nil, rfl, rfl, .inl rfl, (fun x hx => by cases hx), fun i h j hi => by simp at hi⟩
  nd := List.nodup_nil
  key := fun p hp => by cases hp
  led := by
    cases e : w.params.followText "set-order"
    · exact .inr rfl
    · exact .inl rfl
  room := by show 0 * 5 < 7 * 3; decide
theorem vals_ref : ∀ {ks : List Ent} {us : List Value}, Vals (ks.map fun p => V.ref p.1) us → us = ks.map fun p => Value.ref p.1
  | [], _, .nil => rfl
  | p :: ks, _, .cons r t => by cases r; rw [vals_ref t]; rfl
theorem ref_vals : ∀ (ks : List Ent), Vals (ks.map fun p => V.ref p.1) (ks.map fun p => Value.ref p.1)
  | [] => .nil
  | p :: ks => .cons rfl (ref_vals ks)
section
variable {X : Cx}
theorem Nk.keyAt {pins : List (Addr × Obj)} {σ : L2.St} {H : Hp} {s : Shared} (I : Inv X pins σ H s) {k : NestedKey} {a : Addr} (n : Nk H (.ref a) k) (d : k.depth ≤ 8) : KeyAt s.heap k a := ⟨(n.ns I rfl).is, d⟩
/-- set(xs), xs a list of nested tuples -/
def rSetN (K : PySem.W.Frag) (w : World) : List V → Hp → VK → Prop := fun xs H Q => ∃ (l : Addr) (ks : List Ent), xs = [V.ref l] ∧ SqL K H l (ks.map fun p => V.ref p.1) ∧ (∀ p ∈ ks, Nk H (.ref p.1) p.2 ∧ p.2.depth ≤ 8) ∧ ks.length ≤ 76 ∧
  ∀ a M, H a = none → (∀ p ∈ M, p ∈ ks) → (∀ p ∈ ks, p.2 ∈ M.map (·.2)) → (M.map (·.2)).Nodup → Q (.ref a) (upd H a (SetO w a M))
theorem cr_setN (hc : X.calm = true) (hu : X.A.units + 64 < cLine) : CallR X (.type "set") (rSetN X.K X.w) := by
  intro pins s σ H xs us Q I r h
  obtain ⟨l, ks, rfl, hl, hk, few, q⟩ := h
  rw [Vals.ref1 r]
  obtain ⟨its, rv, pl, hz⟩ := I.list hl
  have ei := vals_ref rv
  have non : ∀ b, s.heap.objs.size ≤ b → s.heap.get? b = none := fun b lb => by
    cases e : s.heap.get? b with
    | none => rfl
    | some o => exact absurd (Nat.lt_of_lt_of_le (Heap.lt_size e) lb) (Nat.lt_irrefl _)
  refine callG (P := X.prog) (w := X.w) (items := its.toArray) (I.ok.hd hc) pl.isList (addsN (h0 := s.heap) (ks := ks) (by rw [List.size_toArray, ei, List.length_map]) few (fun i v e => ?_) (fun p hp => (hk p hp).1.keyAt I (hk p hp).2) (non _ (Nat.le_refl _)) (fun b hb => ?_) ?_ (by show X.A.units + 1 + 1 + 1 + 8 < cLine; omega))
    (fun h g kp => ⟨⟨[], _, _, _, fresh_set g, .none ks⟩, kp⟩) fun h' tk t1 kp => ?_
  · rw [List.getElem?_toArray, ei, List.getElem?_map] at e
    cases e2 : ks[i]? with
    | none => rw [e2] at e; cases e
    | some p => rw [e2] at e; exact ⟨p, rfl, (Option.some.inj e).symm⟩
  · rw [List.mem_singleton.mp hb]; exact non _ (Nat.le_succ _)
  · intro z
    exact Nat.ne_of_lt (Nat.lt_succ_self _) (List.mem_singleton.mp z)
  · obtain ⟨⟨M, es, ep, t, Z, g⟩, _⟩ := t1
    rw [List.size_toArray, ei, List.length_map] at g
    refine ⟨.ref s.heap.objs.size, upd H s.heap.objs.size (SetO X.w s.heap.objs.size M), I.laid (t' := tk) kp (Nat.le_refl _) (setO_new Z.w), rfl, q _ M (I.hok.fresh (Nat.le_refl _)) (fun p hp => List.mem_of_mem_take (g.sub p hp)) (fun p hp => g.all p (by rw [List.take_length]; exact hp)) Z.nd⟩
/-- sorted(set) -/
def rSortS (w : World) : List V → Hp → VK → Prop := fun vs H Q => ∃ (a : Addr) (M : List Ent), vs = [V.ref a] ∧ H a = some (SetO w a M) ∧ (∀ p ∈ M, Nk H (.ref p.1) p.2 ∧ p.2.depth ≤ 8) ∧ Sbl (M.map (·.2)) ∧
  ∀ (M' : List Ent) (p : Addr), M'.Perm M → H p = none → Q (.ref p) (upd H p (.lst ((srt (M'.map fun q => V.ref q.1) (M'.map (·.2))).map Prod.fst)))
theorem perm_lift {α β : Type} {f : α → β} {l m : List β} (p : l.Perm m) : ∀ M : List α, m = M.map f → ∃ M' : List α, M'.Perm M ∧ l = M'.map f := by
  induction p with
  | nil =>
    intro M e
    cases M with
    | nil => exact ⟨[], .nil, rfl⟩
    | cons a M => cases e
  | cons x p ih =>
    intro M e
    cases M with
    | nil => cases e
    | cons a M =>
      rw [List.map_cons] at e
      injection e with e1 e2
      obtain ⟨M', pm, rfl⟩ := ih M e2
      exact ⟨a :: M', pm.cons a, by rw [List.map_cons, e1]⟩
  | swap x y l =>
    intro M e
    match M, e with
    | a :: b :: M, e =>
      rw [List.map_cons, List.map_cons] at e
      injection e with e1 e2
      injection e2 with e2 e3
      exact ⟨b :: a :: M, .swap _ _ _, by rw [List.map_cons, List.map_cons, e1, e2, e3]⟩
  | trans p q ih1 ih2 =>
    intro M e
    obtain ⟨M1, p1, e1⟩ := ih2 M e
    obtain ⟨M2, p2, e2⟩ := ih1 M1 e1
    exact ⟨M2, p2.trans p1, e2⟩
theorem nk_ents {H : Hp} : ∀ {M : List Ent}, (∀ p ∈ M, Nk H (.ref p.1) p.2) → NkAll H (M.map fun p => V.ref p.1) (M.map (·.2))
  | [], _ => .nil
  | p :: M, h => .cons (h p (.head _)) (nk_ents fun q hq => h q (.tail _ hq))
theorem cr_sortS (hc : X.calm = true) (hu : X.A.units + 64 < cLine) : CallR X (.builtin "sorted") (rSortS X.w) := by
  intro pins s σ H vs us Q I r h
  obtain ⟨a, M, rfl, ha, hk, sb, q⟩ := h
  rw [Vals.ref1 r]
  obtain ⟨es, ep, t, Z⟩ := SetW.full (I.hok a _ ha).1 fun p hp => (hk p hp).1.keyAt I (hk p hp).2
  obtain ⟨o, g1, g2, g3⟩ := Z.ob
  have sz := Z.size
  have l3 := Z.room
  have lM : M.length ≤ 76 := by rcases Z.tab.mok with e | e | e <;> rw [e] at l3 <;> omega
  refine Calls.call_function_entry kind_sorted plain_sorted entry_sorted (args_sorted1 _) ?_
  unfold Builtin.«sorted»
  refine wpAny_bind (m := checkCount "sorted" 1 1 _) (wpAny_pure (wpAny_bind (collect_set (A := X.A.in1) (I.ok.hd hc) ⟨o, g1, g2.1, g3⟩ Z.fits (by unfold scanBound; omega) Z.tab.ris Z.led fun s1 vs k1 hz e1 e2 pm => ?_)))
  rw [Z.rows, List.map_map] at pm
  obtain ⟨M', pM, rfl⟩ := perm_lift pm M rfl
  have I1 : Inv X pins σ H s1 := I.call' (ch := []) e2 (Un.kept k1) (I.hok.kept k1) (by rw [e1]; exact I.bare) (fun _ z => nomatch z)
  have fresh := I1.hok.fresh (Nat.le_refl _)
  have lv : (M'.map fun q => Value.ref q.1).length ≤ sizeLine := by rw [List.length_map, pM.length_eq, sizeLine_eq]; omega
  have sb' : Sbl (M'.map (·.2)) := ⟨sb.heads.imp (fun h k hk => h k ((pM.map (·.2)).mem_iff.mp hk)) (fun h k hk => h k ((pM.map (·.2)).mem_iff.mp hk)), fun k hk k' hk' => sb.cmp k ((pM.map (·.2)).mem_iff.mp hk) k' ((pM.map (·.2)).mem_iff.mp hk'), fun k hk => sb.deep k ((pM.map (·.2)).mem_iff.mp hk)⟩
  refine wpAny_bind (wpAny_newList ?_ lv)
  refine wpAny_bind (wpAny_holding (sort_tail (Q := fun v s' => wpAny (model X.prog X.w) X.A.in1 (ret v) _ _ s') I1 (by omega) (ref_vals M') (nk_ents fun p hp => (hk p (pM.mem_iff.mp hp)).1) sb' lv _ rfl fun s' J => wpAny_pure ⟨_, rfl, .ref _, _, J, rfl, q M' _ pM fresh⟩))
end
end My

set_option Elab.async false
set_option linter.all false
set_option maxRecDepth 100000
set_option maxHeartbeats 2000000
/-! {x for .. in ..}, x a tuple of numbers, texts and such tuples. -/
namespace My
open PySem PySem.Spec PyProof.Rows L2 PySem.SeqAt PySem.W
section
variable {X : Cx}
/-- D.add(x) -/
theorem add_in {pins : List (Addr × Obj)} {σ : L2.St} {H : Hp} {s : Shared} {E : Value → Shared → Prop} {D a : Addr} {M : List Ent} {k : NestedKey} {Q : Value → Shared → Prop} (hu : X.A.units + 64 < cLine) (I : L2.Inv X pins σ H s) (hD : H D = some (SetO X.w D M))
    (hM : ∀ p ∈ M, Nk H (.ref p.1) p.2 ∧ p.2.depth ≤ 8) (hk : Nk H (.ref a) k) (dk : k.depth ≤ 8) (few : M.length < 76)
    (q : ∀ M' s', (k ∈ M.map (·.2) → M' = M) → (k ∉ M.map (·.2) → M'.Perm ((a, k) :: M)) → L2.Inv X pins σ (upd H D (SetO X.w D M')) s' → Q .none s') : wpAny (model X.prog X.w) X.A (call (.builtin "set.add") [.ref D, .ref a]) Q E s := by
  have Z0 : SetW X.w s.heap D M := (I.hok D _ hD).1
  obtain ⟨es, ep, t, Z⟩ := Z0.full fun p hp => Nk.keyAt I (hM p hp).1 (hM p hp).2
  obtain ⟨o, g1, g2, g3⟩ := Z.ob
  have kx : KeyAt s.heap k a := hk.keyAt I dk
  refine wpAny_call_entry PySem.F.slot_set_add ⟨o, g1, g2.1⟩ PySem.F.entry_set_add ?_ (PySem.F.args_set_add_2 _ _)
  unfold Builtin.«set.add» Builtin.Frozenset.oneOther Builtin.Frozenset.addrOf setAdd
  simp only [List.isEmpty_nil, bind_assoc]
  refine wpAny_bind (wpAny_pure ?_)
  try dsimp only
  refine wpAny_bind (wpAny_pure (wpAny_bind (wpAny_holding (wpAny_bind ((nestedKind X.prog X.w).pyHash (by show X.A.units + 1 + 8 < cLine; omega) kx ?_)))))
  refine addN (s := { s with toks := s.toks + k.draws }) Z kx (by show X.A.units + 1 + 8 < cLine; omega) few fun b h' M' es' ep' t' sb Z' c1 c2 => ?_
  obtain ⟨o', g', _⟩ := Z'.ob
  exact wpAny_pure ⟨_, rfl, q M' _ c1 c2 (I.write (e := D) (t' := s.toks + k.draws) (by rw [hD]; trivial) (.inl rfl) (fun b u hb hu => (sb.2 b hb).trans hu) ⟨o', g'⟩ (setO_new Z'.w))⟩
def ScStep (w : World) (J : It) (g : TG) (tt : TT) (te : TE) (vs : List Nat) (σ : L2.St) (D : Addr) (Qd : Hp → Prop) (W : Nat → Nat → Hp → Prop) (i m : Nat) (H : Hp) : Prop :=
  (J.stop i H ∧ Qd H) ∨ (J.go i H ∧ ∃ Nx : Hp → Prop, (∀ H', Nx H' → ∃ m', m' < m ∧ W (i + 1) m' H') ∧ ∀ x H', J.yld i H x H' →
    g x (wipe σ vs) H' fun σ2 H2 => wipe σ2 vs = wipe σ vs ∧ tt σ2 H2 fun b H3 => if b = true then te σ2 H3 fun y H4 =>
      ∃ a k M, y = .ref a ∧ H4 D = some (SetO w D M) ∧ (∀ p ∈ M, Nk H4 (.ref p.1) p.2 ∧ p.2.depth ≤ 8) ∧ Nk H4 (.ref a) k ∧ k.depth ≤ 8 ∧ M.length < 76 ∧ (∀ M', (k ∈ M.map (·.2) → M' = M) → (k ∉ M.map (·.2) → M'.Perm ((a, k) :: M)) → Nx (upd H4 D (SetO w D M'))) else Nx H3)
def tScN (w : World) (wi : TI) (g : TG) (tt : TT) (te : TE) (vs : List Nat) : TE := fun σ H Q => wi σ H fun J H1 => ∀ D, H1 D = none →
  ∃ W : Nat → Nat → Hp → Prop, (∃ m, W 0 m (upd H1 D (SetO w D []))) ∧ ∀ i m H', W i m H' → ScStep w J g tt te vs σ D (fun H2 => Q (.ref D) H2) W i m H'
theorem scN_core {pins : List (Addr × Obj)} {s : Shared} {σ : L2.St} {H : Hp} {Q : VK} {ex tg iter : Expr} {ifs : List Expr} {scope : Scope} {own : List (Str × Nat)} {pos pos' : Pos} {wi : TI} {g : TG} {tt : TT} {te : TE} {use : Option (Value → Sem Unit)} {Qf : Value → Shared → Prop}
    (hu : X.A.units + 64 < cLine) (calm : X.calm = true) (nd : X.N.Nodup) (I : L2.Inv X pins σ H s) (hi : PI X tg iter wi) (ok : BlkOk X.N X.env.scope scope own)
    (hg : ∀ s H C cl fp, PG (Blk X scope s H C cl fp) tg g) (ht : ∀ s H C cl fp, PTs (Blk X scope s H C cl fp) ifs tt) (he : ∀ s H C cl fp, PE (Blk X scope s H C cl fp) ex te)
    (fold : ∀ x, foldedSetIterable iter X.env x = pure x) (h : tScN X.w wi g tt te (own.map (·.2)) σ H Q)
    (back : ∀ D C s' m H', L2.Inv X pins σ H' s' → Q (.ref D) H' → s'.heap.Ns C m → FpOk X pins H' C → compPost (model X.prog X.w) X.A X.xe use Qf (.ref D) C (.ok .next) s') :
    wpAny (model X.prog X.w) X.A (comprehension (.SetComp ex [⟨tg, iter, ifs, 0⟩] scope pos) scope X.env pos' (newSet (.type "set")) false (eval iter X.env) use) Qf X.xe s := by
  have free : ∀ y ∈ scope.names, y.2 = .free → ∃ c, X.env.cells.lookup y.1 = some c := by
    intro y hy e
    exact (ok.free y hy e).elim (fun k => I.ok.has _ (.inl k)) fun k => I.ok.has _ (.inr k)
  refine wpAny_comprehension_free (use := use) rfl fold (closure_ok free) ok.kind (fun y hy e => by rw [ok.uniq y hy, e]) (thn (hi.run pins s σ H _ I h) fun xv s1 hx => thn hx ?_)
  rintro itv s2 ⟨it, fp, tn, J, H2, rfl, I2, T, st2, f2, q⟩
  refine PpSet.newSet_ok (newEnv_comp ?_)
  obtain ⟨D, hD⟩ : ∃ D, D = s2.heap.objs.size := ⟨_, rfl⟩
  rw [← hD]
  have fresh : H2 D = none := I2.hok.fresh (Nat.le_of_eq hD.symm)
  obtain ⟨W, ⟨m0, w0⟩, turn⟩ := q D fresh
  obtain ⟨s3, hs3⟩ : ∃ s3 : Shared, s3 = { s2 with heap := s2.heap.push (freshSet X.w) } := ⟨_, rfl⟩
  have I3 : L2.Inv X pins σ (upd H2 D (SetO X.w D [])) s3 := by
    rw [hs3]
    refine I2.laid (t' := s2.toks) (fun b o e => Heap.get?_push_of_some _ e) (Nat.le_of_eq hD.symm) ?_
    rw [hD]
    exact setO_new (fresh_set (Heap.get?_push_size _ rfl)).w
  have h3 : s3.heap = s2.heap.push (freshSet X.w) := by rw [hs3]
  have old : ∀ b ∈ fp, b < s2.heap.objs.size := fun b hb => let ⟨o, e, _⟩ := T.obj _ _ st2 b hb; Heap.lt_size e
  have f3 : ∀ b ∈ fp, FpOk X pins (upd H2 D (SetO X.w D [])) b ∧ b < s3.heap.objs.size := by
    intro b hb
    have lt := old b hb
    refine ⟨⟨?_, (f2 b hb).2⟩, by rw [h3, Heap.size_push]; exact Nat.lt_succ_of_lt lt⟩
    rw [upd_ne (by rw [hD]; exact Nat.ne_of_lt lt)]
    exact (f2 b hb).1
  have st3 : tn 0 s3.heap := T.keep _ _ _ st2 fun b _ o e => by rw [h3]; exact Heap.get?_push_of_some _ e
  have I4 := block_start I3 ok nd f3
  obtain ⟨cl, hcl⟩ : ∃ cl, cl = cellsFrom (s3.heap.objs.size + 1) scope.names (cloFrom X.env.cells scope.names []) := ⟨_, rfl⟩
  obtain ⟨C, hC⟩ : ∃ C, C = s3.heap.objs.size := ⟨_, rfl⟩
  obtain ⟨H3, hH3⟩ : ∃ H3, H3 = upd H2 D (SetO X.w D []) := ⟨_, rfl⟩
  rw [← hcl, ← hC, ← hH3] at I4
  rw [← hH3] at I3 f3 w0
  obtain ⟨s4, hs4⟩ : ∃ s4 : Shared, s4 = { s3 with heap := pushCells (s3.heap.push { cls := .type "dict", data := .dict #[] }) scope.names } := ⟨_, rfl⟩
  rw [← hs4] at I4
  rw [show ({ s2 with heap := s2.heap.push { cls := .type "set", dict := none, data := .set #[] 0 (.fresh 0 0 (!X.w.params.followText "set-order")) } } : Shared) = s3 from hs3.symm]
  show codeAny _ _ (.compStart (.SetComp ex [⟨tg, iter, ifs, 0⟩] scope pos) 0 (.ref it) (.ref D) (compEnvC scope (cellsFrom (s3.heap.objs.size + 1) scope.names (cloFrom X.env.cells scope.names [])) s3.heap.objs.size X.env)) (compPost (model X.prog X.w) X.A X.xe use Qf (.ref D) s3.heap.objs.size) { s3 with heap := pushCells (s3.heap.push { cls := .type "dict", data := .dict #[] }) scope.names }
  rw [← hcl, ← hC, ← hs4]
  have pg := hg s3 H3 C cl fp
  have pt := ht s3 H3 C cl fp
  have pe := he s3 H3 C cl fp
  have cL : (compEnvC scope cl C X.env).locals = C := rfl
  have nfp : ∀ b ∈ fp, H3 b = none := fun b hb => (f3 b hb).1.1
  have st4 : tn 0 s4.heap := T.keep _ _ _ st3 fun b _ o e => by rw [hs4]; exact pushCells_keeps _ _ _ _ (Heap.get?_push_of_some _ e)
  have stat : ∀ {σ' : L2.St} {H' : Hp} {s' : Shared}, L2.Inv (Blk X scope s3 H3 C cl fp) [] σ' H' s' → (∀ b ∈ fp, H' b = none) → ∀ b ∈ fp, FpOk (Blk X scope s3 H3 C cl fp) [] H' b := by
    intro σ' H' s' I' hn b hb
    exact ⟨hn b hb, (I'.ok.exf b hb).1, I'.ok.exfs b hb, .inl hb, fun x c e => (I'.ok.exf b hb).2 x c e, fun p hp => absurd (show p ∈ ([] : List (Addr × Obj)) ++ [] from hp) (by simp)⟩
  have loop : codeAny (model X.prog X.w) X.A (.compLoop (.SetComp ex [⟨tg, iter, ifs, 0⟩] scope pos) 0 (.ref it) (.ref D) (compEnvC scope cl C X.env)) (compPost (model X.prog X.w) X.A X.xe use Qf (.ref D) C) s4 := by
    refine PpSet.compLoopS_any (fun n s' => ∃ i H', L2.Inv (Blk X scope s3 H3 C cl fp) [] (wipe σ (own.map (·.2))) H' s' ∧ tn i s'.heap ∧ (∀ b ∈ fp, H' b = none) ∧ W i n H') ?_ m0 ⟨0, H3, I4, st4, nfp, w0⟩
    rintro n s5 ⟨i, H5, I5, st5, n5, w5⟩
    rcases turn i n H5 w5 with ⟨stop, qq⟩ | ⟨go, Nx, hNx, step⟩
    · refine thnF (T.done (Blk X scope s3 H3 C cl fp) rfl rfl rfl calm i [] s5 _ H5 (fun _ _ => False) I5 (stat I5 n5) st5 stop) ?_
      rintro r s6 ⟨rfl, I6⟩
      have I7 : L2.Inv X pins σ H5 s6 := I3.call' (ch := fp) I6.os I6.base I6.hok I6.bare fun b hb => ⟨(f3 b hb).1.2.2.2.1, (f3 b hb).1.2.1, (f3 b hb).1.2.2.2.2.1, (f3 b hb).1.2.2.2.2.2⟩
      have nC : H5 C = none := I6.free
      obtain ⟨m, hn, _⟩ := I6.loc
      exact back D C s6 m H5 I7 qq hn (I3.fpOk (Nat.le_of_eq hC.symm) nC)
    · refine thnF (T.item (Blk X scope s3 H3 C cl fp) rfl rfl rfl calm i [] s5 _ H5 (fun _ _ => False) I5 (stat I5 n5) st5 go) ?_
      rintro r s6 ⟨u, rfl, h6⟩
      refine thnF h6 ?_
      rintro _ s7 ⟨x, H7, I7, r7, y7, st7, n7⟩
      refine thnF (pg.run _ s7 _ H7 x u _ (I7.pinned (stat I7 n7) (T.obj _ _ st7)) r7 (step x H7 y7)) ?_
      rintro _ s8 ⟨σ8, H8, I8, hw8, q8⟩
      refine thnF (pt.run _ s8 σ8 H8 _ I8 q8) ?_
      rintro b s9 ⟨H9, I9, q9⟩
      have fin : ∀ {s' : Shared} {H' : Hp}, L2.Inv (Blk X scope s3 H3 C cl fp) ([] ++ pinsAt fp s7.heap) σ8 H' s' → Nx H' → ∃ m, m < n ∧ ∃ i H', L2.Inv (Blk X scope s3 H3 C cl fp) [] (wipe σ (own.map (·.2))) H' s' ∧ tn i s'.heap ∧ (∀ b ∈ fp, H' b = none) ∧ W i m H' := by
        intro s' H' I' nx
        obtain ⟨m', lt, w'⟩ := hNx H' nx
        have pin : ∀ b ∈ fp, ∀ o, s7.heap.get? b = some o → s'.heap.get? b = some o ∧ H' b = none := by
          intro b hb o e
          have z := I'.pin (b, o) (List.mem_append_right _ (List.mem_append_right _ (mem_pinsAt hb e)))
          exact ⟨z.1, z.2.1⟩
        refine ⟨m', lt, i + 1, H', (I'.unpinned (pins := [])).weak (by rw [← hw8, wipe_length]) (fun j v e => ?_), T.keep _ _ _ st7 fun b hb o e => (pin b hb o e).1, fun b hb => ?_, w'⟩
        · rw [← hw8] at e
          exact (wipe_some e).1
        · obtain ⟨o, e, _⟩ := T.obj _ _ st7 b hb
          exact (pin b hb o e).2
      cases b with
      | false =>
        simp only [Bool.false_eq_true, if_false] at q9 ⊢
        exact fin I9 q9
      | true =>
        simp only [if_true] at q9 ⊢
        refine thnF (pe.run _ s9 σ8 H9 _ I9 q9) ?_
        rintro z s10 ⟨y, H10, I10, r10, a, k, M, rfl, hD10, hM, nk, dk, few, nx⟩
        cases r10
        exact add_in (X := Blk X scope s3 H3 C cl fp) hu I10 hD10 hM nk dk few fun M' s11 c1 c2 I11 => fin I11 (nx M' c1 c2)
  exact PpSet.codeAny_compStart_set loop (T.self X.A 0 _ _ _ st4 loop)
end
section
variable {X : Cx} {ex tg iter : Expr} {ifs : List Expr} {scope : Scope} {own : List (Str × Nat)} {pos : Pos} {wi : TI} {g : TG} {tt : TT} {te : TE}
/-- as a value -/
theorem pe_scN (hu : X.A.units + 64 < cLine) (calm : X.calm = true) (nd : X.N.Nodup) (hi : PI X tg iter wi) (ok : BlkOk X.N X.env.scope scope own)
    (hg : ∀ s H C cl fp, PG (Blk X scope s H C cl fp) tg g) (ht : ∀ s H C cl fp, PTs (Blk X scope s H C cl fp) ifs tt) (he : ∀ s H C cl fp, PE (Blk X scope s H C cl fp) ex te)
    (fold : ∀ x, foldedSetIterable iter X.env x = pure x := by intro _; rfl) : PE X (.SetComp ex [⟨tg, iter, ifs, 0⟩] scope pos) (tScN X.w wi g tt te (own.map (·.2))) := by
  constructor
  intro pins s σ H Q I h
  rw [PpSet.eval_SetComp]
  refine scN_core hu calm nd I hi ok hg ht he fold h ?_
  rintro D C s' m H' I' q hn ⟨f0, f1, f2, f3, f4, f5⟩
  exact ⟨m, hn, fun h2 sb => ⟨.ref D, H', I'.turned (t' := s'.toks) (fun b o hb e => (sb.2 b hb).trans e) f0 f1 f3 f4 f5, rfl, q⟩⟩
end
/-- a walk's turns -/
theorem scN_it {w : World} {J : It} {n : Nat} {G : Hp → Prop} {Y : Nat → Hp → V → Hp → Prop} (wk : Walk J n G Y) {g : TG} {tt : TT} {te : TE} {vs : List Nat} {σ : L2.St} {H1 : Hp} {D : Addr} {Qd : Hp → Prop} (Pv : Nat → Hp → Prop) (h0 : Pv 0 (upd H1 D (SetO w D []))) (hG : ∀ i H, i ≤ n → Pv i H → G H)
    (hs : ∀ i x H H', i < n → Pv i H → Y i H x H' → g x (wipe σ vs) H' fun σ2 H2 => wipe σ2 vs = wipe σ vs ∧ tt σ2 H2 fun b H3 => if b = true then te σ2 H3 fun y H4 =>
      ∃ a k M, y = .ref a ∧ H4 D = some (SetO w D M) ∧ (∀ p ∈ M, Nk H4 (.ref p.1) p.2 ∧ p.2.depth ≤ 8) ∧ Nk H4 (.ref a) k ∧ k.depth ≤ 8 ∧ M.length < 76 ∧ (∀ M', (k ∈ M.map (·.2) → M' = M) → (k ∉ M.map (·.2) → M'.Perm ((a, k) :: M)) → Pv (i + 1) (upd H4 D (SetO w D M'))) else Pv (i + 1) H3)
    (hd : ∀ H, Pv n H → Qd H) : ∃ W : Nat → Nat → Hp → Prop, (∃ m, W 0 m (upd H1 D (SetO w D []))) ∧ ∀ i m H', W i m H' → ScStep w J g tt te vs σ D Qd W i m H' := by
  refine ⟨fun i m H => m = n - i ∧ i ≤ n ∧ Pv i H, ⟨n, by simp, Nat.zero_le _, h0⟩, ?_⟩
  rintro i m H ⟨rfl, hi, p⟩
  have q := hG i H hi p
  by_cases lt : i < n
  · exact .inr ⟨wk.goes i H lt q, Pv (i + 1), fun H' p' => ⟨n - (i + 1), by omega, rfl, lt, p'⟩, fun x H' y => hs i x H H' lt p (wk.yields i H x H' lt q y)⟩
  · obtain rfl : i = n := by omega
    exact .inl ⟨wk.stops H q, hd H p⟩
end My

set_option Elab.async false
set_option linter.all false
set_option maxRecDepth 100000
set_option maxHeartbeats 2000000
/-! sorted(xs, key=f), xs a list of tuples. -/
namespace My
open PySem PySem.Spec PyProof.Rows L2 PySem.SeqAt
theorem un64 {k : Nat} {A : Around} (r : Room k A) : A.units + 64 < cLine := by have := r.un; omega
section
variable {X : Cx} {f : Addr} {fd : FuncData} {ps : List Str} {j : Nat} {F : NestedKey → NestedKey} {C : NestedKey → Prop}
def rSortKL (K : PySem.W.Frag) (f : Addr) (F : NestedKey → NestedKey) (C : NestedKey → Prop) : List V → List V → Hp → VK → Prop := fun vs zs H Q => ∃ (l : Addr) (xs : List V) (ks : List NestedKey), vs = [.ref l] ∧ zs = [.ref f] ∧ SqL K H l xs ∧ NkAll H xs ks ∧ (∀ k ∈ ks, C k) ∧
  (∀ k ∈ ks, ∃ i r, F k = .tup (.num i :: r)) ∧ (∀ k ∈ ks, ∀ k' ∈ ks, ∃ c, ltK (F k) (F k') = some c) ∧ (∀ k ∈ ks, (F k).depth ≤ 50) ∧ xs.length ≤ 1000 ∧ ∀ H' p, Same H H' → H' p = none → H p = none → Q (.ref p) (upd H' p (.lst (((xs.zip ks).mergeSort (leF F)).map Prod.fst)))
theorem cr_sortKL (G : FnOk X.prog X.w X.K X.mg X.base CX0 j f fd ps (spKey F C)) (hr : Room (j + 1) X.A) (hb : Binds X.K fd ps []) : CallRK X (.builtin "sorted") [Str.ofString "key"] (rSortKL X.K f F C) := by
  intro pins s σ H vs zs us ws Q I r1 r2 h
  obtain ⟨l, xs, ks, rfl, rfl, hl, nk, hC, hh, hc, hd, lx, q⟩ := h
  obtain ⟨u, rfl, ru⟩ := vals1 r1
  obtain ⟨u2, rfl, ru2⟩ := vals1 r2
  cases ru
  cases ru2
  obtain ⟨its, rv, pl, hz⟩ := I.list hl
  have lv : its.length ≤ sizeLine := by rw [← rv.length, sizeLine_eq]; omega
  show wpAny _ _ (call (.builtin "sorted") [.ref l] [(Str.ofString "key", .ref f)]) _ _ _
  refine call_function_entry_kw kind_sorted plain_sorted entry_sorted (ksk_s1 _ _) ?_
  unfold Builtin.«sorted»
  refine wpAny_bind (m := checkCount "sorted" 1 1 _) (wpAny_pure ?_)
  refine wpAny_bind (collect_list pl.isList ?_ lv)
  have k1 : ∀ b o, s.heap.get? b = some o → ((s.heap.push (seqObj "list" #[] 0)).update s.heap.objs.size (Obj.mapSeq (· ++ its.toArray))).get? b = some o := fun b o e => by
    have lt := Heap.lt_size e
    rw [Heap.get?_update_ne _ _ _ _ (Nat.ne_of_lt lt)]
    exact Heap.get?_push_of_some _ e
  have I1 : Inv X pins σ H { s with heap := (s.heap.push (seqObj "list" #[] 0)).update s.heap.objs.size (Obj.mapSeq (· ++ its.toArray)), toks := s.toks } := I.kept k1
  generalize (s.heap.push (seqObj "list" #[] 0)).update s.heap.objs.size (Obj.mapSeq (· ++ its.toArray)) = h' at I1 ⊢
  refine wpAny_bind (wpAny_newList ?_ lv)
  show wpAny _ _ _ _ _ { s with heap := h'.push (seqObj "list" its.toArray 0), toks := s.toks }
  have I2 : L2.Inv X pins σ H { s with heap := h'.push (seqObj "list" its.toArray 0), toks := s.toks } := I1.kept (t' := s.toks) fun b u e => Heap.get?_push_of_some _ e
  have hoL : (h'.push (seqObj "list" its.toArray 0)).get? h'.objs.size = some (seqObj "list" its.toArray 0) := Heap.get?_push_size _ rfl
  have fresh : H h'.objs.size = none := I1.hok.fresh (Nat.le_refl _)
  have fp : FpOk X pins H h'.objs.size := I1.fpOk (Nat.le_refl _) fresh
  refine wpAny_bind (wpAny_holding (wpAny_call_entry_kw slot_list_sort ⟨_, hoL, rfl⟩ entry_list_sort ?_ (ksk_l1 _ _)))
  rw [ksk_t1]
  refine sort_key (X := X) (pins := pins) (σ := σ) (H := H) (s := { s with heap := h'.push (seqObj "list" its.toArray 0), toks := s.toks }) G hr hb I2 fp hoL rv nk hC hh hc hd lv fun H' s' sm nh I3 => ?_
  exact ⟨_, rfl, wpAny_pure ⟨_, rfl, .ref h'.objs.size, _, I3, rfl, q H' _ sm nh fresh⟩⟩
end
end My

set_option Elab.async false
set_option linter.all false
set_option maxRecDepth 100000
set_option maxHeartbeats 2000000
/-! Pairs of texts in order. -/
namespace My
open PySem PySem.Spec PyProof.Rows L2 PySem.SeqAt PySem.W
def sayK (p : Str × Str) : NestedKey := .tup [.text p.1, .text p.2]
theorem sayK_inj {p q : Str × Str} (e : sayK p = sayK q) : p = q := by
  unfold sayK at e
  injection e with e
  simp only [List.cons.injEq, NestedKey.text.injEq, and_true] at e
  exact Prod.ext e.1 e.2
theorem say_depth (p : Str × Str) : (sayK p).depth ≤ 8 := by
  unfold sayK
  simp only [NestedKey.depthAll, NestedKey.depth]
  decide
theorem say_lt (p q : Str × Str) : ∃ c, ltK (sayK p) (sayK q) = some c := by
  unfold sayK
  rw [ltK]
  exact lt_step (lt_text _ _) (lt_step (lt_text _ _) lt_nil)
def befK (a b : NestedKey) : Bool := lexT (toks a) (toks b)
theorem bef_lt (p q : Str × Str) : ltK (sayK p) (sayK q) = some (befK (sayK p) (sayK q)) := by
  obtain ⟨c, e⟩ := say_lt p q
  rw [e]
  unfold sayK at e
  rw [ltK] at e
  exact congrArg some (lex_tup e).symm
theorem bef_flip {p q : Str × Str} (ne : p ≠ q) : befK (sayK q) (sayK p) = !befK (sayK p) (sayK q) := by
  have h1 := bef_lt p q
  have h2 := bef_lt q p
  rw [flipK _ _ _ (fun z => ne (sayK_inj z)) h1] at h2
  exact (Option.some.inj h2).symm
/-- strictly rising -/
def Rs (l : List NestedKey) : Prop := l.Pairwise fun a b => befK a b = true
theorem rs_unique : ∀ {l m : List NestedKey}, Rs l → Rs m → (∀ k, k ∈ l ↔ k ∈ m) → l = m
  | [], [], _, _, _ => rfl
  | [], b :: _, _, _, h => absurd ((h b).mpr (.head _)) (by simp)
  | a :: _, [], _, _, h => absurd ((h a).mp (.head _)) (by simp)
  | a :: l, b :: m, hl, hm, h => by
    obtain ⟨l1, l2⟩ := List.pairwise_cons.mp hl
    obtain ⟨m1, m2⟩ := List.pairwise_cons.mp hm
    have irr : ∀ k, befK k k = false := fun k => lex_irrefl _
    have ea : a = b := by
      rcases List.mem_cons.mp ((h a).mp (.head _)) with e | e
      · exact e
      · rcases List.mem_cons.mp ((h b).mpr (.head _)) with e2 | e2
        · exact e2.symm
        · have : befK a a = true := lex_trans _ _ _ (l1 b e2) (m1 a e)
          rw [irr] at this
          cases this
    subst ea
    have n1 : a ∉ l := fun z => by have := l1 a z; rw [irr] at this; cases this
    have n2 : a ∉ m := fun z => by have := m1 a z; rw [irr] at this; cases this
    rw [rs_unique l2 m2 fun k => ⟨fun hk => ((List.mem_cons.mp ((h k).mp (.tail _ hk))).resolve_left fun e => n1 (e ▸ hk)), fun hk => ((List.mem_cons.mp ((h k).mpr (.tail _ hk))).resolve_left fun e => n2 (e ▸ hk))⟩]
theorem say_sbl {ks : List NestedKey} (h : ∀ k ∈ ks, ∃ p, k = sayK p) : Sbl ks where
  heads := .inl fun k hk => by obtain ⟨p, rfl⟩ := h k hk; exact ⟨_, _, rfl⟩
  cmp := fun k hk k' hk' => by
    obtain ⟨p, rfl⟩ := h k hk
    obtain ⟨q, rfl⟩ := h k' hk'
    exact say_lt p q
  deep := fun k hk => by
    obtain ⟨p, rfl⟩ := h k hk
    exact Nat.le_trans (say_depth p) (by decide)
theorem zip_ents (M : List Ent) : (M.map fun q => V.ref q.1).zip (M.map (·.2)) = M.map fun p => (V.ref p.1, p.2) := by
  induction M with
  | nil => rfl
  | cons a l ih => rw [List.map_cons, List.map_cons, List.zip_cons_cons, ih]; rfl
theorem srt_ok {H : Hp} {M : List Ent} (hk : ∀ p ∈ M, Nk H (.ref p.1) p.2) (hs : ∀ p ∈ M, ∃ q, p.2 = sayK q) (nd : (M.map (·.2)).Nodup) :
    ∃ ls, NkAll H ((srt (M.map fun q => V.ref q.1) (M.map (·.2))).map Prod.fst) ls ∧ Rs ls ∧ (∀ k, k ∈ ls ↔ k ∈ M.map (·.2)) ∧ ls.length = M.length := by
  unfold srt
  rw [zip_ents]
  have pm := List.mergeSort_perm (M.map fun p => (V.ref p.1, p.2)) (leF id)
  have pw := sort_pairwise (sortLe_total (listOrd itemOrd) false fun b : V × NestedKey => toks (id b.2)) (M.map fun p => (V.ref p.1, p.2))
  change List.Pairwise (fun a b => leF id a b = true) ((M.map fun p => (V.ref p.1, p.2)).mergeSort (leF id)) at pw
  generalize (M.map fun p => (V.ref p.1, p.2)).mergeSort (leF id) = l at pm pw ⊢
  have mem : ∀ b ∈ l, ∃ p ∈ M, b = (V.ref p.1, p.2) := fun b hb => by
    obtain ⟨p, hp, e⟩ := List.mem_map.mp (pm.mem_iff.mp hb)
    exact ⟨p, hp, e.symm⟩
  have pk : (l.map Prod.snd).Perm (M.map (·.2)) := by
    have := pm.map Prod.snd
    rwa [List.map_map] at this
  refine ⟨l.map Prod.snd, nk_pairs fun b hb => ?_, ?_, fun k => pk.mem_iff, by rw [pk.length_eq, List.length_map]⟩
  · obtain ⟨p, hp, rfl⟩ := mem b hb
    exact hk p hp
  · have nl2 : l.Pairwise fun a b => a.2 ≠ b.2 := List.pairwise_map.mp (pk.nodup_iff.mpr nd)
    refine List.pairwise_map.mpr ((pw.and nl2).imp_of_mem fun {a b} ha hb h => ?_)
    obtain ⟨p, hp1, rfl⟩ := mem a ha
    obtain ⟨q, hq1, rfl⟩ := mem b hb
    obtain ⟨x, ex⟩ := hs p hp1
    obtain ⟨y, ey⟩ := hs q hq1
    have h1 : (!befK q.2 p.2) = true := h.1
    have h2 : p.2 ≠ q.2 := h.2
    show befK p.2 q.2 = true
    rw [ex, ey] at h1 h2 ⊢
    rw [bef_flip (fun z => h2 (by rw [z]))] at h1
    simpa using h1
/-- how a list of such pairs is shown -/
theorem datas_say (ls : List NestedKey) (ps : List (Str × Str)) (h : ls = ps.map sayK) : NestedKey.datas ls = ps.map fun p => PyData.tuple [.str p.1, .str p.2] := by
  subst h
  induction ps with
  | nil => simp [NestedKey.datas]
  | cons a l ih => rw [List.map_cons, List.map_cons, NestedKey.datas, ih]; simp [sayK, NestedKey.data, NestedKey.datas]
end My

set_option Elab.async false
set_option linter.all false
set_option maxRecDepth 100000
set_option maxHeartbeats 4000000
/-! Sets of whole numbers: set(xs), sorted(set). -/
namespace My
open PySem PySem.Spec PyProof.Rows L2 PySem.SeqAt PySem.W
abbrev IKd (P : Program) (w : World) : PySem.KeyKind P w Int := PySem.intKind P w
def GoodI (w : World) (e : Int × Value) (x : Int) : Prop := (∃ tk, e.2 = Value.int x tk) ∧ e.1 = hashInt x
/-- entries and their numbers -/
inductive IntsE (w : World) : List (Int × Value) → List Int → Prop
  | nil : IntsE w [] []
  | cons {e : Int × Value} {x : Int} {es : List (Int × Value)} {L : List Int} : GoodI w e x → IntsE w es L → IntsE w (e :: es) (x :: L)
theorem IntsE.perm {w : World} {es es' : List (Int × Value)} (p : es'.Perm es) : ∀ {L : List Int}, IntsE w es L → ∃ L', IntsE w es' L' ∧ L'.Perm L := by
  induction p with
  | nil => intro L h; exact ⟨L, h, .refl _⟩
  | cons x p ih =>
    intro L h
    cases h with
    | cons g t =>
      obtain ⟨L', h', p'⟩ := ih t
      exact ⟨_ :: L', .cons g h', p'.cons _⟩
  | swap x y l =>
    intro L h
    cases h with
    | cons g t =>
      cases t with
      | cons g2 t => exact ⟨_, .cons g2 (.cons g t), .swap _ _ _⟩
  | trans p q ih1 ih2 =>
    intro L h
    obtain ⟨L1, h1, p1⟩ := ih2 h
    obtain ⟨L2, h2, p2⟩ := ih1 h1
    exact ⟨L2, h2, p2.trans p1⟩
theorem IntsE.length {w : World} : ∀ {es : List (Int × Value)} {L : List Int}, IntsE w es L → es.length = L.length
  | _, _, .nil => rfl
  | _, _, .cons _ t => congrArg (· + 1) t.length
theorem IntsE.elems {P : Program} {w : World} : ∀ {es : List (Int × Value)} {L : List Int}, IntsE w es L → ElemsOf (IKd P w) es
  | _, _, .nil => fun e he => by cases he
  | _, _, .cons (e := e0) (x := x) ⟨⟨tk, h1⟩, h2⟩ t => fun e he => by
    rcases List.mem_cons.mp he with z | z
    · rw [z]
      exact ⟨⟨x, by rw [h1]; exact intKind_is P w x tk, h2⟩, by rw [h1]; rfl⟩
    · exact t.elems e z
theorem IntsE.has {P : Program} {w : World} (k : Int) : ∀ {es : List (Int × Value)} {L : List Int}, IntsE w es L → (k ∈ L ↔ ∃ e ∈ es, (IKd P w).is k e.2 = true)
  | _, _, .nil => ⟨(fun h => by cases h), fun ⟨e, h, _⟩ => by cases h⟩
  | _, _, .cons (e := e0) (x := x) ⟨⟨tk, h1⟩, h2⟩ t => by
    have ih := t.has (P := P) k
    constructor
    · intro h
      rcases List.mem_cons.mp h with z | z
      · exact ⟨e0, .head _, by rw [h1, z]; exact intKind_is P w x tk⟩
      · obtain ⟨e, he, q⟩ := ih.mp z
        exact ⟨e, .tail _ he, q⟩
    · rintro ⟨e, he, q⟩
      rcases List.mem_cons.mp he with z | z
      · rw [z, h1] at q
        rw [(IKd P w).inj _ _ _ q (intKind_is P w x tk)]
        exact .head _
      · exact .tail _ (ih.mpr ⟨e, z, q⟩)
/-- the set of numbers at a -/
structure SetI (w : World) (h : Heap) (a : Addr) (L : List Int) : Prop where
  ex : ∃ o es ep t, h.get? a = some o ∧ o.ExactSet ∧ o.data = .set es ep t ∧ IntsE w es.toList L ∧ t.fits es.size = true ∧ Ris t.place.toList ∧ (w.params.followText "set-order" = true ∨ t.led = true)
  nd : L.Nodup
  few : L.length < scanBound
theorem SetI.at {w : World} {h h' : Heap} {a : Addr} {L : List Int} (Z : SetI w h a L) (k : ∀ o, h.get? a = some o → h'.get? a = some o) : SetI w h' a L := ⟨let ⟨o, es, ep, t, g, r⟩ := Z.ex; ⟨o, es, ep, t, k o g, r⟩, Z.nd, Z.few⟩
section
variable {P : Program} {w : World} {A : Around} {E : Value → Shared → Prop} {s : Shared} {a : Addr} {L : List Int}
/-- the new entry is stored, the table laid anew where it is too full -/
theorem tailI {g : Bool → Sem Unit} (hg : ∀ (b : Bool) (s₁ : Shared) (Q' : Unit → Shared → Prop), Q' () s₁ → wpAny (model P w) A (g b) Q' E s₁) {o : Obj} {es : Array (Int × Value)} {ep : Nat} {t : SetTable} (g1 : s.heap.get? a = some o) (g2 : o.ExactSet) (g3 : o.data = .set es ep t)
    {es1 : Array (Int × Value)} {t2 : SetTable} {L1 : List Int} (tx : IntsE w es1.toList L1) (nd : L1.Nodup) (few : L1.length < scanBound) (ft : t2.fits es1.size = true) (ri : Ris t2.place.toList) (ld : w.params.followText "set-order" = true ∨ t2.led = true) {dm : Bool} {R : Option Bool → Shared → Prop}
    (q : ∀ h' L', Heap.SameBut a s.heap h' → SetI w h' a L' → L'.Perm L1 → R (some true) { s with heap := h' }) :
    wpAny (model P w) A (do
        storeSet a es1 t2
        if (!dm && t2.tooFull) = true then do
            g (relayAll t2 es1 (SetTable.grown es1.size)).2.2
            storeSet a (relayAll t2 es1 (SetTable.grown es1.size)).1 (relayAll t2 es1 (SetTable.grown es1.size)).2.1
            pure (some true)
          else pure (some true)) R E s := by
  have l1 : es1.size < scanBound := by rw [← Array.length_toList, tx.length]; exact few
  refine wpAny_bind (wpAny_storeSet_of g1 g3 ?_ (fits_of_scanBound l1))
  have k1 := store_at (es' := es1) (t' := t2) g1 g3
  have sb1 := Heap.SameBut.update s.heap a (Obj.putSet es1 t2)
  by_cases c : (!dm && t2.tooFull) = true
  · refine wp_if_pos c ?_
    have pm := relayAll_perm t2 es1 (SetTable.grown es1.size)
    have ft3 := relayAll_fits t2 es1 (SetTable.grown es1.size)
    have ri3 := relayAll_ris t2 es1 (SetTable.grown es1.size)
    have ld3 := relayAll_led t2 es1 (SetTable.grown es1.size)
    generalize relayAll t2 es1 (SetTable.grown es1.size) = Y at pm ft3 ri3 ld3 ⊢
    obtain ⟨es2, t3, gave⟩ := Y
    obtain ⟨L2, tx2, p2⟩ := tx.perm pm
    have l2 : es2.size < scanBound := by rw [← Array.length_toList, tx2.length, p2.length_eq]; exact few
    refine wpAny_bind (hg _ _ _ (wpAny_bind (wpAny_storeSet_of k1 rfl ?_ (fits_of_scanBound l2))))
    refine wpAny_pure (q _ L2 (sb1.trans (Heap.SameBut.update _ a _)) ⟨⟨_, es2, _, t3, store_at (es' := es2) (t' := t3) k1 rfl, g2, rfl, tx2, ft3, ri3, ld.imp id fun z => by rw [ld3]; exact z⟩, p2.nodup_iff.mpr nd, by rw [p2.length_eq]; exact few⟩ p2)
  · exact wp_if_neg c (wpAny_pure (q _ L1 sb1 ⟨⟨_, es1, _, t2, k1, g2, rfl, tx, ft, ri, ld⟩, nd, few⟩ (.refl _)))
theorem addI (Z : SetI w s.heap a L) {x : Int} {tk : Tok} (room : L.length + 1 < scanBound) {Q : Bool → Shared → Prop} (q : ∀ b h' L', Heap.SameBut a s.heap h' → SetI w h' a L' → (x ∈ L → L' = L) → (x ∉ L → L'.Perm (x :: L)) → Q b { s with heap := h' }) :
    wpAny (model P w) A (setAddHashed a (.int x tk) ((IKd P w).hash x)) Q E s := by
  obtain ⟨o, es, ep, t, g1, g2, g3, tx, ft, ri, ld⟩ := Z.ex
  have el : ElemsOf (IKd P w) es.toList := tx.elems
  have lb : es.size < scanBound := by rw [← Array.length_toList, tx.length]; exact Z.few
  unfold setAddHashed setAddHashedIn
  refine wpAny_holding (wpAny_bind (wpAny_setState_of g1 g3 ft ?_))
  dsimp only
  rw [byScan_of (rfl : (Value.int x tk).scannable = true) lb el]
  simp only [↓reduceIte]
  unfold setAddByScan
  refine wpAny_bind (wpAny_bind (wpAny_rule (wpAny_bind (wpAny_setScan_of (intKind_is P w x tk) g1 g3 ft el ?_))))
  cases fi : List.findIdx? (fun e => (IKd P w).is x e.2) es.toList with
  | some j =>
    obtain ⟨lj, pj, _⟩ := List.findIdx?_eq_some_iff_getElem.mp fi
    have xin : x ∈ L := (tx.has (P := P) x).mpr ⟨_, List.getElem_mem lj, pj⟩
    exact wpAny_pure (wpAny_pure (q _ s.heap L (Heap.SameBut.refl a s.heap) Z (fun _ => rfl) fun z => absurd xin z))
  | none =>
    have xout : x ∉ L := fun z => by
      obtain ⟨e, he, p⟩ := (tx.has (P := P) x).mp z
      rw [List.findIdx?_eq_none_iff.mp fi e he] at p
      cases p
    have pm := layNew_perm t es ((IKd P w).hash x) (.int x tk)
    have ft1 := layNew_fits t es ((IKd P w).hash x) (.int x tk)
    have ri1 := layNew_ris t es ((IKd P w).hash x) (.int x tk) ri
    have ld1 := layNew_led t es ((IKd P w).hash x) (.int x tk)
    dsimp only
    generalize layNew t es ((IKd P w).hash x) (.int x tk) = Y at pm ft1 ri1 ld1 ⊢
    obtain ⟨es1, t1, dm, gave⟩ := Y
    dsimp only at pm ft1 ri1 ld1 ⊢
    rw [Array.toList_push] at pm
    obtain ⟨L1, tx1, p1⟩ := IntsE.perm (pm.trans (List.perm_append_singleton _ _)) (IntsE.cons (x := x) ⟨⟨tk, rfl⟩, rfl⟩ tx)
    have nd1 : L1.Nodup := p1.nodup_iff.mpr (List.nodup_cons.mpr ⟨xout, Z.nd⟩)
    have few1 : L1.length < scanBound := by rw [p1.length_eq]; exact room
    have led1 : w.params.followText "set-order" = true ∨ t1.led = true := ld.imp id fun z => by rw [ld1]; exact z
    have gw : ∀ (b : Bool) (s₁ : Shared) (Q' : Unit → Shared → Prop), Q' () s₁ → wpAny (model P w) A (match b with | true => rule "set.scan.the-table-gave-way" | false => pure ()) Q' E s₁ := fun b s₁ Q' q => by cases b <;> first | exact wpAny_pure q | exact wpAny_rule q
    have fin : ∀ h' L', Heap.SameBut a s.heap h' → SetI w h' a L' → L'.Perm L1 → Q true { s with heap := h' } := fun h' L' sb Z' p => q true h' L' sb Z' (fun z => absurd z xout) fun _ => p.trans p1
    refine wpAny_bind (gw _ _ _ ?_)
    by_cases pl : t1.plain = true
    · refine wp_if_pos pl (wpAny_bind ?_)
      rw [hashByValue_scannable 8 (rfl : (Value.int x tk).scannable = true)]
      refine wpAny_pure ?_
      refine tailI (fun b s₁ Q' q => gw b s₁ Q' q) g1 g2 g3 tx1 nd1 few1 ?_ ?_ ?_ fun h' L' sb Z' p => wpAny_pure (fin h' L' sb Z' p)
      · first | exact ft1 | (split <;> first | exact ft1 | exact SetTable.fits_plain_off ft1)
      · first | exact ri1 | (split <;> exact ri1)
      · first | exact led1 | (split <;> exact led1)
    · refine wp_if_neg pl (wpAny_bind (wpAny_pure ?_))
      simp only [↓reduceIte]
      exact tailI (fun b s₁ Q' q => gw b s₁ Q' q) g1 g2 g3 tx1 nd1 few1 ft1 ri1 led1 fun h' L' sb Z' p => wpAny_pure (fin h' L' sb Z' p)
theorem addsI {h0 : Heap} {S : Addr} {wr : List Addr} {xs : List Int} {n : Nat} {Pv : Nat → Value → Prop} (hn : n = xs.length) (few : xs.length + 1 < scanBound) (pv : ∀ i v, Pv i v → ∃ x tk, xs[i]? = some x ∧ v = .int x tk) (nS : h0.get? S = none) (nw : ∀ b ∈ wr, h0.get? b = none) (Sw : S ∉ wr) :
    Adds P w A S wr n Pv (fun i h => (∃ L, SetI w h S L ∧ (∀ x, x ∈ L ↔ x ∈ xs.take i) ∧ L.length ≤ i) ∧ ∀ b o, h0.get? b = some o → h.get? b = some o) where
  stay := fun i h h' ⟨⟨L, Z, g⟩, kp⟩ st => ⟨⟨L, Z.at fun o e => st _ _ Sw e, g⟩, fun b o e => st b o (fun z => by rw [nw b z] at e; cases e) (kp b o e)⟩
  add := fun i v s Q E lt pvi ⟨⟨L, Z, g, ll⟩, kp⟩ q => by
    obtain ⟨x, tk, ex, rfl⟩ := pv i v pvi
    unfold setAdd
    refine wpAny_holding (wpAny_bind ((IKd P w).pyHash (intKind_is P w x tk) ?_))
    refine addI (s := { s with toks := s.toks + 1 }) Z (by omega) fun b h' L' sb Z' c1 c2 => q b h' _ ⟨⟨L', Z', fun y => ?_, ?_⟩, fun c o e => ?_⟩ (Nat.le_add_right _ _) sb
    · rw [List.take_add_one, ex]
      show _ ↔ y ∈ xs.take i ++ [x]
      rw [List.mem_append, List.mem_singleton, ← g y]
      by_cases c : x ∈ L
      · rw [c1 c]
        exact ⟨.inl, fun z => z.elim id fun e => by rw [e]; exact c⟩
      · rw [(c2 c).mem_iff, List.mem_cons]
        exact Or.comm
    · by_cases c : x ∈ L
      · rw [c1 c]; omega
      · rw [(c2 c).length_eq]; exact Nat.succ_le_succ ll
    · exact (sb.2 c (fun z => by rw [z, nS] at e; cases e)).trans (kp c o e)
end
theorem fresh_setI {w : World} {h : Heap} {a : Addr} (g : h.get? a = some (freshSet w)) : SetI w h a [] where
  ex := ⟨_, #[], 0, _, g, ⟨rfl, rfl, rfl⟩, rfl, .nil, rfl, List.Pairwise.nil, by
    cases e : w.params.followText "set-order"
    · exact .inr rfl
    · exact .inl rfl⟩
  nd := List.nodup_nil
  few := by show 0 < scanBound; unfold scanBound; decide
def SetIO (w : World) (a : Addr) (L : List Int) : HO := .ext fun h => SetI w h a L
theorem setIO_new {P : Program} {w : World} {H : Hp} {h : Heap} {a : Addr} {L : List Int} (Z : SetI w h a L) : ObjOk P w H h a (SetIO w a L) := by
  obtain ⟨o, es, ep, t, g, _⟩ := Z.ex
  exact ⟨Z, ⟨o, g⟩, fun h1 h2 p k => SetI.at (p : SetI w h1 a L) fun o e => k o e⟩
section
variable {X : Cx}
/-- set(xs), xs a list of numbers -/
def rSetI (K : PySem.W.Frag) (w : World) : List V → Hp → VK → Prop := fun xs H Q => ∃ (l : Addr) (zs : List Int), xs = [V.ref l] ∧ SqL K H l (zs.map V.int) ∧ zs.length ≤ 1000 ∧ ∀ a L, H a = none → (∀ x, x ∈ L ↔ x ∈ zs) → L.Nodup → Q (.ref a) (upd H a (SetIO w a L))
theorem cr_setI (hc : X.calm = true) : CallR X (.type "set") (rSetI X.K X.w) := by
  intro pins s σ H xs us Q I r h
  obtain ⟨l, zs, rfl, hl, few, q⟩ := h
  rw [Vals.ref1 r]
  obtain ⟨its, rv, pl, hz⟩ := I.list hl
  have li : its.length = zs.length := by rw [← rv.length, List.length_map]
  have non : ∀ b, s.heap.objs.size ≤ b → s.heap.get? b = none := fun b lb => by
    cases e : s.heap.get? b with
    | none => rfl
    | some o => exact absurd (Nat.lt_of_lt_of_le (Heap.lt_size e) lb) (Nat.lt_irrefl _)
  refine callG (P := X.prog) (w := X.w) (items := its.toArray) (I.ok.hd hc) pl.isList (addsI (h0 := s.heap) (xs := zs) (by rw [List.size_toArray, li]) (by unfold scanBound; omega) (fun i v e => ?_) (non _ (Nat.le_refl _)) (fun b hb => ?_) ?_)
    (fun h g kp => ⟨⟨[], fresh_setI g, (fun x => by rw [List.take_zero]), Nat.le_refl _⟩, kp⟩) fun h' tk t1 kp => ?_
  · rw [List.getElem?_toArray] at e
    have il := (List.getElem?_eq_some_iff.mp e).1
    obtain ⟨v2, hv2, rx⟩ := rv.get (i := i) (x := .int zs[i]) (by rw [List.getElem?_map, List.getElem?_eq_getElem (by omega)]; rfl)
    rw [e] at hv2
    cases hv2
    obtain ⟨tk, rfl⟩ := rx
    exact ⟨_, tk, List.getElem?_eq_getElem (by omega), rfl⟩
  · rw [List.mem_singleton.mp hb]; exact non _ (Nat.le_succ _)
  · exact fun z => Nat.ne_of_lt (Nat.lt_succ_self _) (List.mem_singleton.mp z)
  · obtain ⟨⟨L, Z, g, _⟩, _⟩ := t1
    rw [List.size_toArray, li, List.take_length] at g
    exact ⟨.ref s.heap.objs.size, upd H s.heap.objs.size (SetIO X.w s.heap.objs.size L), I.laid (t' := tk) kp (Nat.le_refl _) (setIO_new Z), rfl, q _ L (I.hok.fresh (Nat.le_refl _)) g Z.nd⟩
end
end My

set_option Elab.async false
set_option linter.all false
set_option maxRecDepth 100000
set_option maxHeartbeats 4000000
namespace My
open PySem PySem.Spec PyProof.Rows L2 PySem.SeqAt PySem.W
/-- numbers, sorted -/
def srtI (L : List Int) : List Int := L.mergeSort (fun a b => decide (a ≤ b))
theorem srtI_perm (L : List Int) : (srtI L).Perm L := List.mergeSort_perm _ _
theorem srtI_pw (L : List Int) : (srtI L).Pairwise (fun a b => a ≤ b) := by
  have := List.pairwise_mergeSort (le := fun a b : Int => decide (a ≤ b)) (fun a b c h1 h2 => decide_eq_true (Int.le_trans (of_decide_eq_true h1) (of_decide_eq_true h2))) (fun a b => by
    rcases Int.le_total a b with h | h
    · rw [decide_eq_true h]; rfl
    · rw [decide_eq_true h, Bool.or_true]) L
  exact this.imp fun h => of_decide_eq_true h
theorem int_valsI : ∀ {L : List Int} {vs : List Value}, EachIs (fun v x => ∃ tk, v = Value.int x tk) vs L → Vals (L.map V.int) vs
  | _, _, .nil => .nil
  | _, _, .cons r t => .cons r (int_valsI t)
section
variable {X : Cx} {pins : List (Addr × Obj)} {σ : L2.St} {H : Hp} {s : Shared} {E : Value → Shared → Prop}
theorem sort_tailI {L : List Int} {vs : List Value} {Q : Value → Shared → Prop} (I : Inv X pins σ H s) (un : X.A.units + 60 < cLine) (rv : EachIs (fun v x => ∃ tk, v = Value.int x tk) vs L) (hz : vs.length ≤ sizeLine) (p : Addr) (ep : p = s.heap.objs.size)
    (q : ∀ s', Inv X pins σ (upd H p (.lst ((srtI L).map V.int))) s' → Q (.ref p) s') :
    wpAny (model X.prog X.w) X.A.in1 (call (.builtin "list.sort") [.ref p]) (fun _ s' => Q (.ref p) s') E { s with heap := s.heap.push (seqObj "list" vs.toArray 0) } := by
  subst ep
  have ho : (s.heap.push (seqObj "list" vs.toArray 0)).get? s.heap.objs.size = some (seqObj "list" vs.toArray 0) := Heap.get?_push_size _ rfl
  have up : ∀ b o, s.heap.get? b = some o → (s.heap.push (seqObj "list" vs.toArray 0)).get? b = some o := fun b o e => Heap.get?_push_of_some _ e
  have al : AllAlike (L.map PyData.int) := fun d hd d' hd' => by
    obtain ⟨x, _, rfl⟩ := List.mem_map.mp hd
    obtain ⟨y, _, rfl⟩ := List.mem_map.mp hd'
    rfl
  have er : EachIs (fun v (b : Int) => ∃ as, Reads (sortingHeap (s.heap.push (seqObj "list" vs.toArray 0)) s.heap.objs.size vs) v (.int b) as) vs L := rv.mono fun v x ⟨tk, e⟩ => by rw [e]; exact ⟨_, Reads.int x tk⟩
  have S : SortsAt X.prog X.w X.A.in1.in1 { s with heap := sortingHeap (s.heap.push (seqObj "list" vs.toArray 0)) s.heap.objs.size vs } (dataKind (sortingHeap (s.heap.push (seqObj "list" vs.toArray 0)) s.heap.objs.size vs) (L.map PyData.int)) vs :=
    SortsAt.data (s := { s with heap := sortingHeap (s.heap.push (seqObj "list" vs.toArray 0)) s.heap.objs.size vs }) (each_map (R := fun v d => ∃ as, Reads (sortingHeap (s.heap.push (seqObj "list" vs.toArray 0)) s.heap.objs.size vs) v d as) PyData.int er) al (.inr fun d hd => by
      obtain ⟨x, _, rfl⟩ := List.mem_map.mp hd
      exact ⟨(fun z => by cases z), fun xs z => by cases z⟩) fun d hd => by
      obtain ⟨x, _, rfl⟩ := List.mem_map.mp hd
      rw [PyData.depth]
      show X.A.units + 1 + 1 + 0 < cLine
      omega
  refine wpAny_call_entry slot_list_sort ⟨_, ho, rfl⟩ entry_list_sort (list_sort_vals (s := { s with heap := s.heap.push (seqObj "list" vs.toArray 0) }) ho S hz ⟨_, rfl, ?_⟩) (args_list_sort _)
  have out := sortVals_data (h' := sortingHeap (s.heap.push (seqObj "list" vs.toArray 0)) s.heap.objs.size vs) (enc := PyData.int) false rv er al
  rw [show dataLe false (PyData.int : Int → PyData) = fun a b => decide (a ≤ b) from dataLe_int (fun b : Int => b)] at out
  have rel : Vals ((srtI L).map V.int) (sortVals (dataKind (sortingHeap (s.heap.push (seqObj "list" vs.toArray 0)) s.heap.objs.size vs) (L.map PyData.int)) false vs vs) := int_valsI out
  generalize sortVals (dataKind (sortingHeap (s.heap.push (seqObj "list" vs.toArray 0)) s.heap.objs.size vs) (L.map PyData.int)) false vs vs = os at rel ⊢
  have lo : ((srtI L).map V.int).length ≤ sizeLine := by
    rw [List.length_map, (srtI_perm L).length_eq, ← rv.length]
    exact hz
  obtain ⟨c, gc⟩ := sortedHeap_at (vs := vs) (out := os.toArray) ho
  refine q _ (I.laid (t' := s.toks) (fun b o e => ?_) (Nat.le_refl _) ⟨lo, os, c, rel, gc⟩)
  have lt := Heap.lt_size e
  rw [sortedHeap_old (Nat.ne_of_lt lt) (by rw [size_push']; exact Nat.lt_succ_of_lt lt)]
  exact up b o e
theorem IntsE.each {w : World} : ∀ {es : List (Int × Value)} {L : List Int}, IntsE w es L → EachIs (fun v x => ∃ tk, v = Value.int x tk) (es.map (·.2)) L
  | _, _, .nil => .nil
  | _, _, .cons g t => .cons g.1 t.each
theorem each_permI {α : Type} {R : Value → α → Prop} {vs vs' : List Value} (p : vs'.Perm vs) : ∀ {L : List α}, EachIs R vs L → ∃ L', EachIs R vs' L' ∧ L'.Perm L := by
  induction p with
  | nil => intro L h; exact ⟨L, h, .refl _⟩
  | cons x p ih =>
    intro L h
    cases h with
    | cons g t =>
      obtain ⟨L', h', p'⟩ := ih t
      exact ⟨_ :: L', .cons g h', p'.cons _⟩
  | swap x y l =>
    intro L h
    cases h with
    | cons g t =>
      cases t with
      | cons g2 t => exact ⟨_, .cons g2 (.cons g t), .swap _ _ _⟩
  | trans p q ih1 ih2 =>
    intro L h
    obtain ⟨L1, h1, p1⟩ := ih2 h
    obtain ⟨L2, h2, p2⟩ := ih1 h1
    exact ⟨L2, h2, p2.trans p1⟩
/-- sorted(set of numbers) -/
def rSortI (w : World) : List V → Hp → VK → Prop := fun vs H Q => ∃ (a : Addr) (L : List Int), vs = [V.ref a] ∧ H a = some (SetIO w a L) ∧ L.length ≤ 1000 ∧ ∀ (ys : List Int) (p : Addr), ys.Perm L → ys.Nodup → ys.Pairwise (fun a b => a ≤ b) → H p = none → Q (.ref p) (upd H p (.lst (ys.map V.int)))
theorem cr_sortI (hc : X.calm = true) (hu : X.A.units + 64 < cLine) : CallR X (.builtin "sorted") (rSortI X.w) := by
  intro pins s σ H vs us Q I r h
  obtain ⟨a, L, rfl, ha, few, q⟩ := h
  rw [Vals.ref1 r]
  have Z : SetI X.w s.heap a L := (I.hok a _ ha).1
  obtain ⟨o, es, ep, t, g1, g2, g3, tx, ft, ri, ld⟩ := Z.ex
  refine Calls.call_function_entry kind_sorted plain_sorted entry_sorted (args_sorted1 _) ?_
  unfold Builtin.«sorted»
  refine wpAny_bind (m := checkCount "sorted" 1 1 _) (wpAny_pure (wpAny_bind (collect_set (A := X.A.in1) (I.ok.hd hc) ⟨o, g1, g2.1, g3⟩ ft (by rw [← Array.length_toList, tx.length]; exact Z.few) ri ld fun s1 vs k1 hz e1 e2 pm => ?_)))
  obtain ⟨L', ev, pL⟩ := each_permI pm tx.each
  have I1 : Inv X pins σ H s1 := I.call' (ch := []) e2 (Un.kept k1) (I.hok.kept k1) (by rw [e1]; exact I.bare) (fun _ z => nomatch z)
  have fresh := I1.hok.fresh (Nat.le_refl _)
  have lv : vs.length ≤ sizeLine := by rw [ev.length, pL.length_eq, sizeLine_eq]; omega
  refine wpAny_bind (wpAny_newList ?_ lv)
  refine wpAny_bind (wpAny_holding (sort_tailI (Q := fun v s' => wpAny (model X.prog X.w) X.A.in1 (ret v) _ _ s') I1 (by omega) ev lv _ rfl fun s' J => wpAny_pure ⟨_, rfl, .ref _, _, J, rfl, q (srtI L') _ ((srtI_perm L').trans pL) (((srtI_perm L').trans pL).nodup_iff.mpr Z.nd) (srtI_pw L') fresh⟩))
end
end My

set_option Elab.async false
set_option linter.all false
set_option maxRecDepth 100000
set_option maxHeartbeats 4000000
/-! {x for .. in .. for .. in ..}, x a whole number. -/
namespace My
open PySem PySem.Spec PyProof.Rows L2 PySem.SeqAt PySem.W
section
variable {P : Program} {w : World} {A : Around} {R : Result → Shared → Prop} {s : Shared} {x0 t0 i0 t1 i1 : Expr} {f0 f1 : List Expr} {sc : Scope} {ps : Pos} {it acc : Value} {ev : Env}
/-- the comprehension itself -/
abbrev cS2 (x0 t0 i0 t1 i1 : Expr) (f0 f1 : List Expr) (sc : Scope) (ps : Pos) : Expr := .SetComp x0 [⟨t0, i0, f0, 0⟩, ⟨t1, i1, f1, 0⟩] sc ps
theorem turn2_first : compTurn (cS2 x0 t0 i0 t1 i1 f0 f1 sc ps) 0 it acc ev = (do
    standAt i0.pos
    match ← pyNext it with
    | none => pure (.done .next)
    | some u =>
      letOwnedTupleGo t0 it u
      assign t0 ev u
      let mut yes := true
      for q in f0 do
        if yes then yes ← isTrue q ev (eval q ev)
      if yes then
        let y ← eval i1 ev
        standAt i1.pos
        let y ← foldedSetIterable i1 ev y
        let _ ← runOwn (.compStart (cS2 x0 t0 i0 t1 i1 f0 f1 sc ps) 1 (← holding [y] (pyIter y)) acc ev) ev
      again (.compLoop (cS2 x0 t0 i0 t1 i1 f0 f1 sc ps) 0 it acc ev)) := by rfl
theorem turn2_second : compTurn (cS2 x0 t0 i0 t1 i1 f0 f1 sc ps) 1 it acc ev = (do
    standAt i1.pos
    match ← pyNext it with
    | none => pure (.done .next)
    | some u =>
      letOwnedTupleGo t1 it u
      assign t1 ev u
      let mut yes := true
      for q in f1 do
        if yes then yes ← isTrue q ev (eval q ev)
      if yes then
        (do let u ← eval x0 ev; standAt x0.pos; let _ ← call (.builtin "set.add") [acc, u])
      again (.compLoop (cS2 x0 t0 i0 t1 i1 f0 f1 sc ps) 1 it acc ev)) := by rfl
/-- what a raise becomes -/
abbrev Nt (P : Program) (w : World) (A : Around) (ev : Env) (R : Result → Shared → Prop) : Value → Shared → Prop := notedBy (model P w) A ev fun e s1 => R (.error e) s1
/-- a thing drawn, named, tested: then K -/
def Drawn (P : Program) (w : World) (A : Around) (R : Result → Shared → Prop) (tg : Expr) (fs : List Expr) (it : Value) (ev : Env) (K : Bool → Shared → Prop) (s : Shared) : Prop :=
  wpAny (model P w) A (pyNext it) (fun r s1 => match r with
    | none => R (.ok .next) s1
    | some u => wpAny (model P w) A (letOwnedTupleGo tg it u) (fun _ s2 => wpAny (model P w) A (assign tg ev u) (fun _ s3 =>
        wpAny (model P w) A (forIn fs true fun q r => if r = true then do let yes ← isTrue q ev (eval q ev); pure (ForInStep.yield yes) else pure (ForInStep.yield r)) K (Nt P w A ev R) s3) (Nt P w A ev R) s2) (Nt P w A ev R) s1) (Nt P w A ev R) s
theorem loop2_first (fold : ∀ y, foldedSetIterable i1 ev y = pure y) (I : Nat → Shared → Prop)
    (turn : ∀ n s, I n s → Drawn P w A R t0 f0 it ev (fun yes s3 => if yes = true then wpAny (model P w) A (eval i1 ev) (fun y s4 => wpAny (model P w) A (pyIter y) (fun it1 s5 =>
        codeAny (model P w) A (.compStart (cS2 x0 t0 i0 t1 i1 f0 f1 sc ps) 1 it1 acc ev) (fun r s6 => match r with
          | .ok _ => ∃ m, m < n ∧ I m s6
          | .error _ => False) s5) (Nt P w A ev R) s4) (Nt P w A ev R) s3
      else ∃ m, m < n ∧ I m s3) s) (n : Nat) (h : I n s) : codeAny (model P w) A (.compLoop (cS2 x0 t0 i0 t1 i1 f0 f1 sc ps) 0 it acc ev) R s := by
  refine codeAny_loop rfl I (fun n s hI => ?_) n h
  show wpAny _ A ((compTurn (cS2 x0 t0 i0 t1 i1 f0 f1 sc ps) 0 it acc ev).onRaise (fun y => do noteFrame y ev; theTreesLotGoes y)) _ _ s
  refine wpAny_noted ?_
  rw [turn2_first]
  refine wpAny_bind (wpAny_standAt (wpAny_bind (wpAny_mono (turn n s hI) (fun r s1 h1 => ?_) fun _ _ z => z)))
  cases r with
  | none => exact wpAny_pure h1
  | some u =>
    refine wpAny_bind (wpAny_mono h1 (fun _ s2 h2 => wpAny_bind (wpAny_mono h2 (fun _ s3 h3 => wpAny_bind (wpAny_mono h3 (fun yes s4 h4 => ?_) fun _ _ z => z)) fun _ _ z => z)) fun _ _ z => z)
    cases yes with
    | false => exact wpAny_pure ⟨rfl, h4⟩
    | true =>
      refine wpAny_bind (wpAny_mono h4 (fun y s5 h5 => ?_) fun _ _ z => z)
      refine wpAny_bind (wpAny_standAt (wpAny_bind (wpAny_of_eq (fold y) (wpAny_bind (wpAny_holding (wpAny_mono h5 (fun it1 s6 h6 => ?_) fun _ _ z => z))))))
      refine wpAny_bind (wpAny_runOwn ?_)
      rw [Around.mark_none]
      refine codeAny_mono h6 fun r s7 hr => ?_
      cases r with
      | error e => exact hr.elim
      | ok f => first | exact wpAny_pure ⟨rfl, hr⟩ | exact wpAny_bind (wpAny_pure (wpAny_pure ⟨rfl, hr⟩))
theorem loop2_second (I : Nat → Shared → Prop)
    (turn : ∀ n s, I n s → Drawn P w A R t1 f1 it ev (fun yes s3 => if yes = true then wpAny (model P w) A (eval x0 ev) (fun y s4 =>
        wpAny (model P w) A (call (.builtin "set.add") [acc, y]) (fun _ s5 => ∃ m, m < n ∧ I m s5) (Nt P w A ev R) s4) (Nt P w A ev R) s3
      else ∃ m, m < n ∧ I m s3) s) (n : Nat) (h : I n s) : codeAny (model P w) A (.compLoop (cS2 x0 t0 i0 t1 i1 f0 f1 sc ps) 1 it acc ev) R s := by
  refine codeAny_loop rfl I (fun n s hI => ?_) n h
  show wpAny _ A ((compTurn (cS2 x0 t0 i0 t1 i1 f0 f1 sc ps) 1 it acc ev).onRaise (fun y => do noteFrame y ev; theTreesLotGoes y)) _ _ s
  refine wpAny_noted ?_
  rw [turn2_second]
  refine wpAny_bind (wpAny_standAt (wpAny_bind (wpAny_mono (turn n s hI) (fun r s1 h1 => ?_) fun _ _ z => z)))
  cases r with
  | none => exact wpAny_pure h1
  | some u =>
    refine wpAny_bind (wpAny_mono h1 (fun _ s2 h2 => wpAny_bind (wpAny_mono h2 (fun _ s3 h3 => wpAny_bind (wpAny_mono h3 (fun yes s4 h4 => ?_) fun _ _ z => z)) fun _ _ z => z)) fun _ _ z => z)
    cases yes with
    | false => exact wpAny_pure ⟨rfl, h4⟩
    | true => exact wpAny_bind (wpAny_bind (wpAny_mono h4 (fun y s5 h5 => wpAny_bind (wpAny_standAt (wpAny_bind (wpAny_mono h5 (fun _ s6 h6 => wpAny_pure (wpAny_pure ⟨rfl, h6⟩)) fun _ _ z => z)))) fun _ _ z => z))
theorem start2_second (h0 : codeAny (model P w) A (.compLoop (cS2 x0 t0 i0 t1 i1 f0 f1 sc ps) 1 it acc ev) R s)
    (h : wpAny (model P w) A (pyIter it) (fun it1 s1 => codeAny (model P w) A (.compLoop (cS2 x0 t0 i0 t1 i1 f0 f1 sc ps) 1 it1 acc ev) R s1) (Nt P w A ev R) s) :
    codeAny (model P w) A (.compStart (cS2 x0 t0 i0 t1 i1 f0 f1 sc ps) 1 it acc ev) R s := by
  refine codeAny_of_tree ?_
  show wpAny _ _ ((compStart (cS2 x0 t0 i0 t1 i1 f0 f1 sc ps) 1 it acc ev).onRaise (fun y => do noteFrame y ev; standAt theWindowsPlace)) _ _ s
  refine wpAny_notedAt ?_
  unfold compStart
  show wpAny _ _ (ask >>= _) _ _ s
  refine wpAny_bind (wpAny_askSetting (wpAny_ite ?_))
  split
  · first | exact wpAny_bind (wpAny_pure (wpAny_pure ⟨rfl, h0⟩)) | exact wpAny_pure ⟨rfl, h0⟩
  · refine wpAny_bind (wpAny_rule ?_)
    first
      | exact wpAny_bind (wpAny_standAt (wpAny_bind (wpAny_mono h (fun it1 s1 z => wpAny_pure ⟨rfl, z⟩) fun _ _ z => z)))
      | (show wpAny _ _ (standAt i1.pos >>= _) _ _ s; exact wpAny_bind (wpAny_standAt (wpAny_bind (wpAny_mono h (fun it1 s1 z => wpAny_pure ⟨rfl, z⟩) fun _ _ z => z))))
end
section
variable {X : Cx}
/-- D.add(k) -/
theorem add_inI {pins : List (Addr × Obj)} {σ : L2.St} {H : Hp} {s : Shared} {E : Value → Shared → Prop} {D : Addr} {L : List Int} {k : Int} {tk : Tok} {Q : Value → Shared → Prop} (I : L2.Inv X pins σ H s) (hD : H D = some (SetIO X.w D L)) (few : L.length ≤ 1000)
    (q : ∀ L' s', (k ∈ L → L' = L) → (k ∉ L → L'.Perm (k :: L)) → L2.Inv X pins σ (upd H D (SetIO X.w D L')) s' → Q .none s') : wpAny (model X.prog X.w) X.A (call (.builtin "set.add") [.ref D, .int k tk]) Q E s := by
  have Z : SetI X.w s.heap D L := (I.hok D _ hD).1
  obtain ⟨o, es, ep, t, g1, g2, _⟩ := Z.ex
  refine wpAny_call_entry PySem.F.slot_set_add ⟨o, g1, g2.1⟩ PySem.F.entry_set_add ?_ (PySem.F.args_set_add_2 _ _)
  unfold Builtin.«set.add» Builtin.Frozenset.oneOther Builtin.Frozenset.addrOf setAdd
  simp only [List.isEmpty_nil, bind_assoc]
  refine wpAny_bind (wpAny_pure ?_)
  try dsimp only
  refine wpAny_bind (wpAny_pure (wpAny_bind (wpAny_holding (wpAny_bind ((IKd X.prog X.w).pyHash (intKind_is X.prog X.w k tk) ?_)))))
  refine addI (s := { s with toks := s.toks + 1 }) Z (by unfold scanBound; omega) fun b h' L' sb Z' c1 c2 => ?_
  obtain ⟨o', _, _, _, g', _⟩ := Z'.ex
  exact wpAny_pure ⟨_, rfl, q L' _ c1 c2 (I.write (e := D) (t' := s.toks + 1) (by rw [hD]; trivial) (.inl rfl) (fun b u hb hu => (sb.2 b hb).trans hu) ⟨o', g'⟩ (setIO_new Z'))⟩
/-- a turn of the second walk -/
def Sc2In (w : World) (J : It) (g : TG) (tt : TT) (te : TE) (vs1 : List Nat) (σ2 : L2.St) (D : Addr) (Nx : Hp → Prop) (W : Nat → Nat → Hp → Prop) (i m : Nat) (H : Hp) : Prop :=
  (J.stop i H ∧ Nx H) ∨ (J.go i H ∧ ∃ Ny : Hp → Prop, (∀ H', Ny H' → ∃ m', m' < m ∧ W (i + 1) m' H') ∧ ∀ x H', J.yld i H x H' →
    g x (wipe σ2 vs1) H' fun σ3 H2 => wipe σ3 vs1 = wipe σ2 vs1 ∧ tt σ3 H2 fun b H3 => if b = true then te σ3 H3 fun y H4 =>
      ∃ (k : Int) (L : List Int), y = .int k ∧ H4 D = some (SetIO w D L) ∧ L.length ≤ 1000 ∧ (∀ L', (k ∈ L → L' = L) → (k ∉ L → L'.Perm (k :: L)) → Ny (upd H4 D (SetIO w D L'))) else Ny H3)
/-- a turn of the first -/
def Sc2Out (w : World) (J : It) (g : TG) (tt : TT) (wi1 : TI) (g1 : TG) (tt1 : TT) (te : TE) (vs vs1 : List Nat) (σ : L2.St) (D : Addr) (Qd : Hp → Prop) (W : Nat → Nat → Hp → Prop) (i m : Nat) (H : Hp) : Prop :=
  (J.stop i H ∧ Qd H) ∨ (J.go i H ∧ ∃ Nx : Hp → Prop, (∀ H', Nx H' → ∃ m', m' < m ∧ W (i + 1) m' H') ∧ ∀ x H', J.yld i H x H' →
    g x (wipe σ vs) H' fun σ2 H2 => wipe σ2 vs = wipe σ vs ∧ tt σ2 H2 fun b H3 => if b = true then wi1 σ2 H3 fun J1 H4 =>
      ∃ W1 : Nat → Nat → Hp → Prop, (∃ m, W1 0 m H4) ∧ ∀ j k H, W1 j k H → Sc2In w J1 g1 tt1 te vs1 σ2 D Nx W1 j k H
    else Nx H3)
def tSc2 (w : World) (wi : TI) (g : TG) (tt : TT) (wi1 : TI) (g1 : TG) (tt1 : TT) (te : TE) (vs vs1 : List Nat) : TE := fun σ H Q => wi σ H fun J H1 => ∀ D, H1 D = none →
  ∃ W : Nat → Nat → Hp → Prop, (∃ m, W 0 m (upd H1 D (SetIO w D []))) ∧ ∀ i m H', W i m H' → Sc2Out w J g tt wi1 g1 tt1 te vs vs1 σ D (fun H2 => Q (.ref D) H2) W i m H'
theorem pe_sc2 {x0 tg it0 tg1 it1 : Expr} {f0 f1 : List Expr} {sc : Scope} {own : List (Str × Nat)} {vs1 : List Nat} {pos : Pos} {wi wi1 : TI} {g g1 : TG} {tt tt1 : TT} {te : TE} (calm : X.calm = true) (nd : X.N.Nodup) (hi : PI X tg it0 wi) (ok : BlkOk X.N X.env.scope sc own) (hv : ∀ i ∈ vs1, i ∈ own.map (·.2))
    (hg : ∀ s H C cl fp, PG (Blk X sc s H C cl fp) tg g) (ht : ∀ s H C cl fp, PTs (Blk X sc s H C cl fp) f0 tt) (hi1 : ∀ s H C cl fp, PI (Blk X sc s H C cl fp) tg1 it1 wi1)
    (hg1 : ∀ s H C cl fp, PG (Blk X sc s H C cl fp) tg1 g1) (ht1 : ∀ s H C cl fp, PTs (Blk X sc s H C cl fp) f1 tt1) (he : ∀ s H C cl fp, PE (Blk X sc s H C cl fp) x0 te)
    (fold : ∀ y, foldedSetIterable it0 X.env y = pure y := by intro _; rfl) (fold1 : ∀ ev y, foldedSetIterable it1 ev y = pure y := by intro _ _; rfl) :
    PE X (.SetComp x0 [⟨tg, it0, f0, 0⟩, ⟨tg1, it1, f1, 0⟩] sc pos) (tSc2 X.w wi g tt wi1 g1 tt1 te (own.map (·.2)) vs1) := by
  constructor
  intro pins s σ H Q I h
  rw [PpSet.eval_SetComp]
  have free : ∀ y ∈ sc.names, y.2 = .free → ∃ c, X.env.cells.lookup y.1 = some c := by
    intro y hy e
    exact (ok.free y hy e).elim (fun k => I.ok.has _ (.inl k)) fun k => I.ok.has _ (.inr k)
  refine wpAny_comprehension_free (use := none) rfl fold (closure_ok free) ok.kind (fun y hy e => by rw [ok.uniq y hy, e]) (thn (hi.run pins s σ H _ I h) fun xv s1 hx => thn hx ?_)
  rintro itv s2 ⟨it, fp, tn, J, H2, rfl, I2, T, st2, f2, q⟩
  refine PpSet.newSet_ok (newEnv_comp ?_)
  obtain ⟨D, hD⟩ : ∃ D, D = s2.heap.objs.size := ⟨_, rfl⟩
  rw [← hD]
  have fresh : H2 D = none := I2.hok.fresh (Nat.le_of_eq hD.symm)
  obtain ⟨W, ⟨m0, w0⟩, turn⟩ := q D fresh
  obtain ⟨s3, hs3⟩ : ∃ s3 : Shared, s3 = { s2 with heap := s2.heap.push (freshSet X.w) } := ⟨_, rfl⟩
  have I3 : L2.Inv X pins σ (upd H2 D (SetIO X.w D [])) s3 := by
    rw [hs3]
    refine I2.laid (t' := s2.toks) (fun b o e => Heap.get?_push_of_some _ e) (Nat.le_of_eq hD.symm) ?_
    rw [hD]
    exact setIO_new (fresh_setI (Heap.get?_push_size _ rfl))
  have h3 : s3.heap = s2.heap.push (freshSet X.w) := by rw [hs3]
  have old : ∀ b ∈ fp, b < s2.heap.objs.size := fun b hb => let ⟨o, e, _⟩ := T.obj _ _ st2 b hb; Heap.lt_size e
  have f3 : ∀ b ∈ fp, FpOk X pins (upd H2 D (SetIO X.w D [])) b ∧ b < s3.heap.objs.size := by
    intro b hb
    have lt := old b hb
    refine ⟨⟨?_, (f2 b hb).2⟩, by rw [h3, Heap.size_push]; exact Nat.lt_succ_of_lt lt⟩
    rw [upd_ne (by rw [hD]; exact Nat.ne_of_lt lt)]
    exact (f2 b hb).1
  have st3 : tn 0 s3.heap := T.keep _ _ _ st2 fun b _ o e => by rw [h3]; exact Heap.get?_push_of_some _ e
  have I4 := block_start I3 ok nd f3
  obtain ⟨cl, hcl⟩ : ∃ cl, cl = cellsFrom (s3.heap.objs.size + 1) sc.names (cloFrom X.env.cells sc.names []) := ⟨_, rfl⟩
  obtain ⟨C, hC⟩ : ∃ C, C = s3.heap.objs.size := ⟨_, rfl⟩
  obtain ⟨H3, hH3⟩ : ∃ H3, H3 = upd H2 D (SetIO X.w D []) := ⟨_, rfl⟩
  rw [← hcl, ← hC, ← hH3] at I4
  rw [← hH3] at I3 f3 w0
  obtain ⟨s4, hs4⟩ : ∃ s4 : Shared, s4 = { s3 with heap := pushCells (s3.heap.push { cls := .type "dict", data := .dict #[] }) sc.names } := ⟨_, rfl⟩
  rw [← hs4] at I4
  rw [show ({ s2 with heap := s2.heap.push { cls := .type "set", dict := none, data := .set #[] 0 (.fresh 0 0 (!X.w.params.followText "set-order")) } } : Shared) = s3 from hs3.symm]
  show codeAny _ _ (.compStart (cS2 x0 tg it0 tg1 it1 f0 f1 sc pos) 0 (.ref it) (.ref D) (compEnvC sc (cellsFrom (s3.heap.objs.size + 1) sc.names (cloFrom X.env.cells sc.names [])) s3.heap.objs.size X.env)) (compPost (model X.prog X.w) X.A X.xe none _ (.ref D) s3.heap.objs.size) { s3 with heap := pushCells (s3.heap.push { cls := .type "dict", data := .dict #[] }) sc.names }
  rw [← hcl, ← hC, ← hs4]
  obtain ⟨Y, hY⟩ : ∃ Y, Y = Blk X sc s3 H3 C cl fp := ⟨_, rfl⟩
  have pg := hg s3 H3 C cl fp
  have pt := ht s3 H3 C cl fp
  have pi1 := hi1 s3 H3 C cl fp
  have pg1 := hg1 s3 H3 C cl fp
  have pt1 := ht1 s3 H3 C cl fp
  have pe := he s3 H3 C cl fp
  have nfp : ∀ b ∈ fp, H3 b = none := fun b hb => (f3 b hb).1.1
  have st4 : tn 0 s4.heap := T.keep _ _ _ st3 fun b _ o e => by rw [hs4]; exact pushCells_keeps _ _ _ _ (Heap.get?_push_of_some _ e)
  have stat : ∀ {σ' : L2.St} {H' : Hp} {s' : Shared}, L2.Inv (Blk X sc s3 H3 C cl fp) [] σ' H' s' → (∀ b ∈ fp, H' b = none) → ∀ b ∈ fp, FpOk (Blk X sc s3 H3 C cl fp) [] H' b := by
    intro σ' H' s' I' hn b hb
    exact ⟨hn b hb, (I'.ok.exf b hb).1, I'.ok.exfs b hb, .inl hb, fun x c e => (I'.ok.exf b hb).2 x c e, fun p hp => absurd (show p ∈ ([] : List (Addr × Obj)) ++ [] from hp) (by simp)⟩
  have loop : codeAny (model X.prog X.w) X.A (.compLoop (cS2 x0 tg it0 tg1 it1 f0 f1 sc pos) 0 (.ref it) (.ref D) (compEnvC sc cl C X.env)) (compPost (model X.prog X.w) X.A X.xe none (fun v s' => ∃ x H1, L2.Inv X pins σ H1 s' ∧ RelV x v ∧ Q x H1) (.ref D) C) s4 := by
    refine loop2_first (fold1 _) (fun n s' => ∃ i H', L2.Inv (Blk X sc s3 H3 C cl fp) [] (wipe σ (own.map (·.2))) H' s' ∧ tn i s'.heap ∧ (∀ b ∈ fp, H' b = none) ∧ W i n H') ?_ m0 ⟨0, H3, I4, st4, nfp, w0⟩
    rintro n s5 ⟨i, H5, I5, st5, n5, w5⟩
    unfold Drawn
    rcases turn i n H5 w5 with ⟨stop, qq⟩ | ⟨go, Nx, hNx, step⟩
    · refine thnF (T.done (Blk X sc s3 H3 C cl fp) rfl rfl rfl calm i [] s5 _ H5 (fun _ _ => False) I5 (stat I5 n5) st5 stop) ?_
      rintro r s6 ⟨rfl, I6⟩
      have I7 : L2.Inv X pins σ H5 s6 := I3.call' (ch := fp) I6.os I6.base I6.hok I6.bare fun b hb => ⟨(f3 b hb).1.2.2.2.1, (f3 b hb).1.2.1, (f3 b hb).1.2.2.2.2.1, (f3 b hb).1.2.2.2.2.2⟩
      have nC : H5 C = none := I6.free
      obtain ⟨m, hn, _⟩ := I6.loc
      obtain ⟨k0, k1, k2, k3, k4, k5⟩ := I3.fpOk (Nat.le_of_eq hC.symm) nC
      exact ⟨m, hn, fun h2 sb => ⟨.ref D, H5, I7.turned (t' := s6.toks) (fun b o hb e => (sb.2 b hb).trans e) k0 k1 k3 k4 k5, rfl, qq⟩⟩
    · refine thnF (T.item (Blk X sc s3 H3 C cl fp) rfl rfl rfl calm i [] s5 _ H5 (fun _ _ => False) I5 (stat I5 n5) st5 go) ?_
      rintro r s6 ⟨u, rfl, h6⟩
      refine thnF h6 ?_
      rintro _ s7 ⟨x, H7, I7, r7, y7, st7, n7⟩
      refine thnF (pg.run _ s7 _ H7 x u _ (I7.pinned (stat I7 n7) (T.obj _ _ st7)) r7 (step x H7 y7)) ?_
      rintro _ s8 ⟨σ8, H8, I8, hw8, q8⟩
      refine thnF (pt.run _ s8 σ8 H8 _ I8 q8) ?_
      rintro b s9 ⟨H9, I9, q9⟩
      have fin : ∀ {σ9 : L2.St} {s' : Shared} {H' : Hp}, L2.Inv (Blk X sc s3 H3 C cl fp) ([] ++ pinsAt fp s7.heap) σ9 H' s' → (wipe σ (own.map (·.2))).length = σ9.length → (∀ (j : Nat) v, (wipe σ (own.map (·.2)))[j]? = some (some v) → σ9[j]? = some (some v)) → Nx H' →
          ∃ m, m < n ∧ ∃ i H', L2.Inv (Blk X sc s3 H3 C cl fp) [] (wipe σ (own.map (·.2))) H' s' ∧ tn i s'.heap ∧ (∀ b ∈ fp, H' b = none) ∧ W i m H' := by
        intro σ9 s' H' I' len knows nx
        obtain ⟨m', lt, w'⟩ := hNx H' nx
        have pin : ∀ b ∈ fp, ∀ o, s7.heap.get? b = some o → s'.heap.get? b = some o ∧ H' b = none := by
          intro b hb o e
          have z := I'.pin (b, o) (List.mem_append_right _ (List.mem_append_right _ (mem_pinsAt hb e)))
          exact ⟨z.1, z.2.1⟩
        refine ⟨m', lt, i + 1, H', (I'.unpinned (pins := [])).weak len knows, T.keep _ _ _ st7 fun b hb o e => (pin b hb o e).1, fun b hb => ?_, w'⟩
        obtain ⟨o, e, _⟩ := T.obj _ _ st7 b hb
        exact (pin b hb o e).2
      have len8 : (wipe σ (own.map (·.2))).length = σ8.length := by rw [← hw8, wipe_length]
      have kn8 : ∀ (j : Nat) v, (wipe σ (own.map (·.2)))[j]? = some (some v) → σ8[j]? = some (some v) := by
        intro j v e
        rw [← hw8] at e
        exact (wipe_some e).1
      have kn9 : ∀ (j : Nat) v, (wipe σ (own.map (·.2)))[j]? = some (some v) → (wipe σ8 vs1)[j]? = some (some v) := by
        intro j v e
        rw [← hw8] at e
        obtain ⟨e1, e2⟩ := wipe_some e
        rw [wipe_out fun z => e2 (hv j z)]
        exact e1
      cases b with
      | false =>
        simp only [Bool.false_eq_true, if_false] at q9 ⊢
        exact fin I9 len8 kn8 q9
      | true =>
        simp only [if_true] at q9 ⊢
        refine thnF (pi1.run _ s9 σ8 H9 _ I9 q9) fun xv s10 hx => thnF hx ?_
        rintro itv s11 ⟨j1, fp1, tn1, J1, H11, rfl, I11, T1, st11, f11, W1, ⟨m1, w1⟩, turn1⟩
        have stat1 : ∀ {H' : Hp}, (∀ b ∈ fp1, H' b = none) → ∀ b ∈ fp1, FpOk (Blk X sc s3 H3 C cl fp) ([] ++ pinsAt fp s7.heap) H' b := fun hn b hb => ⟨hn b hb, (f11 b hb).2⟩
        have inner : codeAny (model X.prog X.w) X.A (.compLoop (cS2 x0 tg it0 tg1 it1 f0 f1 sc pos) 1 (.ref j1) (.ref D) (compEnvC sc cl C X.env)) (fun r s' => match r with
            | .ok _ => ∃ m, m < n ∧ ∃ i H', L2.Inv (Blk X sc s3 H3 C cl fp) [] (wipe σ (own.map (·.2))) H' s' ∧ tn i s'.heap ∧ (∀ b ∈ fp, H' b = none) ∧ W i m H'
            | .error _ => False) s11 := by
          refine loop2_second (fun k s' => ∃ j H', L2.Inv (Blk X sc s3 H3 C cl fp) ([] ++ pinsAt fp s7.heap) (wipe σ8 vs1) H' s' ∧ tn1 j s'.heap ∧ (∀ b ∈ fp1, H' b = none) ∧ W1 j k H') ?_ m1 ⟨0, H11, I11.weak (wipe_length _ _) (fun j v e => (wipe_some e).1), st11, fun b hb => (f11 b hb).1, w1⟩
          rintro k s12 ⟨j, H12, I12, st12, n12, w12⟩
          unfold Drawn
          rcases turn1 j k H12 w12 with ⟨stop1, nx1⟩ | ⟨go1, Ny, hNy, step1⟩
          · refine thnF (T1.done (Blk X sc s3 H3 C cl fp) rfl rfl rfl calm j _ s12 (wipe σ8 vs1) H12 (fun _ _ => False) I12 (stat1 n12) st12 stop1) ?_
            rintro r s13 ⟨rfl, I13⟩
            exact fin I13 (len8.trans (wipe_length σ8 vs1).symm) kn9 nx1
          · refine thnF (T1.item (Blk X sc s3 H3 C cl fp) rfl rfl rfl calm j _ s12 (wipe σ8 vs1) H12 (fun _ _ => False) I12 (stat1 n12) st12 go1) ?_
            rintro r s13 ⟨u1, rfl, h13⟩
            refine thnF h13 ?_
            rintro _ s14 ⟨y, H14, I14, r14, y14, st14, n14⟩
            refine thnF (pg1.run _ s14 (wipe σ8 vs1) H14 y u1 _ (I14.pinned (stat1 n14) (T1.obj _ _ st14)) r14 (step1 y H14 y14)) ?_
            rintro _ s15 ⟨σ15, H15, I15, hw15, q15⟩
            refine thnF (pt1.run _ s15 σ15 H15 _ I15 q15) ?_
            rintro b1 s16 ⟨H16, I16, q16⟩
            have fin1 : ∀ {s' : Shared} {H' : Hp}, L2.Inv (Blk X sc s3 H3 C cl fp) (([] ++ pinsAt fp s7.heap) ++ pinsAt fp1 s14.heap) σ15 H' s' → Ny H' → ∃ m, m < k ∧ ∃ j H', L2.Inv (Blk X sc s3 H3 C cl fp) ([] ++ pinsAt fp s7.heap) (wipe σ8 vs1) H' s' ∧ tn1 j s'.heap ∧ (∀ b ∈ fp1, H' b = none) ∧ W1 j m H' := by
              intro s' H' I' nx
              obtain ⟨m', lt, w'⟩ := hNy H' nx
              have pin : ∀ b ∈ fp1, ∀ o, s14.heap.get? b = some o → s'.heap.get? b = some o ∧ H' b = none := by
                intro b hb o e
                have z := I'.pin (b, o) (List.mem_append_right _ (List.mem_append_right _ (mem_pinsAt hb e)))
                exact ⟨z.1, z.2.1⟩
              refine ⟨m', lt, j + 1, H', I'.unpinned.weak (by rw [← hw15, wipe_length]) (fun j v e => ?_), T1.keep _ _ _ st14 fun b hb o e => (pin b hb o e).1, fun b hb => ?_, w'⟩
              · rw [← hw15] at e
                exact (wipe_some e).1
              · obtain ⟨o, e, _⟩ := T1.obj _ _ st14 b hb
                exact (pin b hb o e).2
            cases b1 with
            | false =>
              simp only [Bool.false_eq_true, if_false] at q16 ⊢
              exact fin1 I16 q16
            | true =>
              simp only [if_true] at q16 ⊢
              refine thnF (pe.run _ s16 σ15 H16 _ I16 q16) ?_
              rintro z s17 ⟨y2, H17, I17, r17, kk, L, rfl, hD17, few, nx⟩
              obtain ⟨tk, rfl⟩ := r17
              exact add_inI (X := Blk X sc s3 H3 C cl fp) I17 hD17 few fun L' s18 c1 c2 I18 => fin1 I18 (nx L' c1 c2)
        exact start2_second inner (T1.self X.A 0 _ _ _ st11 inner)
  exact PpSet.codeAny_compStart_set loop (T.self X.A 0 _ _ _ st4 loop)
end
/-- turns that change the heap alone -/
theorem turnsIt {J : It} {n : Nat} {G : Hp → Prop} {Y : Nat → Hp → V → Hp → Prop} (wk : Walk J n G Y) {H1 : Hp} {Qd : Hp → Prop} {Bd : (Hp → Prop) → V → Hp → Prop} (Pv : Nat → Hp → Prop) (h0 : Pv 0 H1) (hG : ∀ i H, i ≤ n → Pv i H → G H)
    (hs : ∀ i x H H', i < n → Pv i H → Y i H x H' → Bd (Pv (i + 1)) x H') (hd : ∀ H, Pv n H → Qd H) : ∃ W : Nat → Nat → Hp → Prop, (∃ m, W 0 m H1) ∧ ∀ i m H, W i m H →
      (J.stop i H ∧ Qd H) ∨ (J.go i H ∧ ∃ Nx : Hp → Prop, (∀ H', Nx H' → ∃ m', m' < m ∧ W (i + 1) m' H') ∧ ∀ x H', J.yld i H x H' → Bd Nx x H') := by
  refine ⟨fun i m H => m = n - i ∧ i ≤ n ∧ Pv i H, ⟨n, by simp, Nat.zero_le _, h0⟩, ?_⟩
  rintro i m H ⟨rfl, hi, p⟩
  have q := hG i H hi p
  by_cases lt : i < n
  · exact .inr ⟨wk.goes i H lt q, Pv (i + 1), fun H' p' => ⟨n - (i + 1), by omega, rfl, lt, p'⟩, fun x H' y => hs i x H H' lt p (wk.yields i H x H' lt q y)⟩
  · obtain rfl : i = n := by omega
    exact .inl ⟨wk.stops H q, hd H p⟩
theorem sc2_it {w : World} {J : It} {n : Nat} {G : Hp → Prop} {Y : Nat → Hp → V → Hp → Prop} (wk : Walk J n G Y) {g : TG} {tt : TT} {wi1 : TI} {g1 : TG} {tt1 : TT} {te : TE} {vs vs1 : List Nat} {σ : L2.St} {H1 : Hp} {D : Addr} {Qd : Hp → Prop} (Pv : Nat → Hp → Prop) (h0 : Pv 0 (upd H1 D (SetIO w D []))) (hG : ∀ i H, i ≤ n → Pv i H → G H)
    (hs : ∀ i x H H', i < n → Pv i H → Y i H x H' → g x (wipe σ vs) H' fun σ2 H2 => wipe σ2 vs = wipe σ vs ∧ tt σ2 H2 fun b H3 => if b = true then wi1 σ2 H3 fun J1 H4 => ∃ W1 : Nat → Nat → Hp → Prop, (∃ m, W1 0 m H4) ∧ ∀ j k H, W1 j k H → Sc2In w J1 g1 tt1 te vs1 σ2 D (Pv (i + 1)) W1 j k H else Pv (i + 1) H3)
    (hd : ∀ H, Pv n H → Qd H) : ∃ W : Nat → Nat → Hp → Prop, (∃ m, W 0 m (upd H1 D (SetIO w D []))) ∧ ∀ i m H', W i m H' → Sc2Out w J g tt wi1 g1 tt1 te vs vs1 σ D Qd W i m H' := turnsIt wk Pv h0 hG hs hd
theorem sc2_in {w : World} {J : It} {n : Nat} {G : Hp → Prop} {Y : Nat → Hp → V → Hp → Prop} (wk : Walk J n G Y) {g : TG} {tt : TT} {te : TE} {vs1 : List Nat} {σ2 : L2.St} {H1 : Hp} {D : Addr} {Nx : Hp → Prop} (Pv : Nat → Hp → Prop) (h0 : Pv 0 H1) (hG : ∀ i H, i ≤ n → Pv i H → G H)
    (hs : ∀ i x H H', i < n → Pv i H → Y i H x H' → g x (wipe σ2 vs1) H' fun σ3 H2 => wipe σ3 vs1 = wipe σ2 vs1 ∧ tt σ3 H2 fun b H3 => if b = true then te σ3 H3 fun y H4 =>
      ∃ (k : Int) (L : List Int), y = .int k ∧ H4 D = some (SetIO w D L) ∧ L.length ≤ 1000 ∧ (∀ L', (k ∈ L → L' = L) → (k ∉ L → L'.Perm (k :: L)) → Pv (i + 1) (upd H4 D (SetIO w D L'))) else Pv (i + 1) H3)
    (hd : ∀ H, Pv n H → Nx H) : ∃ W : Nat → Nat → Hp → Prop, (∃ m, W 0 m H1) ∧ ∀ i m H', W i m H' → Sc2In w J g tt te vs1 σ2 D Nx W i m H' := turnsIt wk Pv h0 hG hs hd
end My

set_option Elab.async false
set_option linter.all false
set_option maxRecDepth 100000
set_option maxHeartbeats 2000000
/-! tuple(range(a, b)) with ends of any size. -/
namespace My
open PySem PySem.Spec PyProof.Rows L2
section
variable {P : Program} {w : World} {A : Around} {E : Value → Shared → Prop} {s : Shared} {r : Addr} {i j : Int} {x y z : Tok} {n : Nat}
/-- a list is filled by a range whose ends are great -/
theorem extend_long {R : Result → Shared → Prop} (calm : A.handled = none) (rg : IsRange s.heap r i j 1 x y z) (great : Builtin.Range.small i j 1 = false) (size : Builtin.Range.rangeSize i j 1 = n) (few : n ≤ 2 ^ 24)
    (L : Addr) (res : Value) (k0 : Nat) (hL : s.heap.get? L = some { cls := .type "list", data := .seq #[] k0 })
    (q : ∀ h1 tk xs k1, (∀ b o, b ≠ L → s.heap.get? b = some o → h1.get? b = some o) → h1.get? L = some { cls := .type "list", dict := none, data := .seq xs k1, slots := #[] } → ItemsOf (fun m v => ∃ t, v = .int (i + m * 1) t) xs n → R (.ok (.ret res)) { s with heap := h1, toks := tk }) :
    wpAny (model P w) A.in1 (Builtin.List.listExtendWith (.ref L) (.ref r) res)
      (fun fin s1 => match fin with
        | .done f => R (.ok f) s1
        | .again c => c.quiet = true ∧ codeAny (model P w) A c R s1) (fun e s1 => R (.error e) s1) s := by
  have Lr : L ≠ r := by
    rintro rfl
    rw [rg] at hL
    simp at hL
  have Llt : L < s.heap.objs.size := Heap.lt_size hL
  have LI : L ≠ s.heap.objs.size := Nat.ne_of_lt Llt
  have turn : ∀ (h : Heap) (k1 tk : Nat), IsLongIter h s.heap.objs.size (i + ((0 : Nat) : Int) * 1) ((n : Int) - ((0 : Nat) : Int)) 1 → (∀ b o, b ≠ L → s.heap.get? b = some o → h.get? b = some o) → h.get? L = some { cls := .type "list", data := .seq #[] k1 } →
      codeAny (model P w) A (.builtin "list.extend.loop" ⟨[.ref L, .ref s.heap.objs.size, res], []⟩) R { s with heap := h, toks := tk } := fun h k1 tk it kept hL1 => by
    refine codeAny_extend_loopS (Walks.longrange (prog := P) (w := w) (A := A.in1) calm s.heap.objs.size i 1 n).toS (by rw [sizeLine_eq]; omega) L (by rw [List.mem_singleton]; exact LI) res n 0 _ #[] k1 rfl (Nat.zero_le n) it hL1 (ItemsOf.nil _) fun s2 xs k2 moved hL2 its => ?_
    rw [moved.eq_with]
    refine q s2.heap s2.toks xs k2 (fun b o ne e => moved.heap b o (fun m => ?_) (kept b o ne e)) hL2 its
    rcases List.mem_cons.mp m with h | h
    · exact ne h
    · exact Nat.lt_irrefl _ (List.mem_singleton.mp h ▸ Heap.lt_size e)
  unfold Builtin.List.listExtendWith
  refine wpAny_bind (wpAny_typeOf (T := "range") ⟨_, rg, rfl⟩ ?_)
  have no1 : Builtin.List.listSameRef (.ref L) (.ref r) = false := by simp [Builtin.List.listSameRef, Lr]
  have no2 : (Value.type "range" == Value.type "list") = false ∧ (Value.type "range" == Value.type "tuple") = false := by decide
  simp only [no1, no2.1, no2.2, Bool.or_false, Bool.false_eq_true, if_false]
  refine wpAny_bind (wpAny_pyIter_longrange rg great ?_)
  refine wpAny_bind (wpAny_holding (wpAny_hint_range (n := n) (Heap.get?_push_of_some _ rg) size few ?_))
  have it1 : IsLongIter (s.heap.push { cls := .type "longrange_iterator", data := .fields #[rawInt i, rawInt (Builtin.Range.rangeSize i j 1), rawInt 1] }) s.heap.objs.size (i + ((0 : Nat) : Int) * 1) ((n : Int) - ((0 : Nat) : Int)) 1 := by
    show IsLongIter _ _ _ _ _
    rw [size]
    simpa using Heap.get?_push_size _ rfl
  have hL1 := Heap.get?_push_of_some { cls := .type "longrange_iterator", data := .fields #[rawInt i, rawInt (Builtin.Range.rangeSize i j 1), rawInt 1] } hL
  refine wpAny_ite_split (fun _ => ?_) (fun _ => wpAny_pure ⟨plainId_quiet F.plain_extend_loop _, turn _ k0 _ it1 (fun b o _ e => Heap.get?_push_of_some _ e) hL1⟩)
  refine wpAny_bind (wpAny_rule ?_)
  refine wpAny_bind ?_
  show wpAny _ _ (updateSeq L (·.push .none) >>= fun _ => updateSeq L (·.pop)) _ _ _
  refine wpAny_bind (wpAny_updateSeq hL1 rfl ?_)
  have hL2 := Heap.get?_update_self (Obj.mapSeq (·.push Value.none)) hL1 rfl
  refine wpAny_updateSeq (hz := by seq_fits) hL2 rfl ?_
  have hL3 := Heap.get?_update_self (Obj.mapSeq (·.pop)) hL2 rfl
  refine wpAny_pure ⟨plainId_quiet F.plain_extend_loop _, turn _ _ _ ?_ (fun b o ne e => ?_) hL3⟩
  · exact (Heap.get?_update_other _ _ LI).trans ((Heap.get?_update_other _ _ LI).trans it1)
  · exact (Heap.get?_update_other _ _ (Ne.symm ne)).trans ((Heap.get?_update_other _ _ (Ne.symm ne)).trans (Heap.get?_push_of_some _ e))
theorem extend_any {R : Result → Shared → Prop} (calm : A.handled = none) (rg : IsRange s.heap r i j 1 x y z) (size : Builtin.Range.rangeSize i j 1 = n) (few : n ≤ 2 ^ 24)
    (L : Addr) (res : Value) (k0 : Nat) (hL : s.heap.get? L = some { cls := .type "list", data := .seq #[] k0 })
    (q : ∀ h1 tk xs k1, (∀ b o, b ≠ L → s.heap.get? b = some o → h1.get? b = some o) → h1.get? L = some { cls := .type "list", dict := none, data := .seq xs k1, slots := #[] } → ItemsOf (fun m v => ∃ t, v = .int (i + m * 1) t) xs n → R (.ok (.ret res)) { s with heap := h1, toks := tk }) :
    wpAny (model P w) A.in1 (Builtin.List.listExtendWith (.ref L) (.ref r) res)
      (fun fin s1 => match fin with
        | .done f => R (.ok f) s1
        | .again c => c.quiet = true ∧ codeAny (model P w) A c R s1) (fun e s1 => R (.error e) s1) s := by
  cases g : Builtin.Range.small i j 1 with
  | false => exact extend_long calm rg g size few L res k0 hL q
  | true => exact wpAny_extend_range calm rg g size few L res k0 hL q
theorem collect_any {Q : List Value → Shared → Prop} (calm : A.handled = none) (rg : IsRange s.heap r i j 1 x y z) (size : Builtin.Range.rangeSize i j 1 = n) (few : n ≤ 2 ^ 24)
    (q : ∀ (h1 : Heap) (tk : Nat) (xs : Array Value), (∀ b o, s.heap.get? b = some o → h1.get? b = some o) → ItemsOf (fun m v => ∃ t, v = .int (i + m * 1) t) xs n → Q xs.toList { s with heap := h1, toks := tk }) :
    wpAny (model P w) A (collect (.ref r)) Q E s := by
  unfold collect
  refine wpAny_bind (wpAny_runValue (codeAny_builtin F.entry_proto_collect ?_))
  rw [Around.under_plainId F.plain_proto_collect _]
  show wpAny _ A.in1 (newList [] >>= fun l => again (.builtin "list.__iadd__" ⟨[l, .ref r], []⟩)) _ _ _
  refine wpAny_bind (wpAny_newObj_type (wpAny_pure ⟨plainId_quiet F.plain_list_iadd _, codeAny_builtin F.entry_list_iadd ?_⟩))
  rw [Around.under_plainId F.plain_list_iadd _]
  show wpAny _ A.in1 (Builtin.List.listExtendWith (.ref s.heap.objs.size) (.ref r) _) _ _ _
  have hL : (s.heap.push { cls := .type "list", data := .seq ([] : List Value).toArray }).get? s.heap.objs.size = some { cls := .type "list", data := .seq #[] 0 } := Heap.get?_push_size _ rfl
  have last : ∀ s1, (∃ (h1 : Heap) (tk : Nat) (xs : Array Value) (k1 : Nat), s1 = { s with heap := h1, toks := tk } ∧ (∀ b o, s.heap.get? b = some o → h1.get? b = some o) ∧ h1.get? s.heap.objs.size = some { cls := .type "list", dict := none, data := .seq xs k1, slots := #[] } ∧ ItemsOf (fun m v => ∃ t, v = .int (i + m * 1) t) xs n) →
      wpAny (model P w) A (load s.heap.objs.size >>= fun o => match o.data with | .seq xs _ => pure xs.toList | _ => unsupported "internal:collect") Q E s1 := by
    rintro _ ⟨h1, tk, xs, k1, rfl, kept, hL1, its⟩
    exact wpAny_bind (wpAny_load hL1 (wpAny_pure (q h1 tk xs kept its)))
  refine wpAny_mono (extend_any (A := A) (s := { s with heap := s.heap.push { cls := .type "list", data := .seq ([] : List Value).toArray } })
      (R := fun rr s1 => rr = .ok (.ret (.ref s.heap.objs.size)) ∧ ∃ (h1 : Heap) (tk : Nat) (xs : Array Value) (k1 : Nat), s1 = { s with heap := h1, toks := tk } ∧ (∀ b o, s.heap.get? b = some o → h1.get? b = some o) ∧ h1.get? s.heap.objs.size = some { cls := .type "list", dict := none, data := .seq xs k1, slots := #[] } ∧ ItemsOf (fun m v => ∃ t, v = .int (i + m * 1) t) xs n)
      calm (Heap.get?_push_of_some _ rg) size few _ _ 0 hL fun h1 tk xs k1 kept e its => ⟨rfl, h1, tk, xs, k1, rfl, fun b o g => kept b o (Nat.ne_of_lt (Heap.lt_size g)) (Heap.get?_push_of_some _ g), e, its⟩) (fun fin s1 h => ?_) (fun e s1 h => absurd h.1 (by simp))
  cases fin with
  | done f =>
    obtain ⟨e, h⟩ := h
    cases e
    exact last s1 h
  | again c => exact ⟨h.1, codeAny_mono h.2 fun rr s2 ⟨e, h⟩ => by
      cases e
      exact last s2 h⟩
theorem code_tuple_any {Q : Value → Shared → Prop} (calm : A.handled = none) (rg : IsRange s.heap r i j 1 x y z) (size : Builtin.Range.rangeSize i j 1 = n) (few : n ≤ 2 ^ 24)
    (q : ∀ (h1 : Heap) (tk : Nat) (xs : Array Value), (∀ b o, s.heap.get? b = some o → h1.get? b = some o) → ItemsOf (fun m v => ∃ t, v = .int (i + m * 1) t) xs n → Q (.ref h1.objs.size) { s with heap := h1.push { cls := .type "tuple", data := .seq xs }, toks := tk }) :
    codeAny (model P w) A (.call (.builtin "tuple.__new__") ⟨[.type "tuple", .ref r], []⟩) (wants Q E) s := by
  refine codeAny_of_tree ?_
  show wpAny _ A.in1 (checkBuiltinCall "tuple.__new__" ⟨[.type "tuple", .ref r], []⟩ >>= fun _ => again (.builtin "tuple.__new__" ⟨[.type "tuple", .ref r], []⟩)) _ _ _
  refine wpAny_bind (wpAny_of_eq (F.newCall_tuple_1 _) (wpAny_pure ⟨plainId_quiet F.plain_tuple_new _, codeAny_builtin F.entry_tuple_new ?_⟩))
  rw [Around.under_plainId F.plain_tuple_new _]
  have f1 := sub_tuple_self
  have f2 := init_tuple_lookup
  have f3 := madeHere_tuple
  have ty : s.TypeIs (.ref r) "range" := ⟨_, rg, rfl⟩
  have calm1 : A.in1.handled = none := calm
  wp_walk using wpAny_typeOf ty, collect_any (A := A.in1) calm1 rg size few
  intro h1 tk xs kept its
  show wpAny _ _ (Builtin.Tuple.tupleExact xs.toList.toArray >>= fun v => ret v) _ _ _
  unfold Builtin.Tuple.tupleExact
  refine wpAny_bind (wpAny_newObj_type (wpAny_pure ?_) (by
    show xs.toList.toArray.size ≤ sizeLine
    simp only [Array.toArray_toList]
    rw [its.1, sizeLine_eq]
    omega))
  rw [show xs.toList.toArray = xs by simp]
  exact q h1 tk xs kept its
theorem call_tuple_any {Q : Value → Shared → Prop} (calm : A.handled = none) (rg : IsRange s.heap r i j 1 x y z) (size : Builtin.Range.rangeSize i j 1 = n) (few : n ≤ 2 ^ 24)
    (q : ∀ (h1 : Heap) (tk : Nat) (xs : Array Value), (∀ b o, s.heap.get? b = some o → h1.get? b = some o) → ItemsOf (fun m v => ∃ t, v = .int (i + m * 1) t) xs n → Q (.ref h1.objs.size) { s with heap := h1.push { cls := .type "tuple", data := .seq xs }, toks := tk }) :
    wpAny (model P w) A (call (.type "tuple") [.ref r]) Q E s := by
  refine callType_codes (Q₁ := fun o s1 => s1.TypeIs o "tuple" ∧ Q o s1) F.called_tuple (F.typeCall_tuple_1 _) F.entry_object_init (code_tuple_any (A := A.in1) calm rg size few fun h1 tk xs kept its => ⟨⟨_, Heap.get?_push_size _ rfl, rfl⟩, q h1 tk xs kept its⟩) fun o s1 h => ?_
  exact ⟨h.1, F.args_object_init_2 o _, object_init_meets F.called_tuple.init.lookup F.called_tuple.made (by decide) P w A.in1 _ s1 ⟨h.1, rfl, h.2⟩⟩
end
section
variable {X : Cx} {e : Expr} {te : L2.St → Hp → (Int → Int → Hp → Prop) → Prop}
def tTupB (te : L2.St → Hp → (Int → Int → Hp → Prop) → Prop) : TE := fun σ H Q => te σ H fun a b H1 => (b - a).toNat ≤ 1000 ∧ ∀ p, H1 p = none → Q (.ref p) (upd H1 p (.tup (rgV a b)))
theorem pe_tupRgB {p pos : Pos} (hc : X.calm = true) (hg : Gl X "tuple") (hm : X.mg "tuple" = none) (he : PRg X e te) (na : starEach [e] X.env = (false, eval e X.env) :: starEach [] X.env := by rfl) : PE X (.Call (.Name "tuple" p) [e] [] pos) (tTupB te) := by
  refine ⟨fun pins s σ H Q I h => Call_ (ld_blt I hg hm boot_tuple (PyProof.Rows.callWith_type1 (args_cons (thn (he pins s σ H _ I h) fun _ s1 ⟨r, a, b, x, y, z, H1, ex, rg, I1, few, q⟩ => args_nil ?_) na) na))⟩
  subst ex
  refine call_tuple_any (n := (b - a).toNat) (I1.ok.hd hc) rg (rangeSize_nat a b) (by omega) fun h1 tk xs kept its => ?_
  have I2 : Inv X pins σ H1 { s1 with heap := h1, toks := tk } := I1.kept kept
  have lay : ObjOk X.prog X.w (upd H1 h1.objs.size (.tup (rgV a b))) (h1.push { cls := .type "tuple", data := .seq xs }) h1.objs.size (.tup (rgV a b)) := ⟨by rw [rgV_length, sizeLine_eq]; omega, xs.toList, vals_rg its, by
    rw [Array.toArray_toList]
    exact IsTup.new _ _⟩
  exact ⟨.ref h1.objs.size, _, I2.laid (t' := tk) (fun c o g => Heap.get?_push_of_some _ g) (Nat.le_refl _) lay, rfl, q _ (I2.hok.fresh (Nat.le_refl _))⟩
end
end My

set_option Elab.async false
set_option linter.all false
set_option maxRecDepth 100000
set_option maxHeartbeats 2000000
/-! A tuple whose whole object is in sight (frozen): it has no dict of its own, so that it can be asked by a method. -/
namespace My
open PySem PySem.Spec PyProof.Rows L2
/-- a tuple's object without a dict -/
def TD (o : Obj) : Prop := o.cls = .type "tuple" ∧ o.dict = none
section
variable {X : Cx} {K1 : PySem.W.Frag}
def rTupD (K : PySem.W.Frag) : List V → Hp → VK → Prop := fun xs H Q => ∃ p ys, xs = [.ref p] ∧ SqL K H p ys ∧ ∀ l o, H l = none → TD o → Q (.ref l) (upd H l (.frz o (.tup ys)))
theorem call_tupleD : CallR X (.type "tuple") (rTupD X.K) := by
  intro pins s σ H xs us Q I rs ⟨p, ys, ex, hp, q⟩
  subst ex
  obtain ⟨u, eu, ru⟩ := vals1 rs
  subst eu
  cases ru
  obtain ⟨vs, rv, pl, le⟩ := I.list hp
  have ln := rv.length
  refine call_tuple_list pl.isList (fun h' kp => ?_) (by rw [List.size_toArray]; omega)
  have J := I.kept (t' := s.toks) kp
  have at_ : (h'.push { cls := .type "tuple", data := .seq vs.toArray }).get? h'.objs.size = some { cls := .type "tuple", data := .seq vs.toArray } := Heap.get?_push_size _ rfl
  have G := J.laid (t' := s.toks) (h' := h'.push { cls := .type "tuple", data := .seq vs.toArray }) (fun b z e => Heap.get?_push_of_some _ e) (Nat.le_refl _) (show ObjOk X.prog X.w (upd H h'.objs.size (.frz { cls := .type "tuple", data := .seq vs.toArray } (.tup ys))) _ h'.objs.size (.frz { cls := .type "tuple", data := .seq vs.toArray } (.tup ys)) from ⟨at_, le, vs, rv, IsTup.new _ _⟩)
  exact ⟨.ref h'.objs.size, _, G, rfl, q _ _ (J.hok.fresh (Nat.le_refl _)) ⟨rfl, rfl⟩⟩
theorem call_tupleDK (hK : X.K = K1) : CallR X (.type "tuple") (rTupD K1) := by
  subst hK
  exact call_tupleD
variable {es : List Expr} {t : TA} {o e : Expr} {to : TE} {name : Str} {apos cpos : Pos} {id : String} {r : V → List V → Hp → VK → Prop}
def tBMD (r : V → List V → Hp → VK → Prop) (to : TE) (t : TA) : TE := fun σ H Q => to σ H fun x H1 => (∃ p ob u, x = .ref p ∧ H1 p = some (.frz ob u) ∧ TD ob) ∧ t σ H1 fun xs H2 => r x xs H2 Q
theorem pe_bmD (pa : PlainAttrs "tuple") (slot : Slot "tuple" name id) (ht : typeOf (.builtin id) = pure (.type "method_descriptor")) (hm : MtR X id r) (ho : PE X o to) (ha : PA X (e :: es) t)
    (hbase : attributeBase o name X.env (eval o X.env) = eval o X.env := by rfl)
    (hfew : ((backTo cpos (starEach (e :: es) X.env)).all (fun x => !x.1) && (backToKw cpos (keywordEach [] X.env)).all (fun x => x.1.isSome) && decide ((e :: es).length + ([] : List Keyword).length + (if ([] : List Keyword).isEmpty then 0 else 1) < 30)) = true := by rfl)
    (hline : (apos.endLine == cpos.line) = true := by rfl) (hst : starEach (e :: es) X.env = (false, eval e X.env) :: starEach es X.env := by rfl) (hpl : (backTo cpos (starEach es X.env)).any (·.1) = false := by rfl) :
    PE X (.Call (.Attribute o name apos) (e :: es) [] cpos) (tBMD r to t) := by
  refine ⟨fun pins s σ H Q I h => wpAny_Call_method_late hbase hfew hline rfl (thn (ho.run pins s σ H _ I h) fun v s1 ⟨x, H1, I1, r1, ⟨p, ob, u, ex, hp, td⟩, q1⟩ => ?_)⟩
  subst ex
  obtain rfl : v = Value.ref p := r1
  obtain ⟨g, _⟩ := I1.hok p _ hp
  refine ⟨"tuple", id, pa, slot, ht, ⟨_, g, td.1⟩, fun a e => by cases e; exact ⟨_, g, td.2⟩, ?_⟩
  have run := ha.run cpos pins s1 σ H1 _ I1 q1
  rw [hst] at run ⊢
  refine Calls.callWith_builtin (by show (false || (backTo cpos (starEach es X.env)).any (·.1)) = false; rw [hpl] <;> rfl) (Calls.evalArgs_plain ?_)
  exact thn run fun us s2 ⟨vs, H2, I2, r2, q2⟩ => hm pins s2 σ H2 (.ref p) vs (.ref p) us Q I2 rfl r2 q2
def rTupIx (K : PySem.W.Frag) : V → List V → Hp → VK → Prop := fun x xs H Q => ∃ p, ∃ ys : List Str, ∃ z j, x = .ref p ∧ xs = [.str z] ∧ SqT K H p (ys.map V.str) ∧ ys[j]? = some z ∧ (∀ m, m < j → ys[m]? ≠ some z) ∧ Q (.int (j : Nat)) H
theorem mt_tup_indexK (hK : X.K = K1) : MtR X "tuple.index" (rTupIx K1) := by
  subst hK
  exact mt_tup_index
end
end My

set_option Elab.async false
set_option linter.all false
set_option maxRecDepth 100000
set_option maxHeartbeats 2000000
/-! t[::-1], t a tuple of two. -/
namespace My
open PySem PySem.Spec PyProof.Rows L2 HT
section
variable {prog : Program} {w : World} {A : Around} {E : Value → Shared → Prop} {s : Shared}
theorem applied_back {sl : Addr} {u : Tok} {Q : Int × Int × Nat → Shared → Prop} (hs : s.heap.IsSliceOf sl .none .none (.int (-1) u)) (h : Q (1, -1, 2) s) :
    wpAny (model prog w) A (Builtin.Slice.sliceApplied (.ref sl) (pure (2 : Int))) Q E s := by
  obtain ⟨o, ho, _, hd⟩ := hs
  unfold Builtin.Slice.sliceApplied Builtin.Slice.sliceFields
  refine wpAny_bind (wpAny_bind (wpAny_field ho hd (x := .none) rfl ?_))
  refine wpAny_bind (wpAny_field ho hd (x := .none) rfl ?_)
  refine wpAny_bind (wpAny_field ho hd (x := .int (-1) u) rfl (wpAny_pure ?_))
  refine wpAny_bind (slicePart_ (.int (-1) u) ?_)
  show wpAny _ _ (if ((-1 : Int) == 0) = true then _ else _) _ _ s
  rw [if_neg (show ¬ ((-1 : Int) == 0) = true by decide)]
  exact wpAny_bind (slicePart_ .none (wpAny_bind (slicePart_ .none (wpAny_bind (wpAny_pure (wpAny_pure h))))))
theorem item_back {t sl : Addr} {a b : Value} {u : Tok} {Q : Value → Shared → Prop} (ht : IsTup s.heap t #[a, b]) (hs : s.heap.IsSliceOf sl .none .none (.int (-1) u))
    (h : Q (.ref s.heap.objs.size) { s with heap := s.heap.push { cls := .type "tuple", data := .seq #[b, a] } }) : wpAny (model prog w) A (getItem (.ref t) (.ref sl)) Q E s := by
  obtain ⟨o, ho, hc, hd⟩ := id hs
  have ty : s.TypeIs (.ref sl) "slice" := ⟨o, ho, hc⟩
  have fit : sizeOk (.seq #[b, a]) := by show 2 ≤ sizeLine; exact sz (by decide)
  unfold getItem
  try with_reducible refine wpAny_holding ?_
  first | refine wpAny_bind (wpAny_pure ?_) | skip
  refine wpAny_bind (wpAny_sequenceKey ht.typeIs (by decide) (wpAny_bind (wpAny_callSpecial?_slot (name := Str.ofString "__getitem__") ht.typeIs PyProof.Rows.slot_tuple_getitem (wpAny_call_entry PyProof.Rows.slot_tuple_getitem ht.typeIs entry_tuple_getitem ?_ (args_tuple_getitem _ _)))))
  show wpAny _ _ (Builtin.Tuple.tupleItemsOf (.ref t) >>= _) _ _ s
  refine wpAny_bind (tupleItemsOf_ ht (wpAny_bind (wpAny_typeOf ty ?_)))
  rw [if_pos (by decide)]
  refine wpAny_bind (applied_back hs ?_)
  show wpAny _ _ (if (((1 : Int) == 0) && ((-1 : Int) == 1) && ((2 : Nat) == 2)) = true then _ else _) _ _ s
  rw [if_neg (by decide)]
  have e : ((List.range 2).filterMap fun (k : Nat) => (#[a, b] : Array Value)[((1 : Int) + (k : Int) * (-1)).toNat]?).toArray = #[b, a] := rfl
  rw [e]
  first
    | exact wpAny_bind (m := Builtin.Tuple.tupleExact _) (wpAny_newObj_type (wpAny_pure ⟨_, rfl, wpAny_pure h⟩) fit)
    | exact wpAny_bind (m := Builtin.Tuple.tupleExact _) (wpAny_newObj_type (wpAny_bind (wpAny_pure (wpAny_pure ⟨_, rfl, wpAny_pure h⟩))) fit)
    | exact wpAny_bind (wpAny_bind (m := Builtin.Tuple.tupleExact _) (wpAny_newObj_type (wpAny_pure (wpAny_pure ⟨_, rfl, wpAny_pure h⟩)) fit))
    | exact wpAny_bind (wpAny_bind (m := Builtin.Tuple.tupleExact _) (wpAny_newObj_type (wpAny_pure ⟨_, rfl, wpAny_pure h⟩) fit))
end
section
variable {X : Cx} {K1 : PySem.W.Frag}
def tRevP (K : PySem.W.Frag) (te : TE) : TE := fun σ H Q => te σ H fun x H1 => ∃ a p q, x = .ref a ∧ SqT K H1 a [p, q] ∧ ∀ b, H1 b = none → Q (.ref b) (upd H1 b (.tup [q, p]))
theorem pe_revP {e : Expr} {te : TE} {k : Nat} {p1 p2 p3 pos : Pos} (hK : X.K = K1) (he : PE X e te) : PE X (.Subscript e (.Slice none none (some (.UnaryOp .USub (.Constant (.int 1) k p1) p2)) p3) pos) (tRevP K1 te) := by
  subst hK
  have step : PO X (some (.UnaryOp .USub (.Constant (.int 1) k p1) p2)) (tPart (tUn (rU fun i => .int (-i)) (tC (.int 1)))) := po_some (pe_un un_neg pe_int)
  constructor
  intro pins s σ H Q I h
  refine Subscript_ (thn (he.run pins s σ H _ I h) ?_)
  rintro v s1 ⟨x, H1, I1, r1, a, p, q, rfl, hx, hq⟩
  cases r1
  refine wpAny_Slice (thn (po_none.run pins s1 σ H1 (fun o G => o = none ∧ G = H1) I1 ⟨rfl, rfl⟩) ?_)
  rintro vl s2 ⟨o1, G1, I2, q1, rfl, rfl⟩
  refine thn (po_none.run pins s2 σ G1 (fun o G => o = none ∧ G = G1) I2 ⟨rfl, rfl⟩) ?_
  rintro vu s3 ⟨o2, G2, I3, q2, rfl, rfl⟩
  refine thn (step.run pins s3 σ G2 (fun o G => o = some (-1) ∧ G = G2) I3 ⟨1, rfl, -1, rfl, rfl, rfl⟩) ?_
  rintro vs s4 ⟨o3, G3, I4, q3, rfl, rfl⟩
  cases q1
  cases q2
  cases q3 with
  | int _ u =>
    have I5 : Inv X pins σ G3 { s4 with heap := s4.heap.push { cls := .type "slice", data := .fields #[.none, .none, .int (-1) u] } } := I4.kept (t' := s4.toks) fun b ob q => Heap.get?_push_of_some _ q
    obtain ⟨its, r, ht, _⟩ := I5.tuple hx
    cases r with
    | @cons _ b1 _ _ ra r =>
      cases r with
      | @cons _ b2 _ _ rb r =>
        cases r
        show wpAny (model X.prog X.w) X.A (subscriptTail e (.Slice none none (some (.UnaryOp .USub (.Constant (.int 1) k p1) p2)) p3) (.ref a) (.ref s4.heap.objs.size)) (EP X pins σ Q) X.xe { s4 with heap := s4.heap.push { cls := .type "slice", data := .fields #[.none, .none, .int (-1) u] } }
        refine tail_any (ops := [.ref a, .ref s4.heap.objs.size]) ht.typeIs (PyProof.Rows.slot_tuple_getitem.lookup) ?_ (by with_unfolding_all rfl)
        refine item_back ht (Heap.IsSliceOf.new _ .none .none (.int (-1) u)) ?_
        refine ⟨.ref _, _, I5.laid (t' := s4.toks) (o := .tup [q, p]) (fun b ob q => Heap.get?_push_of_some _ q) (Nat.le_refl _) ⟨sz (by show 2 ≤ 1000; decide), [b2, b1], .cons rb (.cons ra .nil), IsTup.new _ _⟩, rfl, hq _ (I5.hok.fresh (Nat.le_refl _))⟩
end
end My

set_option Elab.async false
set_option linter.all false
set_option maxRecDepth 100000
set_option maxHeartbeats 2000000
/-! t[::-1], t a tuple of any length. -/
namespace My
open PySem PySem.Spec PyProof.Rows L2 HT
theorem all_places {α : Type} : ∀ ys : List α, (List.range ys.length).filterMap (fun k => ys[k]?) = ys
  | [] => rfl
  | y :: ys => by
    rw [List.length_cons, List.range_succ_eq_map, List.filterMap_cons]
    show y :: _ = _
    rw [List.filterMap_map]
    exact congrArg _ (all_places ys)
theorem fm_congr {α β : Type} {f g : α → Option β} : ∀ {l : List α}, (∀ x ∈ l, f x = g x) → l.filterMap f = l.filterMap g
  | [], _ => rfl
  | x :: l, h => by
    rw [List.filterMap_cons, List.filterMap_cons, h x (.head _), fm_congr (fun y hy => h y (.tail _ hy))]
theorem vals_reverse : ∀ {xs : List V} {us : List Value}, Vals xs us → Vals xs.reverse us.reverse
  | _, _, .nil => .nil
  | _, _, .cons a r => by
    rw [List.reverse_cons, List.reverse_cons]
    exact (vals_reverse r).append (.cons a .nil)
theorem back_places {α : Type} (xs : List α) : (List.range xs.length).filterMap (fun (k : Nat) => xs[((xs.length : Int) - 1 + (k : Int) * (-1)).toNat]?) = xs.reverse := by
  have := all_places xs.reverse
  rw [List.length_reverse] at this
  refine Eq.trans ?_ this
  refine fm_congr fun k hk => ?_
  have hk := List.mem_range.mp hk
  rw [List.getElem?_reverse hk]
  congr 1
  omega
section
variable {prog : Program} {w : World} {A : Around} {E : Value → Shared → Prop} {s : Shared}
theorem places_back (n : Nat) : Builtin.Slice.slicePlaces ((n : Int) - 1) (-1) (-1) = n := by
  unfold Builtin.Slice.slicePlaces
  rw [if_neg (by decide)]
  by_cases e : n = 0
  · subst e
    rfl
  · rw [if_pos (by omega)]
    have : ((n : Int) - 1 - -1 - 1) / (- -1) + 1 = (n : Int) := by
      rw [show (- -1 : Int) = 1 by decide, Int.ediv_one]
      omega
    rw [this]
    rfl
theorem applied_backN {sl : Addr} {u : Tok} {n : Nat} {Q : Int × Int × Nat → Shared → Prop} (hs : s.heap.IsSliceOf sl .none .none (.int (-1) u)) (h : Q ((n : Int) - 1, -1, n) s) :
    wpAny (model prog w) A (Builtin.Slice.sliceApplied (.ref sl) (pure (n : Int))) Q E s := by
  obtain ⟨o, ho, _, hd⟩ := hs
  unfold Builtin.Slice.sliceApplied Builtin.Slice.sliceFields
  refine wpAny_bind (wpAny_bind (wpAny_field ho hd (x := .none) rfl ?_))
  refine wpAny_bind (wpAny_field ho hd (x := .none) rfl ?_)
  refine wpAny_bind (wpAny_field ho hd (x := .int (-1) u) rfl (wpAny_pure ?_))
  refine wpAny_bind (slicePart_ (.int (-1) u) ?_)
  show wpAny _ _ (if ((-1 : Int) == 0) = true then _ else _) _ _ s
  rw [if_neg (show ¬ ((-1 : Int) == 0) = true by decide)]
  refine wpAny_bind (slicePart_ .none (wpAny_bind (slicePart_ .none (wpAny_bind (wpAny_pure (wpAny_pure ?_))))))
  show Q ((n : Int) - 1, -1, Builtin.Slice.slicePlaces ((n : Int) - 1) (-1) (-1)) s
  rw [places_back]
  exact h
theorem item_backN {t sl : Addr} {items : Array Value} {u : Tok} {Q : Value → Shared → Prop} (ht : IsTup s.heap t items) (hz : items.size ≤ sizeLine) (hs : s.heap.IsSliceOf sl .none .none (.int (-1) u))
    (h : Q (.ref s.heap.objs.size) { s with heap := s.heap.push { cls := .type "tuple", data := .seq items.toList.reverse.toArray } }) : wpAny (model prog w) A (getItem (.ref t) (.ref sl)) Q E s := by
  obtain ⟨o, ho, hc, hd⟩ := id hs
  have ty : s.TypeIs (.ref sl) "slice" := ⟨o, ho, hc⟩
  have fit : sizeOk (.seq items.toList.reverse.toArray) := by
    show items.toList.reverse.toArray.size ≤ sizeLine
    rw [List.size_toArray, List.length_reverse, Array.length_toList]
    exact hz
  unfold getItem
  try with_reducible refine wpAny_holding ?_
  first | refine wpAny_bind (wpAny_pure ?_) | skip
  refine wpAny_bind (wpAny_sequenceKey ht.typeIs (by decide) (wpAny_bind (wpAny_callSpecial?_slot (name := Str.ofString "__getitem__") ht.typeIs PyProof.Rows.slot_tuple_getitem (wpAny_call_entry PyProof.Rows.slot_tuple_getitem ht.typeIs entry_tuple_getitem ?_ (args_tuple_getitem _ _)))))
  show wpAny _ _ (Builtin.Tuple.tupleItemsOf (.ref t) >>= _) _ _ s
  refine wpAny_bind (tupleItemsOf_ ht (wpAny_bind (wpAny_typeOf ty ?_)))
  rw [if_pos (by decide)]
  refine wpAny_bind (applied_backN (n := items.size) hs ?_)
  show wpAny _ _ (if ((((items.size : Int) - 1) == 0) && ((-1 : Int) == 1) && (items.size == items.size)) = true then _ else _) _ _ s
  rw [if_neg (by rw [show ((-1 : Int) == 1) = false by decide, Bool.and_false, Bool.false_and]; exact Bool.noConfusion)]
  have e : ((List.range items.size).filterMap fun (k : Nat) => items[((items.size : Int) - 1 + (k : Int) * (-1)).toNat]?).toArray = items.toList.reverse.toArray := by
    have := back_places items.toList
    rw [Array.length_toList] at this
    rw [← this]
    simp only [Array.getElem?_toList]
  rw [e]
  first
    | exact wpAny_bind (m := Builtin.Tuple.tupleExact _) (wpAny_newObj_type (wpAny_pure ⟨_, rfl, wpAny_pure h⟩) fit)
    | exact wpAny_bind (m := Builtin.Tuple.tupleExact _) (wpAny_newObj_type (wpAny_bind (wpAny_pure (wpAny_pure ⟨_, rfl, wpAny_pure h⟩))) fit)
    | exact wpAny_bind (wpAny_bind (m := Builtin.Tuple.tupleExact _) (wpAny_newObj_type (wpAny_pure (wpAny_pure ⟨_, rfl, wpAny_pure h⟩)) fit))
    | exact wpAny_bind (wpAny_bind (m := Builtin.Tuple.tupleExact _) (wpAny_newObj_type (wpAny_pure ⟨_, rfl, wpAny_pure h⟩) fit))
end
section
variable {X : Cx} {K1 : PySem.W.Frag}
def tRevA (K : PySem.W.Frag) (te : TE) : TE := fun σ H Q => te σ H fun x H1 => ∃ a xs, x = .ref a ∧ SqT K H1 a xs ∧ ∀ b, H1 b = none → Q (.ref b) (upd H1 b (.tup xs.reverse))
theorem pe_revA {e : Expr} {te : TE} {k : Nat} {p1 p2 p3 pos : Pos} (hK : X.K = K1) (he : PE X e te) : PE X (.Subscript e (.Slice none none (some (.UnaryOp .USub (.Constant (.int 1) k p1) p2)) p3) pos) (tRevA K1 te) := by
  subst hK
  have step : PO X (some (.UnaryOp .USub (.Constant (.int 1) k p1) p2)) (tPart (tUn (rU fun i => .int (-i)) (tC (.int 1)))) := po_some (pe_un un_neg pe_int)
  constructor
  intro pins s σ H Q I h
  refine Subscript_ (thn (he.run pins s σ H _ I h) ?_)
  rintro v s1 ⟨x, H1, I1, r1, a, xs, rfl, hx, hq⟩
  cases r1
  refine wpAny_Slice (thn (po_none.run pins s1 σ H1 (fun o G => o = none ∧ G = H1) I1 ⟨rfl, rfl⟩) ?_)
  rintro vl s2 ⟨o1, G1, I2, q1, rfl, rfl⟩
  refine thn (po_none.run pins s2 σ G1 (fun o G => o = none ∧ G = G1) I2 ⟨rfl, rfl⟩) ?_
  rintro vu s3 ⟨o2, G2, I3, q2, rfl, rfl⟩
  refine thn (step.run pins s3 σ G2 (fun o G => o = some (-1) ∧ G = G2) I3 ⟨1, rfl, -1, rfl, rfl, rfl⟩) ?_
  rintro vs s4 ⟨o3, G3, I4, q3, rfl, rfl⟩
  cases q1
  cases q2
  cases q3 with
  | int _ u =>
    have I5 : Inv X pins σ G3 { s4 with heap := s4.heap.push { cls := .type "slice", data := .fields #[.none, .none, .int (-1) u] } } := I4.kept (t' := s4.toks) fun b ob q => Heap.get?_push_of_some _ q
    obtain ⟨its, r, ht, hz⟩ := I5.tuple hx
    show wpAny (model X.prog X.w) X.A (subscriptTail e (.Slice none none (some (.UnaryOp .USub (.Constant (.int 1) k p1) p2)) p3) (.ref a) (.ref s4.heap.objs.size)) (EP X pins σ Q) X.xe { s4 with heap := s4.heap.push { cls := .type "slice", data := .fields #[.none, .none, .int (-1) u] } }
    refine tail_any (ops := [.ref a, .ref s4.heap.objs.size]) ht.typeIs (PyProof.Rows.slot_tuple_getitem.lookup) ?_ (by with_unfolding_all rfl)
    refine item_backN ht (by rw [List.size_toArray, ← r.length]; exact hz) (Heap.IsSliceOf.new _ .none .none (.int (-1) u)) ?_
    refine ⟨.ref _, _, I5.laid (t' := s4.toks) (o := .tup xs.reverse) (fun b ob q => Heap.get?_push_of_some _ q) (Nat.le_refl _) ⟨?_, _, vals_reverse r, IsTup.new _ _⟩, rfl, hq _ (I5.hok.fresh (Nat.le_refl _))⟩
    rw [List.length_reverse]
    exact hz
end
end My

set_option Elab.async false
set_option linter.all false
set_option maxRecDepth 100000
set_option maxHeartbeats 2000000
/-! Tuples made by +, by a cut, by turning about, as a literal: the whole new object in sight. -/
namespace My
open PySem PySem.Spec PyProof.Rows L2
section
variable {X : Cx} {K1 : PySem.W.Frag}
/-- a new tuple's object is laid -/
theorem lay_frz {pins : List (Addr × Obj)} {σ : L2.St} {H : Hp} {s : Shared} {xs : List V} {vs : List Value} (I : Inv X pins σ H s) (rv : Vals xs vs) (z : xs.length ≤ sizeLine) :
    Inv X pins σ (upd H s.heap.objs.size (.frz { cls := .type "tuple", data := .seq vs.toArray } (.tup xs))) { s with heap := s.heap.push { cls := .type "tuple", data := .seq vs.toArray } } := by
  have at_ : (s.heap.push { cls := .type "tuple", data := .seq vs.toArray }).get? s.heap.objs.size = some { cls := .type "tuple", data := .seq vs.toArray } := Heap.get?_push_size _ rfl
  exact I.laid (t' := s.toks) (fun b u e => Heap.get?_push_of_some _ e) (Nat.le_refl _) (show ObjOk X.prog X.w (upd H s.heap.objs.size (.frz { cls := .type "tuple", data := .seq vs.toArray } (.tup xs))) _ s.heap.objs.size (.frz { cls := .type "tuple", data := .seq vs.toArray } (.tup xs)) from ⟨at_, z, vs, rv, IsTup.new _ _⟩)
def rCatF (K : PySem.W.Frag) : R2 := fun x y H Q => ∃ a b xs ys, x = .ref a ∧ y = .ref b ∧ SqT K H a xs ∧ SqT K H b ys ∧ xs.length + ys.length ≤ sizeLine ∧
  (xs = [] → Q (.ref b) H) ∧ (xs ≠ [] → ys = [] → Q (.ref a) H) ∧ (xs ≠ [] → ys ≠ [] → ∀ p o, H p = none → TD o → Q (.ref p) (upd H p (.frz o (.tup (xs ++ ys)))))
theorem op_catF : OpR X (binaryOp .Add) (rCatF X.K) := by
  intro pins s σ H x y v u Q I rx ry h
  obtain ⟨a, b, xs, ys, rfl, rfl, ha, hb, hz, q0, q1, q2⟩ := h
  cases rx
  cases ry
  obtain ⟨its, r1, p1, _⟩ := I.tuple ha
  obtain ⟨its2, r2, p2, _⟩ := I.tuple hb
  by_cases hx : xs = []
  · subst hx
    cases r1
    exact cat_tup0 p1 p2 ⟨.ref b, H, I, rfl, q0 rfl⟩
  · have l1 := r1.length
    have l2 := r2.length
    refine HT.cat_tup p1 p2 (fun z => hx (List.length_eq_zero_iff.mp (by rw [l1, z]; rfl))) (fun e => ?_) (fun e => ?_) (by omega)
    · exact ⟨.ref a, H, I, rfl, q1 hx (List.length_eq_zero_iff.mp (by rw [l2, e]; rfl))⟩
    · exact ⟨.ref s.heap.objs.size, _, lay_frz I (r1.append r2) (by rw [List.length_append]; exact hz), rfl, q2 hx (fun z => e (List.length_eq_zero_iff.mp (by rw [← l2, z]; rfl))) _ _ (I.hok.fresh (Nat.le_refl _)) ⟨rfl, rfl⟩⟩
def rSlF (K : PySem.W.Frag) : V → Option Int → Option Int → Hp → VK → Prop := fun x lo hi H Q => ∃ a xs, x = .ref a ∧ SqT K H a xs ∧
  (HT.sIx xs.length 0 lo = 0 ∧ HT.sIx xs.length xs.length hi = xs.length → Q (.ref a) H) ∧ (¬ (HT.sIx xs.length 0 lo = 0 ∧ HT.sIx xs.length xs.length hi = xs.length) → ∀ p o, H p = none → TD o → Q (.ref p) (upd H p (.frz o (.tup (cutV xs lo hi)))))
theorem sl_tupF : SlR X (rSlF X.K) := by
  intro pins s σ H x v vl vu lo hi sl Q I rx hs pl pu h
  obtain ⟨a, xs, rfl, hx, q1, q2⟩ := h
  cases rx
  obtain ⟨its, r, ht, hz⟩ := I.tuple hx
  have hlen : its.toArray.size = xs.length := by rw [List.size_toArray]; exact r.length.symm
  refine ⟨"tuple", _, PyProof.Rows.slot_tuple_getitem.lookup, ht.typeIs, ?_⟩
  by_cases hw : HT.sIx xs.length 0 lo = 0 ∧ HT.sIx xs.length xs.length hi = xs.length
  · exact getItem_tuple_whole ht hs pl pu (by rw [hlen]; exact hw) ⟨.ref a, H, I, rfl, q1 hw⟩
  · refine HT.getItem_tuple_cut ht hs pl pu (by rw [hlen]; exact hw) ?_ (by rw [hlen]; exact hz)
    rw [hlen]
    exact ⟨.ref s.heap.objs.size, _, lay_frz I ((r.drop (HT.sIx xs.length 0 lo)).take (HT.sIx xs.length xs.length hi - HT.sIx xs.length 0 lo)) (Nat.le_trans (cutV_length xs lo hi) hz), rfl, q2 hw _ _ (I.hok.fresh (Nat.le_refl _)) ⟨rfl, rfl⟩⟩
def tTupF (t : TA) : TE := fun σ H Q => t σ H fun xs H1 => xs.length ≤ sizeLine ∧ ∀ p o, H1 p = none → TD o → Q (.ref p) (upd H1 p (.frz o (.tup xs)))
theorem pe_tupF {es : List Expr} {t : TA} {pos : Pos} {x1} (h : PA X es t) : PE X (.Tuple es x1 pos) (tTupF t) := by
  refine ⟨fun pins s σ H Q I hq => ?_⟩
  refine wpAny_Tuple_spliced (thn (h.run pos pins s σ H _ I hq) fun us s1 ⟨xs, H1, I1, r, z, q⟩ => ⟨by rw [← r.length]; exact z, ?_⟩)
  exact ⟨.ref s1.heap.objs.size, _, lay_frz I1 r z, rfl, q _ _ (I1.hok.fresh (Nat.le_refl _)) ⟨rfl, rfl⟩⟩
def tRevF (K : PySem.W.Frag) (te : TE) : TE := fun σ H Q => te σ H fun x H1 => ∃ a xs, x = .ref a ∧ SqT K H1 a xs ∧ ∀ b o, H1 b = none → TD o → Q (.ref b) (upd H1 b (.frz o (.tup xs.reverse)))
theorem pe_revF {e : Expr} {te : TE} {k : Nat} {p1 p2 p3 pos : Pos} (hK : X.K = K1) (he : PE X e te) : PE X (.Subscript e (.Slice none none (some (.UnaryOp .USub (.Constant (.int 1) k p1) p2)) p3) pos) (tRevF K1 te) := by
  subst hK
  have step : PO X (some (.UnaryOp .USub (.Constant (.int 1) k p1) p2)) (tPart (tUn (rU fun i => .int (-i)) (tC (.int 1)))) := po_some (pe_un un_neg pe_int)
  constructor
  intro pins s σ H Q I h
  refine Subscript_ (thn (he.run pins s σ H _ I h) ?_)
  rintro v s1 ⟨x, H1, I1, r1, a, xs, rfl, hx, hq⟩
  cases r1
  refine wpAny_Slice (thn (po_none.run pins s1 σ H1 (fun o G => o = none ∧ G = H1) I1 ⟨rfl, rfl⟩) ?_)
  rintro vl s2 ⟨o1, G1, I2, q1, rfl, rfl⟩
  refine thn (po_none.run pins s2 σ G1 (fun o G => o = none ∧ G = G1) I2 ⟨rfl, rfl⟩) ?_
  rintro vu s3 ⟨o2, G2, I3, q2, rfl, rfl⟩
  refine thn (step.run pins s3 σ G2 (fun o G => o = some (-1) ∧ G = G2) I3 ⟨1, rfl, -1, rfl, rfl, rfl⟩) ?_
  rintro vs s4 ⟨o3, G3, I4, q3, rfl, rfl⟩
  cases q1
  cases q2
  cases q3 with
  | int _ u =>
    have I5 : Inv X pins σ G3 { s4 with heap := s4.heap.push { cls := .type "slice", data := .fields #[.none, .none, .int (-1) u] } } := I4.kept (t' := s4.toks) fun b ob q => Heap.get?_push_of_some _ q
    obtain ⟨its, r, ht, hz⟩ := I5.tuple hx
    show wpAny (model X.prog X.w) X.A (subscriptTail e (.Slice none none (some (.UnaryOp .USub (.Constant (.int 1) k p1) p2)) p3) (.ref a) (.ref s4.heap.objs.size)) (EP X pins σ Q) X.xe { s4 with heap := s4.heap.push { cls := .type "slice", data := .fields #[.none, .none, .int (-1) u] } }
    refine tail_any (ops := [.ref a, .ref s4.heap.objs.size]) ht.typeIs (PyProof.Rows.slot_tuple_getitem.lookup) ?_ (by with_unfolding_all rfl)
    refine item_backN ht (by rw [List.size_toArray, ← r.length]; exact hz) (Heap.IsSliceOf.new _ .none .none (.int (-1) u)) ?_
    exact ⟨.ref _, _, lay_frz I5 (vals_reverse r) (by rw [List.length_reverse]; exact hz), rfl, hq _ _ (I5.hok.fresh (Nat.le_refl _)) ⟨rfl, rfl⟩⟩
end
end My

set_option Elab.async false
set_option linter.all false
set_option maxRecDepth 100000
set_option maxHeartbeats 4000000
namespace L55
open PySem PySem.Spec PyProof.Rows L2 My
def topS (i : Nat) : Stmt := PySem.Challenge.pw_cardsback_k55_wants_by_kind.main.body.getD i (.Pass ⟨0, 0, 0, 0⟩)
abbrev s_is_number : Stmt := topS 2
abbrev N_is_number : List Str := ["thing"]
theorem S_is_number : FnScope N_is_number ["thing"] (defScope s_is_number) := ⟨rfl, rfl, rfl, by decide +kernel, rfl, by decide +kernel, by decide +kernel⟩
abbrev s_is_rising : Stmt := topS 3
abbrev N_is_rising : List Str := ["things", "k"]
theorem S_is_rising : FnScope N_is_rising ["things"] (defScope s_is_rising) := ⟨rfl, rfl, rfl, by decide +kernel, rfl, by decide +kernel, by decide +kernel⟩
abbrev s_is_name : Stmt := topS 4
abbrev N_is_name : List Str := ["thing", "sign"]
theorem S_is_name : FnScope N_is_name ["thing"] (defScope s_is_name) := ⟨rfl, rfl, rfl, by decide +kernel, rfl, by decide +kernel, by decide +kernel⟩
abbrev s_is_days : Stmt := topS 6
abbrev N_is_days : List Str := ["thing", "day"]
theorem S_is_days : FnScope N_is_days ["thing"] (defScope s_is_days) := ⟨rfl, rfl, rfl, by decide +kernel, rfl, by decide +kernel, by decide +kernel⟩
abbrev s_is_want : Stmt := topS 7
abbrev N_is_want : List Str := ["thing"]
theorem S_is_want : FnScope N_is_want ["thing"] (defScope s_is_want) := ⟨rfl, rfl, rfl, by decide +kernel, rfl, by decide +kernel, by decide +kernel⟩
abbrev s_is_wants : Stmt := topS 8
abbrev N_is_wants : List Str := ["thing", "part", "name", "days"]
theorem S_is_wants : FnScope N_is_wants ["thing"] (defScope s_is_wants) := ⟨rfl, rfl, rfl, by decide +kernel, rfl, by decide +kernel, by decide +kernel⟩
abbrev s_all_days : Stmt := topS 9
abbrev N_all_days : List Str := ["wants", "name", "days", "day"]
theorem S_all_days : FnScope N_all_days ["wants"] (defScope s_all_days) := ⟨rfl, rfl, rfl, by decide +kernel, rfl, by decide +kernel, by decide +kernel⟩
abbrev s_days_of_name : Stmt := topS 10
abbrev N_days_of_name : List Str := ["wants", "name", "other", "days"]
theorem S_days_of_name : FnScope N_days_of_name ["wants", "name"] (defScope s_days_of_name) := ⟨rfl, rfl, rfl, by decide +kernel, rfl, by decide +kernel, by decide +kernel⟩
abbrev s_with_want : Stmt := topS 11
abbrev N_with_want : List Str := ["wants", "name", "days"]
theorem S_with_want : FnScope N_with_want ["wants", "name", "days"] (defScope s_with_want) := ⟨rfl, rfl, rfl, by decide +kernel, rfl, by decide +kernel, by decide +kernel⟩
abbrev s_with_day : Stmt := topS 12
abbrev N_with_day : List Str := ["wants", "name", "day"]
theorem S_with_day : FnScope N_with_day ["wants", "name", "day"] (defScope s_with_day) := ⟨rfl, rfl, rfl, by decide +kernel, rfl, by decide +kernel, by decide +kernel⟩
abbrev s_without_want : Stmt := topS 13
abbrev N_without_want : List Str := ["wants", "name", "want"]
theorem S_without_want : FnScope N_without_want ["wants", "name"] (defScope s_without_want) := ⟨rfl, rfl, rfl, by decide +kernel, rfl, by decide +kernel, by decide +kernel⟩
abbrev s_w_feed : Stmt := topS 15
abbrev N_w_feed : List Str := ["_law_script"]
theorem S_w_feed : FnScope N_w_feed ["_law_script"] (defScope s_w_feed) := ⟨rfl, rfl, rfl, by decide +kernel, rfl, by decide +kernel, by decide +kernel⟩
abbrev s_w_draw : Stmt := topS 16
abbrev N_w_draw : List Str := ["_law_feed_here", "_law_many", "_law_found", "_law_at", "_law_cell", "_law_first"]
theorem S_w_draw : FnScope N_w_draw ["_law_feed_here", "_law_many"] (defScope s_w_draw) := ⟨rfl, rfl, rfl, by decide +kernel, rfl, by decide +kernel, by decide +kernel⟩
abbrev s_w_days : Stmt := topS 17
abbrev N_w_days : List Str := ["_law_feed_here", "_law_base", "_law_span", "_law_way", "_law_first", "_law_k"]
theorem S_w_days : FnScope N_w_days ["_law_feed_here", "_law_base", "_law_span", "_law_way"] (defScope s_w_days) := ⟨rfl, rfl, rfl, by decide +kernel, rfl, by decide +kernel, by decide +kernel⟩
abbrev s_w_wants : Stmt := topS 18
abbrev N_w_wants : List Str := ["_law_feed_here", "_law_many", "_law_span", "_law_pool", "_law_base", "_law_way", "_law_found", "_law_name"]
theorem S_w_wants : FnScope N_w_wants ["_law_feed_here", "_law_many", "_law_span"] (defScope s_w_wants) := ⟨rfl, rfl, rfl, by decide +kernel, rfl, by decide +kernel, by decide +kernel⟩
abbrev s_w_bent : Stmt := topS 19
abbrev N_w_bent : List Str := ["_law_feed_here", "_law_thing", "_law_at", "_law_some"]
theorem S_w_bent : FnScope N_w_bent ["_law_feed_here", "_law_thing"] (defScope s_w_bent) := ⟨rfl, rfl, rfl, by decide +kernel, rfl, by decide +kernel, by decide +kernel⟩
abbrev s_w_is_name : Stmt := topS 20
abbrev N_w_is_name : List Str := ["_law_thing", "_law_sign"]
theorem S_w_is_name : FnScope N_w_is_name ["_law_thing"] (defScope s_w_is_name) := ⟨rfl, rfl, rfl, by decide +kernel, rfl, by decide +kernel, by decide +kernel⟩
abbrev s_w_is_days : Stmt := topS 21
abbrev N_w_is_days : List Str := ["_law_thing", "_law_one"]
theorem S_w_is_days : FnScope N_w_is_days ["_law_thing"] (defScope s_w_is_days) := ⟨rfl, rfl, rfl, by decide +kernel, rfl, by decide +kernel, by decide +kernel⟩
abbrev s_w_is_wants : Stmt := topS 22
abbrev N_w_is_wants : List Str := ["_law_thing", "_law_names", "_law_one"]
theorem S_w_is_wants : FnScope N_w_is_wants ["_law_thing"] (defScope s_w_is_wants) := ⟨rfl, rfl, rfl, by decide +kernel, rfl, by decide +kernel, by decide +kernel⟩
abbrev s_w_put : Stmt := topS 23
abbrev N_w_put : List Str := ["_law_wants_here", "_law_name", "_law_days_here", "_law_others", "_law_one"]
theorem S_w_put : FnScope N_w_put ["_law_wants_here", "_law_name", "_law_days_here"] (defScope s_w_put) := ⟨rfl, rfl, rfl, by decide +kernel, rfl, by decide +kernel, by decide +kernel⟩
abbrev s_w_made_right : Stmt := topS 24
abbrev N_w_made_right : List Str := ["_law_feed_here", "_law_wants_here", "_law_few", "_law_name", "_law_own", "_law_days_here", "_law_less_one", "_law_day", "_law_due", "_law_every", "_law_one"]
theorem S_w_made_right : FnScope N_w_made_right ["_law_feed_here", "_law_wants_here"] (defScope s_w_made_right) := ⟨rfl, rfl, rfl, by decide +kernel, rfl, by decide +kernel, by decide +kernel⟩
abbrev s_law : Stmt := topS 25
abbrev N_law : List Str := ["_law_script", "_law_feed_here", "_law_wants_here", "_law_kept", "_law_things", "_law_k", "_law_pool", "_law_seen", "_law_lap", "_law_name", "_law_many", "_law_thing"]
theorem S_law : FnScope N_law ["_law_script"] (defScope s_law) := ⟨rfl, rfl, rfl, by decide +kernel, rfl, by decide +kernel, by decide +kernel⟩
structure Tx (K : PySem.W.Frag) (mg : Str → Option Value) where
  f_is_number : Addr
  d_is_number : FuncData
  F_is_number : Fun K "is_number" "is_number" s_is_number f_is_number d_is_number
  g_is_number : mg "is_number" = some (.ref f_is_number)
  b_is_number : Binds K d_is_number ["thing"] []
  f_is_rising : Addr
  d_is_rising : FuncData
  k_is_rising : Addr
  P_is_rising : Addr
  F_is_rising : GE.FunC K "is_rising" "is_rising" s_is_rising f_is_rising d_is_rising k_is_rising
  g_is_rising : mg "is_rising" = some (.ref f_is_rising)
  b_is_rising : Binds K d_is_rising ["things"] []
  f_is_name : Addr
  d_is_name : FuncData
  k_is_name : Addr
  P_is_name : Addr
  F_is_name : GE.FunC K "is_name" "is_name" s_is_name f_is_name d_is_name k_is_name
  g_is_name : mg "is_name" = some (.ref f_is_name)
  b_is_name : Binds K d_is_name ["thing"] []
  f_is_days : Addr
  d_is_days : FuncData
  k_is_days : Addr
  P_is_days : Addr
  F_is_days : GE.FunC K "is_days" "is_days" s_is_days f_is_days d_is_days k_is_days
  g_is_days : mg "is_days" = some (.ref f_is_days)
  b_is_days : Binds K d_is_days ["thing"] []
  f_is_want : Addr
  d_is_want : FuncData
  F_is_want : Fun K "is_want" "is_want" s_is_want f_is_want d_is_want
  g_is_want : mg "is_want" = some (.ref f_is_want)
  b_is_want : Binds K d_is_want ["thing"] []
  f_is_wants : Addr
  d_is_wants : FuncData
  k_is_wants : Addr
  P_is_wants : Addr
  F_is_wants : GE.FunC K "is_wants" "is_wants" s_is_wants f_is_wants d_is_wants k_is_wants
  g_is_wants : mg "is_wants" = some (.ref f_is_wants)
  b_is_wants : Binds K d_is_wants ["thing"] []
  f_all_days : Addr
  d_all_days : FuncData
  F_all_days : Fun K "all_days" "all_days" s_all_days f_all_days d_all_days
  g_all_days : mg "all_days" = some (.ref f_all_days)
  b_all_days : Binds K d_all_days ["wants"] []
  f_days_of_name : Addr
  d_days_of_name : FuncData
  F_days_of_name : Fun K "days_of_name" "days_of_name" s_days_of_name f_days_of_name d_days_of_name
  g_days_of_name : mg "days_of_name" = some (.ref f_days_of_name)
  b_days_of_name : Binds K d_days_of_name ["wants", "name"] []
  f_with_want : Addr
  d_with_want : FuncData
  F_with_want : Fun K "with_want" "with_want" s_with_want f_with_want d_with_want
  g_with_want : mg "with_want" = some (.ref f_with_want)
  b_with_want : Binds K d_with_want ["wants", "name", "days"] []
  f_with_day : Addr
  d_with_day : FuncData
  F_with_day : Fun K "with_day" "with_day" s_with_day f_with_day d_with_day
  g_with_day : mg "with_day" = some (.ref f_with_day)
  b_with_day : Binds K d_with_day ["wants", "name", "day"] []
  f_without_want : Addr
  d_without_want : FuncData
  k_without_want : Addr
  P_without_want : Addr
  F_without_want : GE.FunC K "without_want" "without_want" s_without_want f_without_want d_without_want k_without_want
  g_without_want : mg "without_want" = some (.ref f_without_want)
  b_without_want : Binds K d_without_want ["wants", "name"] []
  f_w_feed : Addr
  d_w_feed : FuncData
  F_w_feed : Fun K "_law_feed" "_law_feed" s_w_feed f_w_feed d_w_feed
  g_w_feed : mg "_law_feed" = some (.ref f_w_feed)
  b_w_feed : Binds K d_w_feed ["_law_script"] []
  f_w_draw : Addr
  d_w_draw : FuncData
  F_w_draw : Fun K "_law_draw" "_law_draw" s_w_draw f_w_draw d_w_draw
  g_w_draw : mg "_law_draw" = some (.ref f_w_draw)
  b_w_draw : Binds K d_w_draw ["_law_feed_here", "_law_many"] []
  f_w_days : Addr
  d_w_days : FuncData
  F_w_days : Fun K "_law_days" "_law_days" s_w_days f_w_days d_w_days
  g_w_days : mg "_law_days" = some (.ref f_w_days)
  b_w_days : Binds K d_w_days ["_law_feed_here", "_law_base", "_law_span", "_law_way"] []
  f_w_wants : Addr
  d_w_wants : FuncData
  F_w_wants : Fun K "_law_wants" "_law_wants" s_w_wants f_w_wants d_w_wants
  g_w_wants : mg "_law_wants" = some (.ref f_w_wants)
  b_w_wants : Binds K d_w_wants ["_law_feed_here", "_law_many", "_law_span"] []
  f_w_bent : Addr
  d_w_bent : FuncData
  F_w_bent : Fun K "_law_bent" "_law_bent" s_w_bent f_w_bent d_w_bent
  g_w_bent : mg "_law_bent" = some (.ref f_w_bent)
  b_w_bent : Binds K d_w_bent ["_law_feed_here", "_law_thing"] []
  f_w_is_name : Addr
  d_w_is_name : FuncData
  F_w_is_name : Fun K "_law_is_name" "_law_is_name" s_w_is_name f_w_is_name d_w_is_name
  g_w_is_name : mg "_law_is_name" = some (.ref f_w_is_name)
  b_w_is_name : Binds K d_w_is_name ["_law_thing"] []
  f_w_is_days : Addr
  d_w_is_days : FuncData
  F_w_is_days : Fun K "_law_is_days" "_law_is_days" s_w_is_days f_w_is_days d_w_is_days
  g_w_is_days : mg "_law_is_days" = some (.ref f_w_is_days)
  b_w_is_days : Binds K d_w_is_days ["_law_thing"] []
  f_w_is_wants : Addr
  d_w_is_wants : FuncData
  F_w_is_wants : Fun K "_law_is_wants" "_law_is_wants" s_w_is_wants f_w_is_wants d_w_is_wants
  g_w_is_wants : mg "_law_is_wants" = some (.ref f_w_is_wants)
  b_w_is_wants : Binds K d_w_is_wants ["_law_thing"] []
  f_w_put : Addr
  d_w_put : FuncData
  F_w_put : Fun K "_law_put" "_law_put" s_w_put f_w_put d_w_put
  g_w_put : mg "_law_put" = some (.ref f_w_put)
  b_w_put : Binds K d_w_put ["_law_wants_here", "_law_name", "_law_days_here"] []
  f_w_made_right : Addr
  d_w_made_right : FuncData
  F_w_made_right : Fun K "_law_made_right" "_law_made_right" s_w_made_right f_w_made_right d_w_made_right
  g_w_made_right : mg "_law_made_right" = some (.ref f_w_made_right)
  b_w_made_right : Binds K d_w_made_right ["_law_feed_here", "_law_wants_here"] []
  f_law : Addr
  d_law : FuncData
  F_law : Fun K "law" "law" s_law f_law d_law
  g_law : mg "law" = some (.ref f_law)
  b_law : Binds K d_law ["_law_script"] []
  t_LONGEST_NAME : Tok
  c_LONGEST_NAME : mg "LONGEST_NAME" = some (.int 8 t_LONGEST_NAME)
  m_all : mg "all" = none
  m_bool : mg "bool" = none
  m_enumerate : mg "enumerate" = none
  m_int : mg "int" = none
  m_isinstance : mg "isinstance" = none
  m_len : mg "len" = none
  m_list : mg "list" = none
  m_range : mg "range" = none
  m_repr : mg "repr" = none
  m_set : mg "set" = none
  m_sorted : mg "sorted" = none
  m_str : mg "str" = none
  m_tuple : mg "tuple" = none
structure Tb {K : PySem.W.Frag} {mg : Str → Option Value} (T : Tx K mg) (base : Heap) : Prop where
  b_is_rising : GxR.TabB base mg T.k_is_rising T.P_is_rising
  b_is_name : GxR.TabB base mg T.k_is_name T.P_is_name
  b_is_days : GxR.TabB base mg T.k_is_days T.P_is_days
  b_is_wants : GxR.TabB base mg T.k_is_wants T.P_is_wants
  b_without_want : GxR.TabB base mg T.k_without_want T.P_without_want
/-- the tables of the codes that have some -/
def tbs {K : PySem.W.Frag} {mg : Str → Option Value} (T : Tx K mg) : List Addr := [T.P_is_rising, T.P_is_name, T.P_is_days, T.P_is_wants, T.P_without_want]
section
variable {P : Program} {w : World} {K : PySem.W.Frag} {mg : Str → Option Value} {base : Heap}
/-- the feed: a list of the cells' list and three numbers -/
def fd4 (c : Addr) (sp re ca : Int) : List V := [.ref c, .int sp, .int re, .int ca]
def FeedC (H : Hp) (t c : Addr) (n : Nat) : Prop := ∃ (ns : List Int) (sp re ca : Int),
  H t = some (.lst (fd4 c sp re ca)) ∧ H c = some (.lst (ns.map V.int)) ∧ ns.length ≤ 63 ∧ 0 ≤ sp ∧ 0 ≤ re ∧ 0 ≤ ca ∧ ca ≤ n ∧ c ≠ t
theorem FeedC.updO {H : Hp} {t c b : Addr} {n : Nat} {o : HO} (h : FeedC H t c n) (h1 : b ≠ t) (h2 : b ≠ c) : FeedC (upd H b o) t c n := by
  obtain ⟨ns, sp, re, ca, e1, e2, r⟩ := h
  exact ⟨ns, sp, re, ca, by rw [upd_ne h1.symm]; exact e1, by rw [upd_ne h2.symm]; exact e2, r⟩
theorem FeedC.ne {H : Hp} {t c p : Addr} {n : Nat} (h : FeedC H t c n) (hp : H p = none) : p ≠ t ∧ p ≠ c := by
  obtain ⟨ns, sp, re, ca, e1, e2, _⟩ := h
  refine ⟨fun z => ?_, fun z => ?_⟩
  · rw [z, e1] at hp
    cases hp
  · rw [z, e2] at hp
    cases hp
theorem FeedC.same {H H' : Hp} {t c : Addr} {n : Nat} (h : FeedC H t c n) (s : Same H H') : FeedC H' t c n := by
  obtain ⟨ns, sp, re, ca, h1, h2, h3⟩ := h
  exact ⟨ns, sp, re, ca, s _ _ h1, s _ _ h2, h3⟩
theorem FeedC.new {H : Hp} {t c p : Addr} {o : HO} {n : Nat} (h : FeedC H t c n) (hp : H p = none) : FeedC (upd H p o) t c n := h.same (same_upd hp)
theorem FeedC.gk {Ts : List Addr} {H H' : Hp} {t c : Addr} {n : Nat} (h : FeedC H t c n) (k : Gk Ts H H') : FeedC H' t c n := by
  obtain ⟨ns, sp, re, ca, h1, h2, h3⟩ := h
  exact ⟨ns, sp, re, ca, k.1 _ _ h1 (fun ps z => by cases z), k.1 _ _ h2 (fun ps z => by cases z), h3⟩
theorem FeedC.mono {H : Hp} {t c : Addr} {n m : Nat} (h : FeedC H t c n) (le : n ≤ m) : FeedC H t c m := by
  obtain ⟨ns, sp, re, ca, h1, h2, h3, h4, h5, h6, h7, h8⟩ := h
  exact ⟨ns, sp, re, ca, h1, h2, h3, h4, h5, h6, by omega, h8⟩
theorem kp_fresh {H H1 : Hp} {t p : Addr} {o : HO} (hp : H p = none) (k : Kp t H H1) : Kp t H (upd H1 p o) := fun b x n h => by
  rw [upd_ne (ne_of_none h hp)]
  exact k b x n h
theorem kp_none {H H1 : Hp} {t p : Addr} (k : Kp t H H1) (hp : H1 p = none) (n : p ≠ t) : H p = none := by
  cases e : H p with
  | none => rfl
  | some o =>
    have := k p o n e
    rw [hp] at this
    cases this
def spFeed (K : PySem.W.Frag) : Sp := fun vs H Q _ => ∃ (a : Addr) (ns : List Int), vs = [.ref a] ∧ SqL K H a (ns.map V.int) ∧
  ∀ t c H', Same H H' → H t = none → FeedC H' t c 0 → Q (.ref t) H'
theorem ok_feed (T : Tx K mg) : FnOk P w K mg base CX0 1 T.f_w_feed T.d_w_feed ["_law_script"] (spFeed K) := by
  refine T.F_w_feed.ok S_w_feed (fun vs H Q E h => ?_) (fun cdv A outer s H vs Q E hr h => ?_)
  · obtain ⟨a, ns, rfl, _⟩ := h
    rfl
  · obtain ⟨a, ns, rfl, hS, q⟩ := h
    refine ⟨_, (pss_one (ps_ret (pe_lst (pa_cons (pe_slice sl_list (pv 0) po_none (po_some pe_int)) (pa_cons pe_int (pa_cons pe_int (pa_cons pe_int pa_nil))))))), ?_⟩
    refine ⟨_, rfl, _, rfl, a, _, rfl, hS, fun c nc => ?_⟩
    have s1 := same_upd (o := .lst (cutV (ns.map V.int) none (some 63))) nc
    refine ⟨sz (by show 4 ≤ 1000; decide), fun t nt => ?_⟩
    have s2 := same_upd (o := .lst (fd4 c 0 0 0)) nt
    have hct : c ≠ t := ne_of_none (upd_same (H := H) (a := c) (o := .lst (cutV (ns.map V.int) none (some 63)))) nt
    refine q t c _ (s1.trans s2) (upd_free nt).2 ⟨ns.take 63, 0, 0, 0, upd_same, ?_, ?_, by decide, by decide, by decide, by decide, hct⟩
    · rw [upd_ne hct, upd_same]
      congr 2
      unfold cutV
      rw [HT.sIx_none, show HT.sIx (ns.map V.int).length (ns.map V.int).length (some 63) = min 63 (ns.map V.int).length from HT.sIx_nat _ _ 63]
      simp only [List.drop_zero, Nat.sub_zero, List.length_map, ← List.map_take]
      congr 1
      rw [← List.take_take]
      simp
    · rw [List.length_take]
      omega
theorem pow5q (y c : Int) (h0 : 0 ≤ c) (h1 : c ≤ 1000001) : CPow (y % 1000003 + 613 * c + 17) 5 := by
  have := Int.emod_nonneg y (show (1000003 : Int) ≠ 0 by decide)
  have := Int.emod_lt_of_pos y (show (0 : Int) < 1000003 by decide)
  exact ⟨by decide, by decide, by omega⟩
theorem pow5qc (y c : Int) (h0 : 0 ≤ c) (h1 : c ≤ 1000001) : CPow (y % 2147483647 + 4099 * c) 5 := by
  have := Int.emod_nonneg y (show (2147483647 : Int) ≠ 0 by decide)
  have := Int.emod_lt_of_pos y (show (0 : Int) < 2147483647 by decide)
  exact ⟨by decide, by decide, by omega⟩
def spDraw : Sp := fun vs H Q _ => ∃ (t : Addr) (m : Int) (n : Nat) (c : Addr), vs = [.ref t, .int m] ∧ 0 < m ∧ m < 1000000 ∧ FeedC H t c n ∧ n < 1000000 ∧
  ∀ v H', 0 ≤ v → v < m → FeedC H' t c (n + 1) → Kp t H H' → Q (.int v) H'
theorem ok_draw (T : Tx K mg) : FnOk P w K mg base CX0 1 T.f_w_draw T.d_w_draw ["_law_feed_here", "_law_many"] (spDraw) := by
  refine T.F_w_draw.ok S_w_draw (fun vs H Q E h => ?_) (fun cdv A outer s H vs Q E hr h => ?_)
  · obtain ⟨t, m, n, c, rfl, _⟩ := h
    rfl
  · obtain ⟨t, m, n, c, rfl, m0, m1, ⟨ns, sp, re, ca, hT, hC, hn, sp0, re0, ca0, ca1, hct⟩, n1, q⟩ := h
    refine ⟨_, (pss_cons (ps_if (pt_cmpR op_gt (pe_ix ix_list (pv 0) pe_int (fun _ _ => rfl)) pe_int (nomark _)) (pss_cons (ps_set (i := 2) S_w_draw.nd rfl (.inl rfl) (pe_op op_mod (pe_ix ix_list (pv 0) pe_int (fun _ _ => rfl)) (pv 1)))
      (pss_cons (ps_asg (pe_op op_fdiv (pe_ix ix_list (pv 0) pe_int (fun _ _ => rfl)) (pv 1)) (pg_sub (pv 0) pe_int set_list))
      (pss_one (ps_ret (pv 2))))) pss_nil)
      (pss_cons (ps_set (i := 3) S_w_draw.nd rfl (.inl rfl) (pe_ix ix_list (pv 0) pe_int (fun _ _ => rfl)))
      (pss_cons (ps_asg (pe_op op_add (pv 3) pe_int) (pg_sub (pv 0) pe_int set_list))
      (pss_cons (ps_asg (pe_op op_add (pe_ix ix_list (pv 0) pe_int (fun _ _ => rfl)) pe_int) (pg_sub (pv 0) pe_int set_list))
      (pss_cons (ps_set (i := 4) S_w_draw.nd rfl (.inl rfl) (pe_ifExp (pt_cmpR op_gt (pe_callB call_len_seq (by rfl) T.m_len PySem.boot_len (pa_cons (pe_ix ix_list (pv 0) pe_int (fun _ _ => rfl)) pa_nil)) pe_int (nomark _)) (pe_ix ix_list (pe_ix ix_list (pv 0) pe_int (fun _ _ => rfl)) (pe_op op_mod (pv 3) (pe_callB call_len_seq (by rfl) T.m_len PySem.boot_len (pa_cons (pe_ix ix_list (pv 0) pe_int (fun _ _ => rfl)) pa_nil))) (fun _ _ => rfl)) pe_int))
      (pss_cons (ps_if (PW.pt (pw_and (pt_cmpR op_ge (pv 4) (pe_op op_pow pe_int pe_int) (nomark _)) (pw_and1 (pt_cmpR op_lt (pv 3) (pe_callB call_len_seq (by rfl) T.m_len PySem.boot_len (pa_cons (pe_ix ix_list (pv 0) pe_int (fun _ _ => rfl)) pa_nil)) (nomark _))))) (pss_cons (ps_asg (pe_op op_fdiv (pv 4) (pv 1)) (pg_sub (pv 0) pe_int set_list))
      (pss_one (ps_ret (pe_op op_mod (pv 4) (pv 1))))) pss_nil)
      (pss_cons (ps_set (i := 5) S_w_draw.nd rfl (.inl rfl) (pe_op op_mod (pe_op op_pow (pe_op op_add (pe_op op_add (pe_op op_mod (pv 4) pe_int) (pe_op op_mul pe_int (pe_ix ix_list (pv 0) pe_int (fun _ _ => rfl)))) pe_int) pe_int) pe_int))
      (pss_one (ps_ret (pe_op op_mod (pe_op op_fdiv (pe_op op_mod (pe_op op_pow (pe_op op_add (pv 5) (pe_op op_mul pe_int (pe_ix ix_list (pv 0) pe_int (fun _ _ => rfl)))) pe_int) pe_int) pe_int) (pv 1))))))))))), ?_⟩
    have a3 : ∀ sp re ca : Int, atI (fd4 c sp re ca) 3 = some (.int ca) := fun _ _ _ => rfl
    have a2 : ∀ sp re ca : Int, atI (fd4 c sp re ca) 2 = some (.int re) := fun _ _ _ => rfl
    have a1 : ∀ sp re ca : Int, atI (fd4 c sp re ca) 1 = some (.int sp) := fun _ _ _ => rfl
    have a0 : ∀ sp re ca : Int, atI (fd4 c sp re ca) 0 = some (.ref c) := fun _ _ _ => rfl
    have hK0 : Kp t H H := Kp.refl t H
    refine ⟨.ref t, rfl, t, _, 2, _, rfl, rfl, .inl (.inl hT), a2 _ _ _, re, 0, rfl, rfl, _, rfl, ite2 (fun e => ?_) (fun e => ?_)⟩
    · have e : re > 0 := of_decide_eq_true e
      refine ⟨.ref t, rfl, t, _, 2, _, rfl, rfl, .inl (.inl hT), a2 _ _ _, _, rfl, re, m, rfl, rfl, m0, ?_⟩
      refine ⟨.ref t, rfl, t, _, 2, _, rfl, rfl, .inl (.inl hT), a2 _ _ _, _, rfl, re, m, rfl, rfl, ⟨m0, by omega⟩, .ref t, rfl, t, _, 2, 2, rfl, rfl, hT, rfl, ?_⟩
      refine ⟨_, rfl, ?_⟩
      refine q _ _ (Int.emod_nonneg _ (by omega)) (Int.emod_lt_of_pos _ m0) ⟨ns, sp, re / m, ca, upd_same, ?_, hn, sp0, Int.ediv_nonneg re0 (by omega), ca0, by omega, hct⟩ hK0.own
      rw [upd_ne hct]
      exact hC
    · refine ⟨.ref t, rfl, t, _, 1, _, rfl, rfl, .inl (.inl hT), a1 _ _ _, ?_⟩
      refine ⟨_, rfl, sp, 1, rfl, rfl, .ref t, rfl, t, _, 1, 1, rfl, rfl, hT, rfl, ?_⟩
      have hT1 := upd_same (H := H) (a := t) (o := .lst (fd4 c (sp + 1) re ca))
      have hC1 : upd H t (.lst (fd4 c (sp + 1) re ca)) c = some (.lst (ns.map V.int)) := by
        rw [upd_ne hct]
        exact hC
      have hK1 : Kp t H (upd H t (.lst (fd4 c (sp + 1) re ca))) := hK0.own
      show tSeq _ _ _ _ (upd H t (.lst (fd4 c (sp + 1) re ca)))
      generalize upd H t (.lst (fd4 c (sp + 1) re ca)) = H1 at hT1 hC1 hK1 ⊢
      refine ⟨.ref t, rfl, t, _, 3, _, rfl, rfl, .inl (.inl hT1), a3 _ _ _, ca, 1, rfl, rfl, .ref t, rfl, t, _, 3, 3, rfl, rfl, hT1, rfl, ?_⟩
      have hT2 := upd_same (H := H1) (a := t) (o := .lst (fd4 c (sp + 1) re (ca + 1)))
      have hC2 : upd H1 t (.lst (fd4 c (sp + 1) re (ca + 1))) c = some (.lst (ns.map V.int)) := by
        rw [upd_ne hct]
        exact hC1
      have hK2 : Kp t H (upd H1 t (.lst (fd4 c (sp + 1) re (ca + 1)))) := hK1.own
      show tSeq _ _ _ _ (upd H1 t (.lst (fd4 c (sp + 1) re (ca + 1))))
      generalize upd H1 t (.lst (fd4 c (sp + 1) re (ca + 1))) = H2 at hT2 hC2 hK2 ⊢
      refine ⟨.ref t, rfl, t, _, 0, _, rfl, rfl, .inl (.inl hT2), a0 _ _ _, c, _, rfl, .inl (.inl (.inl hC2)), _, _, rfl, rfl, _, rfl, ite2 (fun e2 => ?a) (fun e2 => ?b)⟩
      case' a =>
        have e2 : (0 : Int) < ((ns.map V.int).length : Nat) := of_decide_eq_true e2
        rw [List.length_map] at e2
        have b0 : 0 ≤ sp % (ns.length : Int) := Int.emod_nonneg _ (by omega)
        have b1 : sp % (ns.length : Int) < ns.length := Int.emod_lt_of_pos _ (by omega)
        have bn : (sp % (ns.length : Int)).toNat < ns.length := by omega
        refine ⟨.ref t, rfl, t, _, 0, _, rfl, rfl, .inl (.inl hT2), a0 _ _ _, _, rfl, .ref t, rfl, t, _, 0, _, rfl, rfl, .inl (.inl hT2), a0 _ _ _, c, _, rfl, .inl (.inl (.inl hC2)), _, _, rfl, rfl, (by rw [List.length_map]; omega), c, _, _, .int (ns[(sp % (ns.length : Int)).toNat]), rfl, rfl, .inl (.inl hC2), (by
          rw [List.length_map]
          refine at_of (j := (sp % (ns.length : Int)).toNat) (by omega) ?_
          rw [List.getElem?_map, List.getElem?_eq_getElem bn]
          rfl), ?_⟩
        generalize ns[(sp % (ns.length : Int)).toNat] = cell
      all_goals
        refine ⟨_, rfl, _, _, rfl, rfl, ⟨by decide, by decide, by decide⟩, _, _, rfl, rfl, _, rfl, ite2 (fun e4 => ?_) (fun e4 => iteF ?_)⟩
      any_goals refine ⟨_, rfl, .ref t, rfl, t, _, 0, _, rfl, rfl, .inl (.inl hT2), a0 _ _ _, c, _, rfl, .inl (.inl (.inl hC2)), _, _, rfl, rfl, _, rfl, ite2 (fun e5 => ?_) (fun e5 => ?_)⟩
      any_goals
        refine ⟨_, rfl, _, rfl, _, m, rfl, rfl, ⟨m0, by omega⟩, .ref t, rfl, t, _, 2, 2, rfl, rfl, hT2, rfl, ?_⟩
        refine ⟨_, rfl, _, rfl, _, m, rfl, rfl, m0, ?_⟩
        refine q _ _ (Int.emod_nonneg _ (by omega)) (Int.emod_lt_of_pos _ m0) ⟨ns, sp + 1, _, ca + 1, upd_same, (by rw [upd_ne hct]; exact hC2), hn, by omega, Int.ediv_nonneg ?_ (by omega), by omega, by omega, hct⟩ hK2.own
        have e4 := of_decide_eq_true e4
        exact Int.le_trans (by decide) e4
      all_goals
        refine ⟨_, rfl, _, _, rfl, rfl, (by decide : (0 : Int) < 1000003), _, rfl, t, _, 3, _, rfl, rfl, .inl (.inl hT2), a3 _ _ _, _, _, rfl, rfl, .inl ⟨by decide, by decide⟩, _, _, rfl, rfl, _, _, rfl, rfl, _, _, rfl, rfl, pow5q _ _ (by omega) (by omega), _, _, rfl, rfl, (by decide : (0 : Int) < 2147483647), ?_⟩
        refine ⟨_, rfl, _, rfl, t, _, 3, _, rfl, rfl, .inl (.inl hT2), a3 _ _ _, _, _, rfl, rfl, .inl ⟨by decide, by decide⟩, _, _, rfl, rfl, _, _, rfl, rfl, pow5qc _ _ (by omega) (by omega), _, _, rfl, rfl, (by decide : (0 : Int) < 2147483587), _, _, rfl, rfl, ⟨by decide, by decide⟩, _, rfl, _, m, rfl, rfl, m0, ?_⟩
        exact q _ _ (Int.emod_nonneg _ (by omega)) (Int.emod_lt_of_pos _ m0) ⟨ns, sp + 1, re, ca + 1, hT2, hC2, hn, by omega, re0, by omega, by omega, hct⟩ hK2
end
end L55

set_option Elab.async false
set_option linter.all false
set_option maxRecDepth 100000
set_option maxHeartbeats 4000000
namespace L55
open PySem PySem.Spec PyProof.Rows L2 My
section
variable {P : Program} {w : World} {K : PySem.W.Frag} {mg : Str → Option Value} {base : Heap}
theorem name_as {i : Nat} {v : V} {σ σ' : L2.St} {H : Hp} {Q : L2.St → Hp → Prop} (e : σ.set i (some v) = σ') (h : Q σ' H) : gName i v σ H Q := by
  unfold gName
  rw [e]
  exact h
theorem nd_lenA {L M : List Int} : L.Nodup → (∀ b ∈ L, b ∈ M) → L.length ≤ M.length := by
  induction L generalizing M with
  | nil => exact fun _ _ => Nat.zero_le _
  | cons a L ih =>
    intro nd sub
    obtain ⟨n1, n2⟩ := List.nodup_cons.mp nd
    have ha := sub a (.head _)
    have := ih (M := M.erase a) n2 fun b hb => (List.mem_erase_of_ne (fun z => n1 (by rw [← z]; exact hb))).mpr (sub b (.tail _ hb))
    rw [List.length_erase_of_mem ha] at this
    have pos : 0 < M.length := List.length_pos_of_mem ha
    rw [List.length_cons]
    omega
def spDays : Sp := fun vs H Q _ => ∃ (t c : Addr) (n : Nat) (bs span way : Int), vs = [.ref t, .int bs, .int span, .int way] ∧ FeedC H t c n ∧ n < 900000 ∧ 0 ≤ bs ∧ 1 ≤ span ∧ span ≤ 28 ∧ 0 ≤ way ∧ way < 4 ∧
  ∀ (q : Addr) (ds : List Int) (H' : Hp), FeedC H' t c (n + 30) → Kp t H H' → H q = none → q ≠ t → H' q = some (.tup (ds.map V.int)) → ds.Pairwise (· < ·) → (∀ d ∈ ds, bs ≤ d ∧ d < bs + span) → ds.length ≤ 28 → Q (.ref q) H'
theorem ok_days (T : Tx K mg) : FnOk P w K mg base CX0 2 T.f_w_days T.d_w_days ["_law_feed_here", "_law_base", "_law_span", "_law_way"] (spDays) := by
  have G_w_draw : FnOk P w K mg base CX0 1 T.f_w_draw T.d_w_draw ["_law_feed_here", "_law_many"] (spDraw) := ok_draw T
  refine T.F_w_days.ok S_w_days (fun vs H Q E h => ?_) (fun cdv A outer s H vs Q E hr h => ?_)
  · obtain ⟨t, c, n, bs, span, way, rfl, _⟩ := h
    rfl
  · obtain ⟨t, c, n, bs, span, way, rfl, hT, hn, b0, s0, s1, w0, w1, q⟩ := h
    refine ⟨_, (pss_cons (ps_if (pt_cmpR op_eq (pv 3) pe_int (nomark _)) (pss_cons (ps_set (i := 4) S_w_days.nd rfl (.inl rfl) (pe_call G_w_draw hr (by rfl) T.g_w_draw T.F_w_draw.kp T.b_w_draw .nil pass0 (pa_cons (pv 0) (pa_cons (pv 2) pa_nil))))
      (pss_one (ps_ret (pe_tupRgB (by rfl) (by rfl) T.m_tuple (prg_2 (by rfl) T.m_range (pe_op op_add (pv 1) (pv 4)) (pe_op op_add (pe_op op_add (pe_op op_add (pv 1) (pv 4)) pe_int) (pe_call G_w_draw hr (by rfl) T.g_w_draw T.F_w_draw.kp T.b_w_draw .nil pass0 (pa_cons (pv 0) (pa_cons (pe_op op_sub (pv 2) (pv 4)) pa_nil))))))))) pss_nil)
      (pss_cons (ps_if (pt_cmpR op_eq (pv 3) pe_int (nomark _)) (pss_one (ps_ret (pe_callTy call_tuple_of (by rfl) T.m_tuple (by decide +kernel) (pa_cons (pe_callB (cr_sortI (by rfl) (un64 hr)) (by rfl) T.m_sorted (by decide +kernel) (pa_cons (pe_callTy (cr_setI (by rfl)) (by rfl) T.m_set (by decide +kernel) (pa_cons (pe_lc (own := [("_law_k", 5)]) (g := gName 5) (tt := tYes) (by rfl) S_w_days.nd (pi_range1 (by rfl) T.m_range (pa_cons (pe_op op_add pe_int (pe_call G_w_draw hr (by rfl) T.g_w_draw T.F_w_draw.kp T.b_w_draw .nil pass0 (pa_cons (pv 0) (pa_cons pe_int pa_nil)))) pa_nil)) (blkOk_by (own := [("_law_k", 5)]) (N := N_w_days) (sc := defScope s_w_days) (by decide +kernel)) (fun _ _ _ _ _ => (pg_name (i := 5) S_w_days.nd rfl (.inl rfl))) (fun _ _ _ _ _ => pts_nil) (fun _ _ _ _ _ => (pe_op op_add (pv 1) (pe_call G_w_draw hr (by rfl) T.g_w_draw T.F_w_draw.kp T.b_w_draw .nil pass0 (pa_cons (pv 0) (pa_cons (pv 2) pa_nil)))))) pa_nil)) pa_nil)) pa_nil)))) pss_nil)
      (pss_one (ps_ret (pe_callTy call_tuple_of (by rfl) T.m_tuple (by decide +kernel) (pa_cons (pe_lc (own := [("_law_k", 5)]) (g := gName 5) (by rfl) S_w_days.nd (pi_range1 (by rfl) T.m_range (pa_cons (pv 2) pa_nil)) (blkOk_by (own := [("_law_k", 5)]) (N := N_w_days) (sc := defScope s_w_days) (by decide +kernel)) (fun _ _ _ _ _ => (pg_name (i := 5) S_w_days.nd rfl (.inl rfl))) (fun _ _ _ _ _ => (pts_one (pt_cmpR op_eq (pe_call G_w_draw hr (by rfl) T.g_w_draw T.F_w_draw.kp T.b_w_draw .nil pass0 (pa_cons (pv 0) (pa_cons (pe_ix (r := rIxL K) ix_list (pe_lst (pa_cons pe_int (pa_cons pe_int pa_nil))) (pv 3) (fun _ _ => rfl)) pa_nil))) pe_int (nomark _)))) (fun _ _ _ _ _ => (pe_op op_add (pv 1) (pv 5)))) pa_nil)))))), ?_⟩
    have pwlen : ∀ ds : List Int, ds.Nodup → (∀ d ∈ ds, bs ≤ d ∧ d < bs + span) → ds.length ≤ 28 := fun ds nd rg => by
      have := nd_lenA (M := (List.range 28).map fun i => bs + (i : Nat)) nd fun d hd => by
        have := rg d hd
        exact List.mem_map.mpr ⟨(d - bs).toNat, List.mem_range.mpr (by omega), by omega⟩
      rwa [List.length_map, List.length_range] at this
    refine ⟨_, rfl, rfl, _, rfl, ite2 (fun e => ?_) (fun e => ?_)⟩
    · refine ⟨_, rfl, _, rfl, t, span, n, c, rfl, by omega, by omega, hT, by omega, fun f H1 f0 f1 hT1 hK1 => ?_⟩
      refine name_as (σ' := [some (.ref t), some (.int bs), some (.int span), some (.int way), some (.int f), none]) rfl ?_
      refine ⟨_, rfl, _, rfl, _, _, rfl, rfl, _, rfl, _, rfl, _, _, rfl, rfl, _, _, rfl, rfl, _, rfl, _, rfl, _, rfl, _, _, rfl, rfl, t, span - f, n + 1, c, rfl, by omega, by omega, hT1, by omega, fun g H2 g0 g1 hT2 hK2 => ⟨_, _, rfl, rfl, _, _, rfl, rfl, by omega, fun p np => ?_⟩⟩
      have k2 : Kp t H H2 := hK1.trans hK2
      have pt := (hT2.ne np).1
      refine q p ((List.range ((bs + f + 1 + g) - (bs + f)).toNat).map fun i => bs + f + (i : Nat)) _ ((hT2.new np).mono (by omega)) (k2.new np) (kp_none k2 np pt) pt ?_ ?_ (fun d hd => ?_) ?_
      · rw [upd_same, List.map_map]; rfl
      · exact List.pairwise_map.mpr (List.pairwise_lt_range.imp fun h => by omega)
      · obtain ⟨i, hi, rfl⟩ := List.mem_map.mp hd
        have := List.mem_range.mp hi
        omega
      · rw [List.length_map, List.length_range]; omega
    refine ⟨_, rfl, rfl, _, rfl, ite2 (fun e2 => ?_) (fun e2 => ?_)⟩
    · refine ⟨_, rfl, t, 2, n, c, rfl, by decide, by decide, hT, by omega, fun m H1 m0 m1 hT1 hK1 => ⟨_, _, rfl, rfl, 1 + m, rfl, by omega, by omega, fun D nD => ?_⟩⟩
      obtain ⟨Dt, Dc⟩ := hT1.ne nD
      refine lc_range (lo := 0) (n := (1 + m).toNat) (fun i Hx => ∃ xs : List Int, Hx D = some (.lst (xs.map V.int)) ∧ xs.length = i ∧ (∀ x ∈ xs, bs ≤ x ∧ x < bs + span) ∧ FeedC Hx t c (n + 1 + i) ∧ Kp t H1 Hx) ⟨[], upd_same, rfl, (fun x h => by cases h), hT1.new nD, .of_same (same_upd nD)⟩ ?_ ?_
      · rintro i Hx hi ⟨xs, hD, lx, rg, hTx, hKx⟩
        refine ⟨rfl, tYesT ?_⟩
        refine ⟨_, rfl, _, rfl, _, rfl, t, span, n + 1 + i, c, rfl, by omega, by omega, hTx, by omega, fun v H2 v0 v1 hT2 hK2 => ⟨_, _, rfl, rfl, ?_⟩⟩
        have hD2 := hK2 _ _ Dt hD
        refine ⟨_, hD2, small1000 (by rw [List.length_map]; omega), xs ++ [bs + v], by rw [upd_same, List.map_append]; rfl, by rw [List.length_append, lx]; rfl, fun x hx => ?_, hT2.updO Dt Dc, kp_fresh nD (hKx.trans hK2)⟩
        rcases List.mem_append.mp hx with h | h
        · exact rg x h
        · rw [List.mem_singleton.mp h]; omega
      rintro H2 ⟨xs, hD, lx, rg, hT2, hK2⟩
      refine ⟨D, xs, rfl, .inl (.inl hD), by omega, fun S L nS mem nd => ?_⟩
      have hT3 := hT2.new (o := SetIO w S L) nS
      have k3 := hK2.new (o := SetIO w S L) nS
      have lL := nd_lenA nd fun b hb => (mem b).mp hb
      refine ⟨S, L, rfl, upd_same, by omega, fun ys p pm nd2 pw np => ?_⟩
      have hT4 := hT3.new (o := .lst (ys.map V.int)) np
      have k4 := k3.new (o := .lst (ys.map V.int)) np
      refine ⟨p, _, rfl, .inl ⟨.inl (.inl upd_same), fun l nl => ?_⟩⟩
      have lt := (hT4.ne nl).1
      have rgy : ∀ d ∈ ys, bs ≤ d ∧ d < bs + span := fun d hd => rg d ((mem d).mp (pm.mem_iff.mp hd))
      have kA := hK1.trans (k4.new (o := .tup (ys.map V.int)) nl)
      exact q l ys _ ((hT4.new nl).mono (by omega)) kA (kp_none (hK1.trans k4) nl lt) lt upd_same (L2.lt_of_le_nodup ys pw nd2) rgy (pwlen ys nd2 rgy)
    · have e : way ≠ 2 := fun z => e (by rw [z]; rfl)
      have e2 : way ≠ 3 := fun z => e2 (by rw [z]; rfl)
      obtain ⟨mm, m0, m1, hmm⟩ : ∃ mm : Int, 0 < mm ∧ mm < 5 ∧ atI [V.int 2, V.int 4] way = some (.int mm) := by
        have : way = 0 ∨ way = 1 := by omega
        rcases this with rfl | rfl
        · exact ⟨2, by decide, by decide, rfl⟩
        · exact ⟨4, by decide, by decide, rfl⟩
      refine ⟨_, rfl, span, rfl, by omega, by omega, fun D nD => ?_⟩
      obtain ⟨Dt, Dc⟩ := hT.ne nD
      refine lc_range (lo := 0) (n := span.toNat) (fun i Hx => ∃ xs : List Int, Hx D = some (.lst (xs.map V.int)) ∧ xs.length ≤ i ∧ xs.Pairwise (· < ·) ∧ (∀ x ∈ xs, bs ≤ x ∧ x < bs + i) ∧ FeedC Hx t c (n + i) ∧ Kp t H Hx) ⟨[], upd_same, Nat.le_refl _, .nil, (fun x h => by cases h), hT.new nD, .of_same (same_upd nD)⟩ ?_ ?_
      · rintro i Hx hi ⟨xs, hD, lx, pw, rg, hTx, hKx⟩
        refine ⟨rfl, _, rfl, sz (by show 2 ≤ 1000; decide), fun p np => ?_⟩
        have pD : p ≠ D := fun z => by rw [z, hD] at np; cases np
        refine ⟨_, rfl, p, _, way, .int mm, rfl, rfl, .inl (.inl upd_same), hmm, t, mm, n + i, c, rfl, m0, by omega, hTx.new np, by omega, fun v H2 v0 v1 hT2 hK2 => ?_⟩
        have hD2 := hK2 _ _ Dt (same_upd np _ _ hD)
        have k2 : Kp t H H2 := (hKx.new np).trans hK2
        refine ⟨rfl, _, rfl, ite2 (fun e3 => ?_) (fun e3 => ?_)⟩
        · refine ⟨_, rfl, _, rfl, _, _, rfl, rfl, _, hD2, small1000 (by rw [List.length_map]; omega), xs ++ [bs + (0 + (i : Int))], by rw [upd_same, List.map_append]; rfl, by rw [List.length_append]; exact Nat.succ_le_succ lx, ?_, fun x hx => ?_, (hT2.updO Dt Dc).mono (by omega), kp_fresh nD k2⟩
          · refine List.pairwise_append.mpr ⟨pw, List.pairwise_cons.mpr ⟨fun x h => by (cases h), .nil⟩, fun x hx y hy => ?_⟩
            rw [List.mem_singleton.mp hy]
            have := rg x hx
            omega
          · rcases List.mem_append.mp hx with h | h
            · have := rg x h; push_cast; omega
            · rw [List.mem_singleton.mp h]; push_cast; omega
        · exact ⟨xs, hD2, by omega, pw, fun x hx => by have := rg x hx; push_cast; omega, hT2.mono (by omega), k2⟩
      rintro H2 ⟨xs, hD, lx, pw, rg, hT2, hK2⟩
      refine ⟨D, _, rfl, .inl ⟨.inl (.inl hD), fun l nl => ?_⟩⟩
      have lt := (hT2.ne nl).1
      exact q l xs _ ((hT2.new nl).mono (by omega)) (hK2.new nl) (kp_none hK2 nl lt) lt upd_same pw (fun d hd => by have := rg d hd; omega) (by omega)
end
end L55

set_option Elab.async false
set_option linter.all false
set_option maxRecDepth 100000
set_option maxHeartbeats 4000000
namespace L55
open PySem PySem.Spec PyProof.Rows L2 My
section
variable {P : Program} {w : World} {K : PySem.W.Frag} {mg : Str → Option Value} {base : Heap}
/-- wants as they lie in the heap -/
inductive WsAt (H : Hp) : List Addr → List (Str × List Int) → Prop
  | nil : WsAt H [] []
  | cons {p q : Addr} {n : Str} {ds : List Int} {ps : List Addr} {W : List (Str × List Int)} : H p = some (.tup [.str n, .ref q]) → H q = some (.tup (ds.map V.int)) → WsAt H ps W → WsAt H (p :: ps) ((n, ds) :: W)
theorem WsAt.at {H H' : Hp} (t : Tups H H') : ∀ {ps : List Addr} {W : List (Str × List Int)}, WsAt H ps W → WsAt H' ps W
  | _, _, .nil => .nil
  | _, _, .cons a b c => .cons (t _ _ a) (t _ _ b) (c.at t)
theorem WsAt.len {H : Hp} : ∀ {ps : List Addr} {W : List (Str × List Int)}, WsAt H ps W → ps.length = W.length
  | _, _, .nil => rfl
  | _, _, .cons _ _ c => congrArg Nat.succ c.len
def poolQ : List Str := ["a", "ab", "b", "bea", "c", "cyd", "dora", "e", "hall", "m", "zzz", "zzzzzzzz"]
theorem pool_pw : poolQ.Pairwise fun x y => x.cps.toList < y.cps.toList := by unfold poolQ; decide +kernel
theorem pool_nm : ∀ z ∈ poolQ, nameB (.str z) = true ∧ Plain z := by
  have : ∀ z ∈ poolQ, nameB (.str z) = true ∧ z.length ≤ 100 ∧ ∀ c ∈ z.cps.toList, c < 128 := by unfold poolQ; decide +kernel
  exact this
/-- drawn wants -/
structure WOk (W : List (Str × List Int)) (many : Nat) (span : Int) : Prop where
  pw : (W.map (·.1)).Pairwise fun x y => x.cps.toList < y.cps.toList
  nm : ∀ w ∈ W, nameB (.str w.1) = true ∧ Plain w.1
  ds : ∀ w ∈ W, w.2.Pairwise (· < ·)
  rg : ∃ b : Int, 0 ≤ b ∧ b ≤ 10 ^ 30 ∧ ∀ w ∈ W, ∀ d ∈ w.2, b ≤ d ∧ d < b + span
  ln : W.length ≤ many
  l28 : ∀ w ∈ W, w.2.length ≤ 28
theorem kp_tupsQ {H H' : Hp} {t c : Addr} {n : Nat} (hT : FeedC H t c n) (k : Kp t H H') : Tups H H' := fun b xs e => k b _ (fun z => by
  obtain ⟨ns, sp, re, ca, e1, _⟩ := hT
  rw [z, e1] at e
  cases e) e
theorem cut_tkQ {xs : List V} {k : Nat} : cutV xs none (some (k : Int)) = xs.take k := by
  unfold cutV
  rw [HT.sIx_none, HT.sIx_nat, List.drop_zero, Nat.sub_zero, ← List.take_take, List.take_length]
theorem erase_mapQ {α β : Type} {f : α → β} : ∀ (l : List α) (j : Nat), (l.map f).eraseIdx j = (l.eraseIdx j).map f
  | [], _ => rfl
  | _ :: _, 0 => rfl
  | x :: l, j + 1 => by
    rw [List.map_cons, List.eraseIdx_cons_succ, List.eraseIdx_cons_succ, List.map_cons, erase_mapQ]
theorem WsAt.snoc {H : Hp} {p q : Addr} {n : Str} {ds : List Int} (hp : H p = some (.tup [.str n, .ref q])) (hq : H q = some (.tup (ds.map V.int))) : ∀ {ps : List Addr} {W : List (Str × List Int)}, WsAt H ps W → WsAt H (ps ++ [p]) (W ++ [(n, ds)])
  | _, _, .nil => .cons hp hq .nil
  | _, _, .cons a b c => .cons a b (c.snoc hp hq)
def spWants : Sp := fun vs H Q _ => ∃ (t c : Addr) (n : Nat) (many : Nat) (span : Int), vs = [.ref t, .int many, .int span] ∧ FeedC H t c n ∧ n < 800000 ∧ many ≤ 12 ∧ 1 ≤ span ∧ span ≤ 28 ∧
  ∀ (a : Addr) (o : Obj) (ps : List Addr) (W : List (Str × List Int)) (H' : Hp), FeedC H' t c (n + 500) → Kp t H H' → H a = none → a ≠ t → H' a = some (.frz o (.tup (ps.map V.ref))) → TD o → WsAt H' ps W → WOk W many span → Q (.ref a) H'
theorem ok_wants (T : Tx K mg) : FnOk P w K mg base CX0 3 T.f_w_wants T.d_w_wants ["_law_feed_here", "_law_many", "_law_span"] (spWants) := by
  have G_w_draw : FnOk P w K mg base CX0 1 T.f_w_draw T.d_w_draw ["_law_feed_here", "_law_many"] (spDraw) := ok_draw T
  have G_w_days : FnOk P w K mg base CX0 2 T.f_w_days T.d_w_days ["_law_feed_here", "_law_base", "_law_span", "_law_way"] (spDays) := ok_days T
  refine T.F_w_wants.ok S_w_wants (fun vs H Q E h => ?_) (fun cdv A outer s H vs Q E hr h => ?_)
  · obtain ⟨t, c, n, many, span, rfl, _⟩ := h
    rfl
  · obtain ⟨t, c, n, many, span, rfl, hT, hn, m1, s0, s1, q⟩ := h
    refine ⟨_, (pss_cons (ps_set (i := 3) S_w_wants.nd rfl (.inl rfl) (pe_lst (pa_cons pe_str (pa_cons pe_str (pa_cons pe_str (pa_cons pe_str (pa_cons pe_str (pa_cons pe_str (pa_cons pe_str (pa_cons pe_str (pa_cons pe_str (pa_cons pe_str (pa_cons pe_str (pa_cons pe_str pa_nil))))))))))))))
      (pss_cons (ps_set (i := 4) S_w_wants.nd rfl (.inl rfl) (pe_ix ix_list (pe_lst (pa_cons pe_int (pa_cons pe_int (pa_cons pe_int (pa_cons (pe_op op_pow pe_int pe_int) pa_nil))))) (pe_call G_w_draw (hr.mono (by decide)) (by rfl) T.g_w_draw T.F_w_draw.kp T.b_w_draw .nil pass0 (pa_cons (pv 0) (pa_cons pe_int pa_nil))) (fun _ _ => rfl)))
      (pss_cons (ps_set (i := 5) S_w_wants.nd rfl (.inl rfl) (pe_call G_w_draw (hr.mono (by decide)) (by rfl) T.g_w_draw T.F_w_draw.kp T.b_w_draw .nil pass0 (pa_cons (pv 0) (pa_cons pe_int pa_nil))))
      (pss_cons (ps_while PassesOwn.never (pt_cmpR op_gt (pe_callB call_len_seq (by rfl) T.m_len PySem.boot_len (pa_cons (pv 3) pa_nil)) (pv 1) (nomark _)) (pss_one (ps_expr (pe_bm PySem.F.plainAttrs_list PySem.F.slot_list_pop PySem.F.type_list_pop mt_popAt (pv 3) (pa_cons (pe_call G_w_draw (hr.mono (by decide)) (by rfl) T.g_w_draw T.F_w_draw.kp T.b_w_draw .nil pass0 (pa_cons (pv 0) (pa_cons (pe_callB call_len_seq (by rfl) T.m_len PySem.boot_len (pa_cons (pv 3) pa_nil)) pa_nil))) pa_nil)))))
      (pss_cons (ps_set (i := 6) S_w_wants.nd rfl (.inl rfl) (pe_lst pa_nil))
      (pss_cons (ps_for PassesOwn.never rfl (pi_list (pe_slice sl_list (pv 3) po_none (po_some (pe_call G_w_draw (hr.mono (by decide)) (by rfl) T.g_w_draw T.F_w_draw.kp T.b_w_draw .nil pass0 (pa_cons (pv 0) (pa_cons (pe_op op_add (pv 1) pe_int) pa_nil)))))) (pg_name (i := 7) S_w_wants.nd rfl (.inl rfl))
      (pss_one (ps_expr (pe_bm PySem.F.plainAttrs_list PySem.F.slot_list_append PySem.F.type_list_append mt_append (pv 6) (pa_cons (pe_tup (pa_cons (pv 7) (pa_cons (pe_call G_w_days hr (by rfl) T.g_w_days T.F_w_days.kp T.b_w_days .nil pass0 (pa_cons (pv 0) (pa_cons (pv 4) (pa_cons (pv 2) (pa_cons (pe_ifExp (pt_cmpR op_lt (pv 5) pe_int (nomark _)) (pv 5) (pe_call G_w_draw (hr.mono (by decide)) (by rfl) T.g_w_draw T.F_w_draw.kp T.b_w_draw .nil pass0 (pa_cons (pv 0) (pa_cons pe_int pa_nil)))) pa_nil))))) pa_nil))) pa_nil)))))
      (pss_one (ps_ret (pe_callTy call_tupleD (by rfl) T.m_tuple (by decide +kernel) (pa_cons (pv 6) pa_nil)))))))))), ?_⟩
    refine ⟨sz (by show 12 ≤ 1000; decide), fun p np => ?_⟩
    have epl : ([.str "a", .str "ab", .str "b", .str "bea", .str "c", .str "cyd", .str "dora", .str "e", .str "hall", .str "m", .str "zzz", .str "zzzzzzzz"] : List V) = poolQ.map V.str := rfl
    obtain ⟨pt, pc⟩ := hT.ne np
    have hT1 := hT.new (o := .lst (poolQ.map V.str)) np
    have hK1 : Kp t H (upd H p (.lst (poolQ.map V.str))) := .of_same (same_upd np)
    have hp1 := upd_same (H := H) (a := p) (o := .lst (poolQ.map V.str))
    change gName 3 (V.ref p) _ (upd H p (.lst (poolQ.map V.str))) _
    generalize upd H p (.lst (poolQ.map V.str)) = H1 at hT1 hK1 hp1 ⊢
    refine name_as (σ' := [some (.ref t), some (.int many), some (.int span), some (.ref p), none, none, none, none]) rfl ?_
    refine ⟨10, 30, rfl, rfl, ⟨by decide, by decide, by decide⟩, sz (by show 4 ≤ 1000; decide), fun q0 nq0 => ?_⟩
    obtain ⟨B4, eB⟩ : ∃ B4 : Int, B4 = 10 ^ (30 : Int).toNat := ⟨_, rfl⟩
    have hB4 : 0 ≤ B4 ∧ B4 ≤ 10 ^ 30 := by rw [eB]; decide
    have hT2 := hT1.new (o := .lst [.int 0, .int 3, .int 9990, .int B4]) nq0
    have hq2 := upd_same (H := H1) (a := q0) (o := .lst [.int 0, .int 3, .int 9990, .int B4])
    have hK2 := hK1.new (o := .lst [.int 0, .int 3, .int 9990, .int B4]) nq0
    have hp2 := same_upd (o := .lst [.int 0, .int 3, .int 9990, .int B4]) nq0 _ _ hp1
    have q0t := (hT1.ne nq0).1
    rw [eB] at hT2 hq2 hK2 hp2
    refine ⟨_, rfl, t, 4, n, c, rfl, by decide, by decide, hT2, by omega, fun v0 H3 u0 u1 hT3 hK3 => ?_⟩
    have hq3 := hK3 _ _ q0t hq2
    have hp3 := hK3 _ _ pt hp2
    have k3 := hK2.trans hK3
    rw [← eB] at hq3
    obtain ⟨bs, b0, b1, hbs⟩ : ∃ bs : Int, 0 ≤ bs ∧ bs ≤ 10 ^ 30 ∧ atI [V.int 0, V.int 3, V.int 9990, V.int B4] v0 = some (.int bs) := by
      have : v0 = 0 ∨ v0 = 1 ∨ v0 = 2 ∨ v0 = 3 := by omega
      rcases this with rfl | rfl | rfl | rfl
      · exact ⟨0, by decide, by decide, rfl⟩
      · exact ⟨3, by decide, by decide, rfl⟩
      · exact ⟨9990, by decide, by decide, rfl⟩
      · exact ⟨B4, hB4.1, hB4.2, rfl⟩
    refine ⟨q0, _, v0, .int bs, rfl, rfl, .inl (.inl hq3), hbs, ?_⟩
    refine name_as (σ' := [some (.ref t), some (.int many), some (.int span), some (.ref p), some (.int bs), none, none, none]) rfl ?_
    refine ⟨_, rfl, t, 5, n + 1, c, rfl, by decide, by decide, hT3, by omega, fun wy H4 w0 w1 hT4 hK4 => ?_⟩
    have hp4 := hK4 _ _ pt hp3
    have k4 := k3.trans hK4
    refine name_as (σ' := [some (.ref t), some (.int many), some (.int span), some (.ref p), some (.int bs), some (.int wy), none, none]) rfl ?_
    refine ⟨fun m σ Hx => ∃ ws : List Str, σ = [some (.ref t), some (.int many), some (.int span), some (.ref p), some (.int bs), some (.int wy), none, none] ∧ Hx p = some (.lst (ws.map V.str)) ∧ ws.Sublist poolQ ∧ FeedC Hx t c (n + 14 - ws.length) ∧ Kp t H Hx ∧ m = ws.length, ⟨_, poolQ, rfl, hp4, .refl _, hT4.mono (by show n + 1 + 1 ≤ n + 14 - 12; omega), k4, rfl⟩, ?_⟩
    rintro m σ Hx ⟨ws, rfl, hp, sub, hTx, hKx, rfl⟩
    have lw : ws.length ≤ 12 := sub.length_le
    refine ⟨_, rfl, p, _, rfl, .inl (.inl (.inl hp)), _, rfl, _, _, rfl, rfl, _, rfl, ite2 (fun e => ?_) (fun e => ?_)⟩
    · have e : many < ws.length := by
        have := of_decide_eq_true e
        rw [List.length_map] at this
        omega
      refine ⟨fun σ' H' => ∃ ws' : List Str, σ' = [some (.ref t), some (.int many), some (.int span), some (.ref p), some (.int bs), some (.int wy), none, none] ∧ H' p = some (.lst (ws'.map V.str)) ∧ ws'.Sublist poolQ ∧ FeedC H' t c (n + 14 - ws'.length) ∧ Kp t H H' ∧ ws'.length < ws.length, fun σ' H' ⟨ws', h1, h2, h3, h4, h5, h6⟩ => ⟨_, h6, ws', h1, h2, h3, h4, h5, rfl⟩, ?_⟩
      refine ⟨_, rfl, .inl ⟨rfl, _, .inl (.inl hp)⟩, _, rfl, _, rfl, p, _, rfl, .inl (.inl (.inl hp)), t, _, n + 14 - ws.length, c, rfl, by rw [List.length_map]; omega, by rw [List.length_map]; omega, hTx, by omega, fun v H5 v0' v1 hT5 hK5 => ?_⟩
      rw [List.length_map] at v1
      have g1 := hK5 _ _ pt hp
      have vw : v.toNat < ws.length := by omega
      have gw : (ws.map V.str)[v.toNat]? = some (.str ws[v.toNat]) := by rw [List.getElem?_map, List.getElem?_eq_getElem vw]; rfl
      refine ⟨p, _, v, v.toNat, .str ws[v.toNat], rfl, rfl, g1, by omega, by omega, ?_, gw, ?_⟩
      · rw [List.length_map]
        exact PyProof.Rows.seqIndex_at v0' (by omega)
      have le := List.length_eraseIdx_of_lt vw
      refine ⟨ws.eraseIdx v.toNat, rfl, by rw [upd_same, erase_mapQ], (List.eraseIdx_sublist ..).trans sub, (hT5.updO pt pc).mono (by rw [le]; omega), ?_, by rw [le]; omega⟩
      exact kp_fresh np (hKx.trans hK5)
    have e : ws.length ≤ many := by
      have : ¬ (many : Int) < (((ws.map V.str).length : Nat) : Int) := fun z => e (decide_eq_true z)
      rw [List.length_map] at this
      omega
    have hTx : FeedC Hx t c (n + 14) := hTx.mono (by omega)
    refine ⟨sz (by show 0 ≤ 1000; decide), fun F nF => ?_⟩
    obtain ⟨Ft, Fc⟩ := hTx.ne nF
    have Fp : F ≠ p := fun z => by rw [z, hp] at nF; cases nF
    have fF := kp_none hKx nF Ft
    refine name_as (σ' := [some (.ref t), some (.int many), some (.int span), some (.ref p), some (.int bs), some (.int wy), some (.ref F), none]) rfl ?_
    have hTf := hTx.new (o := .lst []) nF
    have hpf := same_upd (o := .lst []) nF _ _ hp
    have hF := upd_same (H := Hx) (a := F) (o := .lst [])
    have kF : Kp t H (upd Hx F (.lst [])) := hKx.new nF
    generalize upd Hx F (.lst []) = Hf at hTf hpf hF kF ⊢
    refine ⟨_, rfl, np_in ⟨_, rfl, _, rfl, _, _, rfl, rfl, t, (many : Int) + 1, n + 14, c, rfl, by omega, by omega, hTf, by omega, fun v H6 v0' v1 hT6 hK6 => ?_⟩⟩
    obtain ⟨vn, rfl⟩ : ∃ vn : Nat, v = (vn : Int) := ⟨v.toNat, by omega⟩
    have hp6 := hK6 _ _ pt hpf
    have hF6 := hK6 _ _ Ft hF
    have k6 := kF.trans hK6
    refine ⟨_, rfl, p, _, rfl, .inl (.inl hp6), fun C nC => ⟨C, rfl, ⟨_, .inl (.inl upd_same)⟩, ?_⟩⟩
    rw [cut_tkQ, ← List.map_take]
    obtain ⟨Ct, Cc⟩ := hT6.ne nC
    have CF : C ≠ F := fun z => by rw [z, hF6] at nC; cases nC
    have hT7 := hT6.new (o := .lst ((ws.take vn).map V.str)) nC
    have k7 := k6.new (o := .lst ((ws.take vn).map V.str)) nC
    have hC7 := upd_same (H := H6) (a := C) (o := .lst ((ws.take vn).map V.str))
    have hF7 := same_upd (o := .lst ((ws.take vn).map V.str)) nC _ _ hF6
    generalize upd H6 C (.lst ((ws.take vn).map V.str)) = H7 at hT7 k7 hC7 hF7 ⊢
    have subv : (ws.take vn).Sublist poolQ := (List.take_sublist _ _).trans sub
    have lv : (ws.take vn).length ≤ many := by rw [List.length_take]; omega
    generalize ws.take vn = zs at hC7 subv lv ⊢
    refine for_list (xs := zs.map V.str) (fun i σ Hy => ∃ (y7 : Option V) (ps : List Addr) (W : List (Str × List Int)), σ = [some (.ref t), some (.int many), some (.int span), some (.ref p), some (.int bs), some (.int wy), some (.ref F), y7] ∧ FeedC Hy t c (n + 15 + 31 * i) ∧ Kp t H Hy ∧ Hy C = some (.lst (zs.map V.str)) ∧ Hy F = some (.lst (ps.map V.ref)) ∧ WsAt Hy ps W ∧ W.map (·.1) = zs.take i ∧ (∀ w ∈ W, w.2.Pairwise (· < ·) ∧ w.2.length ≤ 28 ∧ ∀ d ∈ w.2, bs ≤ d ∧ d < bs + span)) ⟨none, [], [], rfl, hT7.mono (by omega), k7, hC7, hF7, .nil, rfl, fun w h => by cases h⟩ (fun i σ Hy _ ⟨_, _, _, _, _, _, h, _⟩ => .inl (.inl h)) ?_ ?_
    · rintro i x σ Hy hi ⟨y7, ps, W, rfl, hTy, hKy, hCy, hFy, wy', nmW, dsW⟩
      rw [List.getElem?_map] at hi
      obtain ⟨z, hz, rfl⟩ := Option.map_eq_some_iff.mp hi
      have li : i < zs.length := (List.getElem?_eq_some_iff.mp hz).1
      have lz : zs.length ≤ 12 := subv.length_le
      have lW : ps.length = i := by
        rw [wy'.len]
        have := congrArg List.length nmW
        rw [List.length_map, List.length_take] at this
        omega
      refine name_as (σ' := [some (.ref t), some (.int many), some (.int span), some (.ref p), some (.int bs), some (.int wy), some (.ref F), some (.str z)]) rfl ?_
      refine ⟨_, rfl, .inl ⟨rfl, _, .inl (.inl hFy)⟩, _, rfl, _, rfl, _, rfl, _, rfl, ?_⟩
      have fin : ∀ (Ha : Hp) (qd : Addr) (ds : List Int) (Hb : Hp), Kp t Hy Ha → FeedC Hb t c (n + 15 + 31 * i + 1 + 30) → Kp t Ha Hb → Hb qd = some (.tup (ds.map V.int)) → ds.Pairwise (· < ·) → (∀ d ∈ ds, bs ≤ d ∧ d < bs + span) → ds.length ≤ 28 → ∀ p2, Hb p2 = none →
          (upd Hb p2 (.tup [.str z, .ref qd])) F = some (.lst (ps.map V.ref)) ∧ (ps.map V.ref).length < sizeLine ∧ ∃ (y7 : Option V) (ps' : List Addr) (W' : List (Str × List Int)), ([some (.ref t), some (.int many), some (.int span), some (.ref p), some (.int bs), some (.int wy), some (.ref F), some (.str z)] : L2.St) = [some (.ref t), some (.int many), some (.int span), some (.ref p), some (.int bs), some (.int wy), some (.ref F), y7] ∧
          FeedC (upd (upd Hb p2 (.tup [.str z, .ref qd])) F (.lst (ps.map V.ref ++ [.ref p2]))) t c (n + 15 + 31 * (i + 1)) ∧ Kp t H (upd (upd Hb p2 (.tup [.str z, .ref qd])) F (.lst (ps.map V.ref ++ [.ref p2]))) ∧ (upd (upd Hb p2 (.tup [.str z, .ref qd])) F (.lst (ps.map V.ref ++ [.ref p2]))) C = some (.lst (zs.map V.str)) ∧ (upd (upd Hb p2 (.tup [.str z, .ref qd])) F (.lst (ps.map V.ref ++ [.ref p2]))) F = some (.lst (ps'.map V.ref)) ∧
          WsAt (upd (upd Hb p2 (.tup [.str z, .ref qd])) F (.lst (ps.map V.ref ++ [.ref p2]))) ps' W' ∧ W'.map (·.1) = zs.take (i + 1) ∧ (∀ w ∈ W', w.2.Pairwise (· < ·) ∧ w.2.length ≤ 28 ∧ ∀ d ∈ w.2, bs ≤ d ∧ d < bs + span) := fun Ha qd ds Hb hKa hTb hKb hqd pw rg l28 p2 np2 => by
        have kb := hKa.trans hKb
        have sm := same_upd (o := .tup [.str z, .ref qd]) np2
        have hFb := sm _ _ (kb _ _ Ft hFy)
        have hCb := sm _ _ (kb _ _ Ct hCy)
        have tb := (kp_tupsQ hTy kb).trans (.same sm)
        have tp : Tups (upd Hb p2 (.tup [.str z, .ref qd])) (upd (upd Hb p2 (.tup [.str z, .ref qd])) F (.lst (ps.map V.ref ++ [.ref p2]))) := fun b xs e => by rw [upd_ne (fun u => by rw [u, hFb] at e; cases e)]; exact e
        have hT2 := (hTb.new (o := .tup [.str z, .ref qd]) np2).updO (o := .lst (ps.map V.ref ++ [.ref p2])) Ft Fc
        refine ⟨hFb, small1000 (by rw [List.length_map]; omega), _, ps ++ [p2], W ++ [(z, ds)], rfl, hT2.mono (by omega), ?_, ?_, by rw [upd_same, List.map_append]; rfl, ?_, ?_, fun w hw => ?_⟩
        · exact kp_fresh fF ((hKy.trans kb).new np2)
        · rw [upd_ne CF]; exact hCb
        · exact (wy'.at (tb.trans tp)).snoc (tp _ _ upd_same) (tp _ _ (sm _ _ hqd))
        · rw [List.map_append, nmW, List.take_add_one, hz]; rfl
        · rcases List.mem_append.mp hw with h | h
          · exact dsW w h
          · rw [List.mem_singleton.mp h]; exact ⟨pw, l28, rg⟩
      refine ⟨_, rfl, _, _, rfl, rfl, _, rfl, ite2 (fun e => ?_) (fun e => ?_)⟩
      · have e : wy < 4 := of_decide_eq_true e
        refine ⟨_, rfl, t, c, n + 15 + 31 * i + 1, bs, span, wy, rfl, hTy.mono (by omega), by omega, b0, s0, s1, w0, e, fun qd ds Hb hTb hKb nqd qdt hqd pw rg l28 => ⟨sz (by show 2 ≤ 1000; decide), fun p2 np2 => ?_⟩⟩
        exact ⟨F, _, .ref p2, rfl, rfl, fin Hy qd ds Hb (.refl _ _) hTb hKb hqd pw rg l28 p2 np2⟩
      · refine ⟨_, rfl, t, 4, n + 15 + 31 * i, c, rfl, by decide, by decide, hTy, by omega, fun k0 Ha k00 k01 hTa hKa => ?_⟩
        refine ⟨t, c, n + 15 + 31 * i + 1, bs, span, k0, rfl, hTa, by omega, b0, s0, s1, k00, k01, fun qd ds Hb hTb hKb nqd qdt hqd pw rg l28 => ⟨sz (by show 2 ≤ 1000; decide), fun p2 np2 => ?_⟩⟩
        exact ⟨F, _, .ref p2, rfl, rfl, fin Ha qd ds Hb hKa hTb hKb hqd pw rg l28 p2 np2⟩
    · rintro σ Hy ⟨y7, ps, W, rfl, hTy, hKy, hCy, hFy, wy', nmW, dsW⟩
      rw [List.length_map, List.take_of_length_le (Nat.le_refl _)] at nmW
      have lz : zs.length ≤ 12 := subv.length_le
      have hTy : FeedC Hy t c (n + 500) := hTy.mono (by rw [List.length_map]; omega)
      refine ⟨_, rfl, F, _, rfl, .inl (.inl hFy), fun a o na td => ?_⟩
      have at_ := (hTy.ne na).1
      refine q a o ps W _ (hTy.new na) (hKy.new na) (kp_none hKy na at_) at_ upd_same td (wy'.at (.same (same_upd na))) ⟨?_, fun w hw => ?_, fun w hw => (dsW w hw).1, ⟨bs, b0, b1, fun w hw => (dsW w hw).2.2⟩, ?_, fun w hw => (dsW w hw).2.1⟩
      · rw [nmW]; exact pool_pw.sublist subv
      · exact pool_nm _ (subv.subset (by rw [← nmW]; exact List.mem_map_of_mem (f := (·.1)) hw))
      · have := congrArg List.length nmW
        rw [List.length_map] at this
        omega
end
end L55

set_option Elab.async false
set_option linter.all false
set_option maxRecDepth 100000
set_option maxHeartbeats 4000000
namespace L55
open PySem PySem.Spec PyProof.Rows L2 My
section
variable {P : Program} {w : World} {K : PySem.W.Frag} {mg : Str → Option Value} {base : Heap}
theorem WsAt.get {H : Hp} : ∀ {ps : List Addr} {W : List (Str × List Int)} {i : Nat} {p : Addr}, WsAt H ps W → ps[i]? = some p → ∃ n ds q, W[i]? = some (n, ds) ∧ H p = some (.tup [.str n, .ref q]) ∧ H q = some (.tup (ds.map V.int))
  | _, _, i, p, .nil, h => by cases h
  | _, _, 0, p, .cons a b c, h => by cases h; exact ⟨_, _, _, rfl, a, b⟩
  | _, _, i + 1, p, .cons a b c, h => c.get h
/-- all days of wants -/
def allW (W : List (Str × List Int)) : List Int := W.flatMap (·.2)
theorem same_freshA {H H1 : Hp} {p : Addr} {o : HO} (hp : H p = none) (k : Same H H1) : Same H (upd H1 p o) := fun b x h => by
  rw [upd_ne (ne_of_none h hp)]
  exact k _ _ h
theorem all_take {W : List (Str × List Int)} {i : Nat} {w : Str × List Int} (h : W[i]? = some w) : allW (W.take (i + 1)) = allW (W.take i) ++ w.2 := by
  unfold allW
  rw [List.take_add_one, h]
  show (W.take i ++ [w]).flatMap _ = _
  rw [List.flatMap_append]
  simp
theorem all_len (W : List (Str × List Int)) (i : Nat) : (allW (W.take i)).length ≤ (allW W).length := by
  have : allW W = allW (W.take i) ++ allW (W.drop i) := by
    unfold allW
    rw [← List.flatMap_append, List.take_append_drop]
  rw [this, List.length_append]
  omega
theorem mem_allW {W : List (Str × List Int)} {d : Int} : d ∈ allW W ↔ ∃ w ∈ W, d ∈ w.2 := by
  unfold allW
  rw [List.mem_flatMap]
theorem WsAt.rget {H : Hp} : ∀ {ps : List Addr} {W : List (Str × List Int)} {i : Nat} {w : Str × List Int}, WsAt H ps W → W[i]? = some w → ∃ p q, ps[i]? = some p ∧ H p = some (.tup [.str w.1, .ref q]) ∧ H q = some (.tup (w.2.map V.int))
  | _, _, i, w, .nil, h => by cases h
  | _, _, 0, w, .cons a b c, h => by cases h; exact ⟨_, _, rfl, a, b⟩
  | _, _, i + 1, w, .cons a b c, h => c.rget h
def spAllD : Sp := fun vs H Q _ => ∃ (a : Addr) (ps : List Addr) (W : List (Str × List Int)), vs = [.ref a] ∧ Rd H a (.tup (ps.map V.ref)) ∧ WsAt H ps W ∧ (allW W).length ≤ 900 ∧
  ∀ (r : Addr) (o : Obj) (ds : List Int) (H' : Hp), Same H H' → H' r = some (.frz o (.tup (ds.map V.int))) → TD o → ds.Pairwise (· < ·) → (∀ d, d ∈ ds ↔ d ∈ allW W) → Q (.ref r) H'
theorem ok_alldays (T : Tx K mg) : FnOk P w K mg base CX0 1 T.f_all_days T.d_all_days ["wants"] (spAllD) := by
  refine T.F_all_days.ok S_all_days (fun vs H Q E h => ?_) (fun cdv A outer s H vs Q E hr h => ?_)
  · obtain ⟨a, ps, W, rfl, _⟩ := h
    rfl
  · obtain ⟨a, ps, W, rfl, ha, ws, few, q⟩ := h
    refine ⟨_, (pss_one (ps_ret (pe_callTy call_tupleD (by rfl) T.m_tuple (by decide +kernel) (pa_cons (pe_callB (cr_sortI (by rfl) (un64 hr)) (by rfl) T.m_sorted (by decide +kernel) (pa_cons (pe_sc2 (own := [("name", 1), ("days", 2), ("day", 3)]) (vs1 := [3]) (g := gTup K 2 (gCons (gName 1) (gCons (gName 2) gNil))) (g1 := gName 3) (tt := tYes) (tt1 := tYes) (by rfl) S_all_days.nd (pi_tup (pv 0)) (blkOk_by (own := [("name", 1), ("days", 2), ("day", 3)]) (N := N_all_days) (sc := defScope s_all_days) (by decide +kernel)) (by decide) (fun _ _ _ _ _ => (pg_tup rfl (pgs_cons (pg_name (i := 1) S_all_days.nd rfl (.inl rfl)) (pgs_cons (pg_name (i := 2) S_all_days.nd rfl (.inl rfl)) pgs_nil)))) (fun _ _ _ _ _ => pts_nil) (fun _ _ _ _ _ => (pi_tupK (K1 := K) rfl (pv 2))) (fun _ _ _ _ _ => (pg_name (i := 3) S_all_days.nd rfl (.inl rfl))) (fun _ _ _ _ _ => pts_nil) (fun _ _ _ _ _ => (pv 3))) pa_nil)) pa_nil)))), ?_⟩
    have rdk : ∀ {Hx : Hp}, Same H Hx → Rd Hx a (.tup (ps.map V.ref)) := fun m => ha.imp (fun e => m _ _ e) fun ⟨o, e⟩ => ⟨o, m _ _ e⟩
    refine ⟨_, rfl, a, rfl, ⟨_, .inl ha⟩, fun D nD => ?_⟩
    refine sc2_it (walk_tup (xs := ps.map V.ref)) (fun i Hx => ∃ L, Same H Hx ∧ Hx D = some (SetIO w D L) ∧ (∀ d, d ∈ L ↔ d ∈ allW (W.take i)) ∧ L.length ≤ (allW (W.take i)).length) ⟨[], same_upd nD, upd_same, (fun d => Iff.rfl), Nat.zero_le _⟩ (fun i Hx _ ⟨L, m, _⟩ => .inl (rdk m)) ?_ ?_
    · rintro i x Hx Hy li ⟨L, m, hD, mem, ll⟩ ⟨rfl, hx⟩
      rw [List.getElem?_map] at hx
      obtain ⟨p, hp, rfl⟩ := Option.map_eq_some_iff.mp hx
      obtain ⟨n, ds, b, hw, hp2, hb⟩ := ws.get hp
      have tk := all_take hw
      have al := all_len W (i + 1)
      rw [tk, List.length_append] at al
      refine ⟨p, _, rfl, .inl (.inl (m _ _ hp2)), rfl, _, _, rfl, _, _, rfl, rfl, rfl, tYesT ?_⟩
      refine ⟨_, rfl, b, rfl, ⟨_, .inl (.inl (m _ _ hb))⟩, ?_⟩
      refine sc2_in (walk_tup (xs := ds.map V.int)) (fun j Hz => ∃ L, Same H Hz ∧ Hz D = some (SetIO w D L) ∧ (∀ d, d ∈ L ↔ d ∈ allW (W.take i) ∨ d ∈ ds.take j) ∧ L.length ≤ (allW (W.take i)).length + j) ⟨L, m, hD, (fun d => by rw [mem]; simp), ll⟩ (fun j Hz _ ⟨_, m2, _⟩ => .inl (.inl (m2 _ _ hb))) ?_ ?_
      · rintro j y Hz Hu lj ⟨L2, m2, hD2, mem2, ll2⟩ ⟨rfl, hy⟩
        rw [List.getElem?_map] at hy
        obtain ⟨d, hd, rfl⟩ := Option.map_eq_some_iff.mp hy
        have ld : j < ds.length := (List.getElem?_eq_some_iff.mp hd).1
        have al : (allW (W.take i)).length + ds.length ≤ (allW W).length := al
        refine ⟨rfl, tYesT ⟨_, rfl, d, L2, rfl, hD2, by omega, fun L' c1 c2 => ⟨L', ?_, upd_same, fun e => ?_, ?_⟩⟩⟩
        · exact same_freshA nD m2
        · rw [List.take_add_one, hd]
          show _ ↔ _ ∨ e ∈ ds.take j ++ [d]
          rw [List.mem_append, List.mem_singleton]
          by_cases c : d ∈ L2
          · rw [c1 c, mem2]
            exact ⟨fun h => h.imp id .inl, fun h => h.elim .inl fun h => h.elim .inr fun z => by rw [z]; exact (mem2 d).mp c⟩
          · rw [(c2 c).mem_iff, List.mem_cons, mem2]
            exact ⟨fun h => h.elim (fun z => .inr (.inr z)) fun h => h.imp id .inl, fun h => h.elim (fun z => .inr (.inl z)) fun h => h.elim (fun z => .inr (.inr z)) .inl⟩
        · by_cases c : d ∈ L2
          · rw [c1 c]; omega
          · rw [(c2 c).length_eq, List.length_cons]; omega
      · rintro Hz ⟨L2, m2, hD2, mem2, ll2⟩
        rw [List.length_map, List.take_of_length_le (Nat.le_refl _)] at mem2
        rw [List.length_map] at ll2
        exact ⟨L2, m2, hD2, fun d => by rw [mem2, tk, List.mem_append], by rw [tk, List.length_append]; exact ll2⟩
    · rintro Hx ⟨L, m, hD, mem, ll⟩
      have lps : (ps.map V.ref).length = W.length := by rw [List.length_map]; exact ws.len
      rw [lps, List.take_of_length_le (Nat.le_refl _)] at mem ll
      refine ⟨D, L, rfl, hD, by omega, fun ys p pm nd pw np => ?_⟩
      refine ⟨p, _, rfl, .inl (.inl upd_same), fun l o nl td => ?_⟩
      exact q l o ys _ (m.trans ((same_upd np).trans (same_upd nl))) upd_same td (L2.lt_of_le_nodup ys pw nd) fun d => by rw [pm.mem_iff, mem]
end
end L55

set_option Elab.async false
set_option linter.all false
set_option maxRecDepth 100000
set_option maxHeartbeats 4000000
/-! Things of any kind: None, truths, numbers, texts, lists, tuples, dicts of none, nested. t is the feed's own list: no thing is it. -/
namespace My
open PySem PySem.Spec PyProof.Rows L2
mutual
inductive Dq (fz : Bool) (t : Addr) (H : Hp) : V → PyData → Prop
  | non : Dq fz t H .non .none
  | bl (b : Bool) : Dq fz t H (.bl b) (.bool b)
  | int (i : Int) : Dq fz t H (.int i) (.int i)
  | str (x : Str) : Dq fz t H (.str x) (.str x)
  | lst {a : Addr} {xs : List V} {ds : List PyData} : a ≠ t → H a = some (.lst xs) → DqAll fz t H xs ds → Dq fz t H (.ref a) (.list ds)
  | tup {a : Addr} {xs : List V} {ds : List PyData} : a ≠ t → H a = some (.tup xs) → DqAll fz t H xs ds → Dq fz t H (.ref a) (.tuple ds)
  | frz {a : Addr} {o : Obj} {xs : List V} {ds : List PyData} : fz = true → a ≠ t → H a = some (.frz o (.tup xs)) → DqAll fz t H xs ds → Dq fz t H (.ref a) (.tuple ds)
  | dct {a : Addr} : a ≠ t → H a = some (.dK []) → Dq fz t H (.ref a) (.dict [])
inductive DqAll (fz : Bool) (t : Addr) (H : Hp) : List V → List PyData → Prop
  | nil : DqAll fz t H [] []
  | cons {v : V} {vs : List V} {d : PyData} {ds : List PyData} : Dq fz t H v d → DqAll fz t H vs ds → DqAll fz t H (v :: vs) (d :: ds)
end
section
variable {fz : Bool} {t : Addr} {H H' : Hp}
mutual
theorem Dq.keep (k : ∀ b o, b ≠ t → (∀ ps, o ≠ .tbl ps) → H b = some o → H' b = some o) : ∀ {d : PyData} {v : V}, Dq fz t H v d → Dq fz t H' v d
  | .none, _, .non => .non
  | .bool _, _, .bl b => .bl b
  | .int _, _, .int i => .int i
  | .str _, _, .str x => .str x
  | .list _, _, .lst n e h => .lst n (k _ _ n (fun ps z => by cases z) e) (DqAll.keep k h)
  | .tuple _, _, .tup n e h => .tup n (k _ _ n (fun ps z => by cases z) e) (DqAll.keep k h)
  | .tuple _, _, .frz fn n e h => .frz fn n (k _ _ n (fun ps z => by cases z) e) (DqAll.keep k h)
  | .dict _, _, .dct n e => .dct n (k _ _ n (fun ps z => by cases z) e)
theorem DqAll.keep (k : ∀ b o, b ≠ t → (∀ ps, o ≠ .tbl ps) → H b = some o → H' b = some o) : ∀ {ds : List PyData} {vs : List V}, DqAll fz t H vs ds → DqAll fz t H' vs ds
  | [], _, .nil => .nil
  | _ :: _, _, .cons a h => .cons (Dq.keep k a) (DqAll.keep k h)
end
theorem Dq.same {v : V} {d : PyData} (h : Dq fz t H v d) (s : Same H H') : Dq fz t H' v d := h.keep fun b o _ _ e => s b o e
theorem Dq.kp {v : V} {d : PyData} (h : Dq fz t H v d) (s : Kp t H H') : Dq fz t H' v d := h.keep fun b o n _ e => s b o n e
theorem DqAll.same {vs : List V} {ds : List PyData} (h : DqAll fz t H vs ds) (s : Same H H') : DqAll fz t H' vs ds := h.keep fun b o _ _ e => s b o e
theorem DqAll.kp {vs : List V} {ds : List PyData} (h : DqAll fz t H vs ds) (s : Kp t H H') : DqAll fz t H' vs ds := h.keep fun b o n _ e => s b o n e
theorem DqAll.length : ∀ {ds : List PyData} {vs : List V}, DqAll fz t H vs ds → vs.length = ds.length
  | [], _, .nil => rfl
  | _ :: _, _, .cons _ h => congrArg Nat.succ (DqAll.length h)
theorem DqAll.get : ∀ {ds : List PyData} {vs : List V} {i : Nat} {v : V}, DqAll fz t H vs ds → vs[i]? = some v → ∃ d, ds[i]? = some d ∧ Dq fz t H v d
  | [], _, _, _, h, e => by cases h; cases e
  | _ :: _, _, 0, _, .cons a _, e => by cases e; exact ⟨_, rfl, a⟩
  | _ :: _, _, i + 1, _, .cons _ h, e => DqAll.get (i := i) h e
theorem DqAll.app : ∀ {ds es : List PyData} {vs us : List V}, DqAll fz t H vs ds → DqAll fz t H us es → DqAll fz t H (vs ++ us) (ds ++ es)
  | [], _, _, _, .nil, k => k
  | _ :: _, _, _, _, .cons a h, k => .cons a (h.app k)
theorem DqAll.drop : ∀ {ds : List PyData} {vs : List V}, DqAll fz t H vs ds → ∀ i : Nat, DqAll fz t H (vs.drop i) (ds.drop i)
  | _, _, h, 0 => h
  | _, _, .nil, _ + 1 => .nil
  | _, _, .cons _ h, i + 1 => DqAll.drop h i
theorem DqAll.take : ∀ {ds : List PyData} {vs : List V}, DqAll fz t H vs ds → ∀ i : Nat, DqAll fz t H (vs.take i) (ds.take i)
  | _, _, _, 0 => by rw [List.take_zero, List.take_zero]; exact .nil
  | _, _, .nil, _ + 1 => .nil
  | _, _, .cons a h, i + 1 => .cons a (DqAll.take h i)
theorem DqAll.rev : ∀ {ds : List PyData} {vs : List V}, DqAll fz t H vs ds → DqAll fz t H vs.reverse ds.reverse
  | _, _, .nil => .nil
  | _, _, .cons a h => by
    rw [List.reverse_cons, List.reverse_cons]
    exact (DqAll.rev h).app (.cons a .nil)
theorem dq_texts : ∀ zs : List Str, DqAll fz t H (zs.map V.str) (zs.map PyData.str)
  | [] => .nil
  | _ :: zs => .cons (.str _) (dq_texts zs)
theorem DqAll.mem {v : V} : ∀ {ds : List PyData} {vs : List V}, DqAll fz t H vs ds → v ∈ vs → ∃ d ∈ ds, Dq fz t H v d
  | [], _, h, m => by cases h; cases m
  | _ :: _, _, .cons a h, m => by
    rcases List.mem_cons.mp m with rfl | m
    · exact ⟨_, .head _, a⟩
    · obtain ⟨d, hd, q⟩ := DqAll.mem h m
      exact ⟨d, .tail _ hd, q⟩
theorem DqAll.of {vs : List V} (h : ∀ v ∈ vs, ∃ d, Dq fz t H v d) : ∃ ds, DqAll fz t H vs ds := by
  induction vs with
  | nil => exact ⟨[], .nil⟩
  | cons v vs ih =>
    obtain ⟨ds, q⟩ := ih fun u hu => h u (.tail _ hu)
    obtain ⟨d, p⟩ := h v (.head _)
    exact ⟨d :: ds, .cons p q⟩
end
/-! ### repr -/
section
variable {X : Cx} {pins : List (Addr × Obj)} {σ : L2.St} {H : Hp} {s : Shared} {fz : Bool} {t : Addr}
/-- the heap's own objects behind a thing's address -/
theorem dq_list {a : Addr} {xs : List V} (I : Inv X pins σ H s) (e : H a = some (.lst xs)) : ∃ (o : Obj) (us : List Value) (n : Nat), s.heap.get? a = some o ∧ o.cls = .type "list" ∧ o.data = .seq us.toArray n ∧ Vals xs us := by
  obtain ⟨us, rv, ⟨o, n, ho, hc, _, hd⟩, _⟩ := I.list (.inl (.inl e))
  exact ⟨o, us, n, ho, hc, hd, rv⟩
theorem dq_tuple {a : Addr} {xs : List V} (I : Inv X pins σ H s) (e : SqT X.K H a xs) : ∃ (o : Obj) (us : List Value) (n : Nat), s.heap.get? a = some o ∧ o.cls = .type "tuple" ∧ o.data = .seq us.toArray n ∧ Vals xs us := by
  obtain ⟨us, rv, ⟨o, ho, hc, n, hd⟩, _⟩ := I.tuple e
  exact ⟨o, us, n, ho, hc, hd, rv⟩
theorem dq_dict {a : Addr} (I : Inv X pins σ H s) (e : H a = some (.dK [])) : ∃ (o : Obj) (n : Nat), s.heap.get? a = some o ∧ o.cls = .type "dict" ∧ o.data = .dict #[] n ∧ (a == sysModules) = false := by
  obtain ⟨_, ns, vs, kv, o, es, n, ho, hx, hd, _, pr, _⟩ := (show ObjOk X.prog X.w H s.heap a (.dK []) from I.hok a _ e)
  have ve : vs = [] := by
    cases kv
    rfl
  subst ve
  have ee : es.toList = [] := by
    cases h : es.toList with
    | nil => rfl
    | cons x l => rw [h] at pr; cases pr
  obtain ⟨es⟩ := es
  have ee : es = [] := ee
  subst ee
  exact ⟨o, n, ho, hx.1, hd, ns⟩
mutual
theorem dq_reads (I : Inv X pins σ H s) : ∀ {d : PyData} {v : V} {u : Value}, Dq fz t H v d → RelV v u → ∃ as, Reads s.heap u d as
  | .none, _, _, .non, r => by cases r; exact ⟨_, .none⟩
  | .bool b, _, _, .bl _, r => by cases r; exact ⟨_, .bool b⟩
  | .int i, _, _, .int _, r => by obtain ⟨k, rfl⟩ := r; exact ⟨_, .int i k⟩
  | .str x, _, _, .str _, r => by obtain ⟨k, rfl⟩ := r; exact ⟨_, .str x k⟩
  | .list ds, _, _, .lst _ e h, r => by
    cases r
    obtain ⟨o, us, n, h1, h2, h3, rv⟩ := dq_list I e
    obtain ⟨as, q⟩ := dq_readsAll I h rv
    exact ⟨_, .list h1 h2 h3 q⟩
  | .tuple ds, _, _, .tup _ e h, r => by
    cases r
    obtain ⟨o, us, n, h1, h2, h3, rv⟩ := dq_tuple I (.inl (.inl e))
    obtain ⟨as, q⟩ := dq_readsAll I h rv
    exact ⟨_, .tuple h1 h2 h3 q⟩
  | .tuple ds, _, _, .frz fn _ e h, r => by
    cases r
    obtain ⟨o, us, n, h1, h2, h3, rv⟩ := dq_tuple I (.inl (.inr ⟨_, e⟩))
    obtain ⟨as, q⟩ := dq_readsAll I h rv
    exact ⟨_, .tuple h1 h2 h3 q⟩
  | .dict _, _, _, .dct _ e, r => by
    cases r
    obtain ⟨o, n, h1, h2, h3, _⟩ := dq_dict I e
    exact ⟨_, .dict (as := []) (bs := []) h1 h2 h3 .nil .nil⟩
theorem dq_readsAll (I : Inv X pins σ H s) : ∀ {ds : List PyData} {vs : List V} {us : List Value}, DqAll fz t H vs ds → Vals vs us → ∃ as, ReadsAll s.heap us ds as
  | [], _, _, .nil, .nil => ⟨_, .nil⟩
  | _ :: _, _, _, .cons a h, .cons r1 r2 => by
    obtain ⟨as, q1⟩ := dq_reads I a r1
    obtain ⟨bs, q2⟩ := dq_readsAll I h r2
    exact ⟨_, .cons q1 q2⟩
end
mutual
/-- how a thing is shown within another one -/
theorem dq_shows (I : Inv X pins σ H s) : ∀ {d : PyData} {v : V} {u : Value}, Dq fz t H v d → RelV v u → d.showable = true → d.shown.length ≤ sizeLine → ∃ bs, ReadAtMost s.heap d.depth bs ∧ ReprK X.prog X.w bs s.heap d.depth u d.shown
  | .none, _, _, .non, r, _, _ => by cases r; exact ⟨[], (fun _ h => nomatch h), by simp only [PyData.shown]; exact .of_is ReprIs.none _ _ _⟩
  | .bool b, _, _, .bl _, r, _, _ => by cases r; exact ⟨[], (fun _ h => nomatch h), by simp only [PyData.shown]; exact .of_is (ReprIs.bool b) _ _ _⟩
  | .int i, _, _, .int _, r, hs, _ => by obtain ⟨k, rfl⟩ := r; exact ⟨[], (fun _ h => nomatch h), by simp only [PyData.shown]; exact .of_is (ReprIs.int k (by simpa [PyData.showable] using hs)) _ _ _⟩
  | .str x, _, _, .str _, r, _, hz => by obtain ⟨k, rfl⟩ := r; exact ⟨[], (fun _ h => nomatch h), by simp only [PyData.shown]; exact .of_is (ReprIs.str x k (by simpa only [PyData.shown] using hz)) _ _ _⟩
  | .list ds, _, _, .lst n e h, r, hs, hz => by
    cases r
    obtain ⟨as, rd⟩ := dq_reads (u := .ref _) I (Dq.lst n e h) rfl
    obtain ⟨o, us, m, h1, h2, h3, rv⟩ := dq_list I e
    have room : ∀ x ∈ PyData.shownAll ds, x.length ≤ sizeLine := fun x hx => Nat.le_trans (listText_mem_le hx) (by simpa only [PyData.shown] using hz)
    obtain ⟨bs, b1, b2⟩ := dq_showsAll I h rv (by simpa [PyData.showable] using hs) room
    have lt : PyData.depthAll ds < (PyData.list ds).depth := by simp only [PyData.depth]; omega
    refine ⟨_, ReadAtMost.cons rd (Nat.le_of_lt lt) b1, ?_⟩
    have out := not_mem_of_deeper rd lt b1
    simp only [PyData.depth, PyData.shown]
    cases us with
    | nil =>
      cases rv
      cases h
      simp only [PyData.shownAll, listText_nil]
      exact ReprK.listEmpty h1 h2 h3
    | cons x l => exact ReprK.list h1 h2 h3 out (by simpa using b2.length_eq) fun i y q => b2.item i y (by simpa using q)
  | .tuple ds, _, _, .tup n e h, r, hs, hz => by
    cases r
    obtain ⟨as, rd⟩ := dq_reads (u := .ref _) I (Dq.tup n e h) rfl
    obtain ⟨o, us, m, h1, h2, h3, rv⟩ := dq_tuple I (.inl (.inl e))
    have room : ∀ x ∈ PyData.shownAll ds, x.length ≤ sizeLine := fun x hx => Nat.le_trans (tupleText_mem_le hx) (by simpa only [PyData.shown] using hz)
    obtain ⟨bs, b1, b2⟩ := dq_showsAll I h rv (by simpa [PyData.showable] using hs) room
    have lt : PyData.depthAll ds < (PyData.tuple ds).depth := by simp only [PyData.depth]; omega
    refine ⟨_, ReadAtMost.cons rd (Nat.le_of_lt lt) b1, ?_⟩
    simp only [PyData.depth, PyData.shown]
    exact ReprK.tuple h1 h2 h3 (not_mem_of_deeper rd lt b1) b2
  | .tuple ds, _, _, .frz fn n e h, r, hs, hz => by
    cases r
    obtain ⟨as, rd⟩ := dq_reads (u := .ref _) I (Dq.frz fn n e h) rfl
    obtain ⟨o, us, m, h1, h2, h3, rv⟩ := dq_tuple I (.inl (.inr ⟨_, e⟩))
    have room : ∀ x ∈ PyData.shownAll ds, x.length ≤ sizeLine := fun x hx => Nat.le_trans (tupleText_mem_le hx) (by simpa only [PyData.shown] using hz)
    obtain ⟨bs, b1, b2⟩ := dq_showsAll I h rv (by simpa [PyData.showable] using hs) room
    have lt : PyData.depthAll ds < (PyData.tuple ds).depth := by simp only [PyData.depth]; omega
    refine ⟨_, ReadAtMost.cons rd (Nat.le_of_lt lt) b1, ?_⟩
    simp only [PyData.depth, PyData.shown]
    exact ReprK.tuple h1 h2 h3 (not_mem_of_deeper rd lt b1) b2
  | .dict _, _, _, .dct n e, r, hs, hz => by
    cases r
    obtain ⟨as, rd⟩ := dq_reads (u := .ref _) I (Dq.dct (fz := fz) n e) rfl
    obtain ⟨o, m, h1, h2, h3, h4⟩ := dq_dict I e
    refine ⟨[_], ReadAtMost.cons (n := 0) rd (Nat.zero_le _) (fun _ h => nomatch h), ?_⟩
    have k := ReprK.dict (prog := X.prog) (w := X.w) (as := []) (d := PyData.depthKv []) (ps := []) h1 h2 h3 h4 (fun z => nomatch z) .nil
    simp only [PyData.depth, PyData.shown, PyData.shownKv]
    exact k
theorem dq_showsAll (I : Inv X pins σ H s) : ∀ {ds : List PyData} {vs : List V} {us : List Value}, DqAll fz t H vs ds → Vals vs us → PyData.showableAll ds = true → (∀ x ∈ PyData.shownAll ds, x.length ≤ sizeLine) → ∃ bs, ReadAtMost s.heap (PyData.depthAll ds) bs ∧ ReprAllK X.prog X.w bs s.heap (PyData.depthAll ds) us (PyData.shownAll ds)
  | [], _, _, .nil, .nil, _, _ => ⟨[], (fun _ h => nomatch h), by simp only [PyData.shownAll]; exact .nil⟩
  | d :: ds, _, _, .cons a h, .cons r1 r2, hs, hz => by
    have hs : d.showable = true ∧ PyData.showableAll ds = true := by simpa [PyData.showableAll] using hs
    obtain ⟨b1, m1, k1⟩ := dq_shows I a r1 hs.1 (hz _ (by simp only [PyData.shownAll]; exact .head _))
    obtain ⟨b2, m2, k2⟩ := dq_showsAll I h r2 hs.2 fun x hx => hz x (by simp only [PyData.shownAll]; exact .tail _ hx)
    have l1 : d.depth ≤ PyData.depthAll (d :: ds) := by simp only [PyData.depthAll]; exact Nat.le_max_left _ _
    have l2 : PyData.depthAll ds ≤ PyData.depthAll (d :: ds) := by simp only [PyData.depthAll]; exact Nat.le_max_right _ _
    refine ⟨b1 ++ b2, (m1.mono l1).append (m2.mono l2), ?_⟩
    simp only [PyData.shownAll]
    exact .cons ((k1.more fun b hb => List.mem_append_left _ hb).level_le l1) (k2.more_le (fun b hb => List.mem_append_right _ hb) l2)
end
end
end My

set_option Elab.async false
set_option linter.all false
set_option maxRecDepth 100000
set_option maxHeartbeats 4000000
/-! repr of things of any kind; what kind a thing is of. -/
namespace My
open PySem PySem.Spec PyProof.Rows L2
mutual
def ShQ : PyData → Prop
  | .none => True
  | .bool _ => True
  | .int i => i.natAbs.log2 < 1920
  | .str x => ∀ c ∈ x.cps.toList, c < 16 ^ 8
  | .list xs => ShQs xs
  | .tuple xs => ShQs xs
  | .dict xs => xs = []
def ShQs : List PyData → Prop
  | [] => True
  | x :: xs => ShQ x ∧ ShQs xs
end
mutual
def wt : PyData → Nat
  | .none => 4
  | .bool _ => 5
  | .int _ => 1921
  | .str x => 10 * x.length + 4
  | .list xs => wts xs + 3
  | .tuple xs => wts xs + 3
  | .dict _ => 2
def wts : List PyData → Nat
  | [] => 0
  | x :: xs => wt x + 2 + wts xs
end
theorem shqs_mem : ∀ {ds : List PyData}, ShQs ds ↔ ∀ d ∈ ds, ShQ d
  | [] => ⟨fun _ d h => (by cases h), fun _ => trivial⟩
  | x :: xs => by
    rw [ShQs, shqs_mem (ds := xs)]
    exact ⟨fun h d hd => (List.mem_cons.mp hd).elim (fun e => by rw [e]; exact h.1) (h.2 d), fun h => ⟨h x (.head _), fun d hd => h d (.tail _ hd)⟩⟩
theorem wts_app : ∀ {ds es : List PyData}, wts (ds ++ es) = wts ds + wts es
  | [], _ => by rw [List.nil_append, wts]; omega
  | x :: xs, es => by
    rw [List.cons_append, wts, wts, wts_app (ds := xs)]
    omega
theorem wts_drop : ∀ {ds : List PyData} (i : Nat), wts (ds.drop i) ≤ wts ds
  | _, 0 => Nat.le_refl _
  | [], _ + 1 => by rw [List.drop_nil]; exact Nat.le_refl _
  | x :: xs, i + 1 => by
    rw [List.drop_succ_cons, wts]
    have := wts_drop (ds := xs) i
    omega
theorem wts_take : ∀ {ds : List PyData} (i : Nat), wts (ds.take i) ≤ wts ds
  | _, 0 => by rw [List.take_zero, wts]; exact Nat.zero_le _
  | [], _ + 1 => by rw [List.take_nil]; exact Nat.le_refl _
  | x :: xs, i + 1 => by
    rw [List.take_succ_cons, wts, wts]
    have := wts_take (ds := xs) i
    omega
theorem wts_mem {d : PyData} : ∀ {ds : List PyData}, d ∈ ds → wt d + 2 ≤ wts ds
  | x :: xs, h => by
    rw [wts]
    rcases List.mem_cons.mp h with rfl | h
    · omega
    · have := wts_mem h
      omega
theorem wts_len : ∀ {ds : List PyData}, ds.length ≤ wts ds
  | [] => Nat.zero_le _
  | x :: xs => by
    have := wts_len (ds := xs)
    rw [wts, List.length_cons]
    omega
theorem depths_mem {d : PyData} : ∀ {ds : List PyData}, d ∈ ds → d.depth ≤ PyData.depthAll ds
  | x :: xs, h => by
    rw [PyData.depthAll]
    rcases List.mem_cons.mp h with rfl | h
    · exact Nat.le_max_left _ _
    · exact Nat.le_trans (depths_mem h) (Nat.le_max_right _ _)
theorem depths_le {n : Nat} : ∀ {ds : List PyData}, (∀ d ∈ ds, d.depth ≤ n) → PyData.depthAll ds ≤ n
  | [], _ => by rw [PyData.depthAll]; exact Nat.zero_le _
  | x :: xs, h => by
    rw [PyData.depthAll]
    exact Nat.max_le.mpr ⟨h x (.head _), depths_le fun d hd => h d (.tail _ hd)⟩
mutual
theorem shq_ok : ∀ {d : PyData}, ShQ d → d.showable = true ∧ d.shown.length ≤ wt d
  | .none, _ => ⟨rfl, by decide +kernel⟩
  | .bool b, _ => ⟨rfl, by cases b <;> decide +kernel⟩
  | .int i, h => ⟨decide_eq_true h, int_text_len_1921 h⟩
  | .str x, h => ⟨rfl, Nat.le_trans (StrLaws.reprText_len x h) (Nat.add_le_add_left (by decide) _)⟩
  | .list xs, h => by
    obtain ⟨a, c⟩ := shqs_ok (xs := xs) h
    refine ⟨by rw [PyData.showable]; exact a, ?_⟩
    rw [PyData.shown, wt]
    exact Nat.le_trans (listText_len_le _) (by omega)
  | .tuple xs, h => by
    obtain ⟨a, c⟩ := shqs_ok (xs := xs) h
    refine ⟨by rw [PyData.showable]; exact a, ?_⟩
    rw [PyData.shown, wt]
    exact Nat.le_trans (tupleText_len_le _) (by omega)
  | .dict xs, h => by
    have h : xs = [] := h
    subst h
    exact ⟨by rw [PyData.showable, PyData.showableKv], by rw [PyData.shown, PyData.shownKv, wt]; decide +kernel⟩
theorem shqs_ok : ∀ {xs : List PyData}, ShQs xs → PyData.showableAll xs = true ∧ ((PyData.shownAll xs).map (·.length)).sum + 2 * (PyData.shownAll xs).length ≤ wts xs
  | [], _ => ⟨rfl, Nat.le_refl _⟩
  | x :: xs, h => by
    obtain ⟨a1, c1⟩ := shq_ok h.1
    obtain ⟨a2, c2⟩ := shqs_ok h.2
    refine ⟨by rw [PyData.showableAll, a1, a2]; rfl, ?_⟩
    rw [PyData.shownAll, wts, List.map_cons, List.sum_cons, List.length_cons]
    omega
end
section
variable {X : Cx} {k : Nat} {fz : Bool} {t : Addr}
/-- repr of a thing of any kind -/
theorem call_reprQ (gd : X.A.guards = some []) (hr : Room k X.A) : CallR X (.builtin "repr") (fun xs H Q => ∃ fz t v d, xs = [v] ∧ Dq fz t H v d ∧ ShQ d ∧ d.depth ≤ 50 ∧ wt d ≤ 4000000 ∧ Q (.str d.shown) H) := by
  intro pins s σ H xs us Q I r h
  obtain ⟨fz, t, v, d, rfl, dq, sh, deep, few, q⟩ := h
  obtain ⟨u, rfl, ru⟩ := vals1 r
  obtain ⟨a, c⟩ := shq_ok sh
  have fits : wt d ≤ sizeLine := Nat.le_trans few (by decide)
  have hz := Nat.le_trans c fits
  have hu := hr.un
  have turn : ∀ h' u tk, (∀ b o, s.heap.get? b = some o → h'.get? b = some o) → EP X pins σ Q (.str d.shown u) { s with heap := h', toks := tk } := fun h' u tk kp => ⟨.str _, H, I.turnedL (ch := []) (h' := h') (t' := tk) (fun b o _ e => kp b o e) (fun b hb => by cases hb), ⟨_, rfl⟩, q⟩
  cases dq with
  | non => cases ru; exact PySem.P.repr_of_none ⟨.str _, H, I.tok _, ⟨_, rfl⟩, q⟩
  | bl x => cases ru; exact PySem.P.repr_of_bool ⟨.str _, H, I.tok _, ⟨_, rfl⟩, q⟩
  | int i =>
    obtain ⟨tt, rfl⟩ := ru
    exact PySem.P.repr_of_int sh ⟨.str _, H, I.tok _, ⟨_, rfl⟩, q⟩
  | str x =>
    obtain ⟨tt, rfl⟩ := ru
    exact PySem.P.repr_of_str ⟨.str _, H, I.tok _, ⟨_, rfl⟩, q⟩ hz
  | @lst p vs ds n e h =>
    cases ru
    obtain ⟨as, rd⟩ := dq_reads (u := .ref _) I (Dq.lst n e h) rfl
    obtain ⟨o, us, m, h1, h2, h3, rv⟩ := dq_list I e
    obtain ⟨bs, b1, b2⟩ := dq_showsAll I h rv (by simpa [PyData.showable] using a) fun x hx => Nat.le_trans (listText_mem_le hx) (by simpa only [PyData.shown] using hz)
    have lt : PyData.depthAll ds < (PyData.list ds).depth := by simp only [PyData.depth]; omega
    have out := not_mem_of_deeper rd lt b1
    refine call_repr_slot (by omega) ⟨o, h1, h2⟩ F.slot_list_repr.toG ?_
    have turn2 : ∀ h' u tk, (∀ b o, s.heap.get? b = some o → h'.get? b = some o) → ∃ x z, Value.str (PyData.list ds).shown u = .str x z ∧ EP X pins σ Q (.str (PyData.list ds).shown u) { s with heap := h', toks := tk } := fun h' u tk kp => ⟨_, _, rfl, turn h' u tk kp⟩
    simp only [PyData.shown] at turn2 hz
    cases us with
    | nil =>
      cases rv
      cases h
      simp only [PyData.shownAll, listText_nil] at turn2
      exact call_list_repr_empty ⟨o, h1, h2⟩ h1 h3 (turn2 s.heap _ _ fun _ _ e => e)
    | cons x l => exact call_list_reprK h1 h2 h3 out (by simpa using b2.length_eq) (fun i y q => b2.item i y (by simpa using q)) gd (fun b _ => Clear.nil b) (by simp only [PyData.depth] at deep; show X.A.units + 1 + _ < _; omega) (fun _ _ e => e) turn2 hz
  | @tup p vs ds n e h =>
    cases ru
    obtain ⟨as, rd⟩ := dq_reads (u := .ref _) I (Dq.tup n e h) rfl
    obtain ⟨o, us, m, h1, h2, h3, rv⟩ := dq_tuple I (.inl (.inl e))
    obtain ⟨bs, b1, b2⟩ := dq_showsAll I h rv (by simpa [PyData.showable] using a) fun x hx => Nat.le_trans (tupleText_mem_le hx) (by simpa only [PyData.shown] using hz)
    have lt : PyData.depthAll ds < (PyData.tuple ds).depth := by simp only [PyData.depth]; omega
    refine call_repr_slot (by omega) ⟨o, h1, h2⟩ F.slot_tuple_repr ?_
    have turn2 : ∀ h' u tk, (∀ b o, s.heap.get? b = some o → h'.get? b = some o) → ∃ x z, Value.str (PyData.tuple ds).shown u = .str x z ∧ EP X pins σ Q (.str (PyData.tuple ds).shown u) { s with heap := h', toks := tk } := fun h' u tk kp => ⟨_, _, rfl, turn h' u tk kp⟩
    simp only [PyData.shown] at turn2 hz
    exact call_tuple_reprK h1 h2 h3 (not_mem_of_deeper rd lt b1) b2 gd (fun b _ => Clear.nil b) (by simp only [PyData.depth] at deep; show X.A.units + 1 + _ < _; omega) (fun _ _ e => e) turn2 hz
  | @frz p o' vs ds fn n e h =>
    cases ru
    obtain ⟨as, rd⟩ := dq_reads (u := .ref _) I (Dq.frz fn n e h) rfl
    obtain ⟨o, us, m, h1, h2, h3, rv⟩ := dq_tuple I (.inl (.inr ⟨_, e⟩))
    obtain ⟨bs, b1, b2⟩ := dq_showsAll I h rv (by simpa [PyData.showable] using a) fun x hx => Nat.le_trans (tupleText_mem_le hx) (by simpa only [PyData.shown] using hz)
    have lt : PyData.depthAll ds < (PyData.tuple ds).depth := by simp only [PyData.depth]; omega
    refine call_repr_slot (by omega) ⟨o, h1, h2⟩ F.slot_tuple_repr ?_
    have turn2 : ∀ h' u tk, (∀ b o, s.heap.get? b = some o → h'.get? b = some o) → ∃ x z, Value.str (PyData.tuple ds).shown u = .str x z ∧ EP X pins σ Q (.str (PyData.tuple ds).shown u) { s with heap := h', toks := tk } := fun h' u tk kp => ⟨_, _, rfl, turn h' u tk kp⟩
    simp only [PyData.shown] at turn2 hz
    exact call_tuple_reprK h1 h2 h3 (not_mem_of_deeper rd lt b1) b2 gd (fun b _ => Clear.nil b) (by simp only [PyData.depth] at deep; show X.A.units + 1 + _ < _; omega) (fun _ _ e => e) turn2 hz
  | @dct p n e =>
    cases ru
    obtain ⟨o, m, h1, h2, h3, h4⟩ := dq_dict I e
    refine call_repr_slot (by omega) ⟨o, h1, h2⟩ F.slot_dict_repr ?_
    have turn2 : ∀ h' u tk, (∀ b o, s.heap.get? b = some o → h'.get? b = some o) → ∃ x z, Value.str (PyData.dict []).shown u = .str x z ∧ EP X pins σ Q (.str (PyData.dict []).shown u) { s with heap := h', toks := tk } := fun h' u tk kp => ⟨_, _, rfl, turn h' u tk kp⟩
    simp only [PyData.shown, PyData.shownKv] at turn2 hz
    exact call_dict_reprK (as := []) (d := 0) (ps := []) h1 h2 h3 h4 (fun z => nomatch z) .nil gd (fun b _ => Clear.nil b) (by show X.A.units + 1 + _ < _; omega) (fun _ _ e => e) turn2 hz
end
/-! ### kinds -/
theorem dq_typed {fz : Bool} {t : Addr} {H : Hp} {v : V} {d : PyData} (h : Dq fz t H v d) : (∃ a o xs, v = .ref a ∧ H a = some (.frz o (.tup xs))) ∨ Typed H v := by
  cases h with
  | non => exact .inr trivial
  | bl => exact .inr trivial
  | int => exact .inr trivial
  | str => exact .inr trivial
  | lst n e h => exact .inr (.inr (.inl ⟨_, e⟩))
  | tup n e h => exact .inr (.inl ⟨_, e⟩)
  | frz fn n e h => exact .inl ⟨_, _, _, rfl, e⟩
  | dct n e => exact .inr (.inr (.inr ⟨_, e⟩))
/-- whether a thing's data are of a built-in kind -/
def kindQ (n : String) : PyData → Bool
  | .none => false
  | .bool _ => n == "bool" || n == "int"
  | .int _ => n == "int"
  | .str _ => n == "str"
  | .tuple _ => n == "tuple"
  | .list _ => n == "list"
  | .dict _ => n == "dict"
theorem dq_kind {K : PySem.W.Frag} {fz : Bool} {t : Addr} {H : Hp} {v : V} {d : PyData} {n : String} (hn : n = "int" ∨ n = "bool" ∨ n = "str" ∨ n = "tuple") (h : Dq fz t H v d) : ∃ u, TyX K H v u ∧ PySem.W.kitOne K u (.type n) = some (kindQ n d) := by
  cases h with
  | non => rcases hn with rfl | rfl | rfl | rfl <;> exact ⟨_, .base .non, kit_ty (r := false) (by decide +kernel)⟩
  | bl b =>
    rcases hn with rfl | rfl | rfl | rfl
    · exact ⟨_, .base (.bl b), kit_ty (r := true) (by decide +kernel)⟩
    · exact ⟨_, .base (.bl b), kit_ty (r := true) (by decide +kernel)⟩
    · exact ⟨_, .base (.bl b), kit_ty (r := false) (by decide +kernel)⟩
    · exact ⟨_, .base (.bl b), kit_ty (r := false) (by decide +kernel)⟩
  | int i =>
    rcases hn with rfl | rfl | rfl | rfl
    · exact ⟨_, .base (.int i), kit_ty (r := true) (by decide +kernel)⟩
    · exact ⟨_, .base (.int i), kit_ty (r := false) (by decide +kernel)⟩
    · exact ⟨_, .base (.int i), kit_ty (r := false) (by decide +kernel)⟩
    · exact ⟨_, .base (.int i), kit_ty (r := false) (by decide +kernel)⟩
  | str x =>
    rcases hn with rfl | rfl | rfl | rfl
    · exact ⟨_, .base (.str x), kit_ty (r := false) (by decide +kernel)⟩
    · exact ⟨_, .base (.str x), kit_ty (r := false) (by decide +kernel)⟩
    · exact ⟨_, .base (.str x), kit_ty (r := true) (by decide +kernel)⟩
    · exact ⟨_, .base (.str x), kit_ty (r := false) (by decide +kernel)⟩
  | lst _ e _ => rcases hn with rfl | rfl | rfl | rfl <;> exact ⟨_, .base (.lst e), kit_ty (r := false) (by decide +kernel)⟩
  | tup _ e _ => rcases hn with rfl | rfl | rfl | rfl <;> first | exact ⟨_, .base (.tup e), kit_ty (r := false) (by decide +kernel)⟩ | exact ⟨_, .base (.tup e), kit_ty (r := true) (by decide +kernel)⟩
  | frz _ _ e _ => rcases hn with rfl | rfl | rfl | rfl <;> first | exact ⟨_, .fTuple e, kit_ty (r := false) (by decide +kernel)⟩ | exact ⟨_, .fTuple e, kit_ty (r := true) (by decide +kernel)⟩
  | dct _ e => rcases hn with rfl | rfl | rfl | rfl <;> exact ⟨_, .base (.dK e), kit_ty (r := false) (by decide +kernel)⟩
end My

set_option Elab.async false
set_option linter.all false
set_option maxRecDepth 100000
set_option maxHeartbeats 4000000
/-! in, not in: a thing of any kind in texts or in pairs of texts; a text in things of any kind. -/
namespace My
open PySem PySem.Spec PyProof.Rows L2 PySem.SeqAt
theorem tuple_declines_dict (b l : Addr) (items : Array Value) (n m : Nat) (dd d2 : Option Addr) (sl s2 : Array (Option Value)) (es : Array DictEntry) :
    Meets (Builtin.«tuple.__eq__» ⟨[.ref b, .ref l], []⟩) (fun _ R s => s.heap.get? b = some { cls := .type "tuple", dict := dd, data := .seq items n, slots := sl } ∧ s.heap.get? l = some { cls := .type "dict", dict := d2, data := .dict es m, slots := s2 } ∧ R (.ok (.ret .notImplemented)) s) := by
  refine .of_wp fun prog w A R s h => ?_
  obtain ⟨hp, g, d, tk, os⟩ := s
  obtain ⟨hb, hl, h⟩ := h
  have f1 := F.sub_dict_tuple
  wp_walk using wpAny_loadPart' hb, wpAny_loadPart' hl
  exact ⟨_, rfl, h⟩
theorem dict_declines_tuple (b l : Addr) (items : Array Value) (n m : Nat) (dd d2 : Option Addr) (sl s2 : Array (Option Value)) (es : Array DictEntry) :
    Meets (Builtin.«dict.__eq__» ⟨[.ref l, .ref b], []⟩) (fun _ R s => s.heap.get? b = some { cls := .type "tuple", dict := dd, data := .seq items n, slots := sl } ∧ s.heap.get? l = some { cls := .type "dict", dict := d2, data := .dict es m, slots := s2 } ∧ R (.ok (.ret .notImplemented)) s) := by
  refine .of_wp fun prog w A R s h => ?_
  obtain ⟨hp, g, d, tk, os⟩ := s
  obtain ⟨hb, hl, h⟩ := h
  wp_walk using wpAny_loadPart' hl, wpAny_loadPart' hb, wpAny_load hl
  refine wpAny_of_eq F.sub_tuple_dict ?_
  rw [if_pos (by decide)]
  exact wpAny_bind (wpAny_rule (wpAny_pure ⟨_, rfl, h⟩))
section
variable {A : Around} {s : Shared}
theorem eq_tuple_dict {b l : Addr} {items : Array Value} {o : Obj} {es : Array DictEntry} {m : Nat} (hb : s.heap.IsTuple b items) (ho : s.heap.get? l = some o) (hc : o.cls = .type "dict") (hd : o.data = .dict es m) (hu : A.units < cLine) : EqAt A s (.ref b) (.ref l) false := by
  obtain ⟨⟨cls, dd, data, sl⟩, hb, hbc, n, hbd⟩ := hb
  obtain ⟨c2, d2, da2, s2⟩ := o
  simp only at hc hd hbc hbd
  subst hc hd hbc hbd
  have ne : b ≠ l := fun e => by
    subst e
    rw [ho] at hb
    simp at hb
  refine .of_refs ne fun prog w E Q h => ?_
  exact rc_eq_decline_or (k := false) ⟨_, hb, rfl⟩ ⟨_, ho, rfl⟩ (by decide) F.sub_dict_tuple F.slot_tuple_eq F.slot_dict_eq_refl
    (fun _ hq => call_meets F.slot_tuple_eq ⟨_, hb, rfl⟩ F.entry_tuple_eq (F.args_tuple_eq_2 _ _) (tuple_declines_dict b l items n m dd d2 sl s2 es) ⟨hb, ho, hq⟩)
    (fun _ hq => call_meets F.slot_dict_eq_refl ⟨_, ho, rfl⟩ F.entry_dict_eq (F.args_dict_eq_2 _ _) (dict_declines_tuple b l items n m dd d2 sl s2 es) ⟨hb, ho, hq⟩)
    (fun _ hq => by first | exact wpAny_isSame_ref_other' ne hb ho (by simp) hq | exact wpAny_isSame_ref_other ne hb ho (by simp) hq) (.inr hu) h
theorem eq_dict_str {l : Addr} {o : Obj} {es : Array DictEntry} {n : Nat} (b : Str) (u : Tok) (ho : s.heap.get? l = some o) (hc : o.cls = .type "dict") (hd : o.data = .dict es n) (hu : A.units < cLine) : EqAt A s (.ref l) (.str b u) false := fun prog w E Q h => by
  unfold eqBool
  refine wpAny_holding (wpAny_ite_split (fun hab => absurd (eq_of_beq hab) nofun) fun _ => ?_)
  refine wpAny_bind (rc_eq_decline_or (k := false) ⟨_, ho, hc⟩ (typeIs_str s b u) (by decide) (show isSubtype (.type "str") (.type "dict") = pure false by rw [isSubtype_type]; kernel_rfl) F.slot_dict_eq F.slot_str_eq_refl
    (fun _ hq => call_meets F.slot_dict_eq ⟨_, ho, hc⟩ F.entry_dict_eq (F.args_dict_eq_2 _ _) (dict_declines_str b u l o es n hc hd) ⟨ho, hq⟩)
    (fun _ hq => call_meets F.slot_str_eq_refl (typeIs_str s b u) F.entry_str_eq (F.args_str_eq_2 _ _) (str_declines_dict b u l o es n hd) ⟨ho, hq⟩)
    (fun _ hq => wpAny_of_eq (rfl : isSame (.ref l) (.str b u) = pure false) hq) (.inr hu) (wpAny_truthy_bool h))
end
/-! ### a text, a pair of texts against a thing -/
/-- the thing is that text -/
def isT (z : Str) : PyData → Bool
  | .str y => z == y
  | _ => false
/-- the thing is that pair -/
def isP (p : Str × Str) : PyData → Bool
  | .tuple [x, y] => isT p.1 x && isT p.2 y
  | _ => false
section
variable {X : Cx} {pins : List (Addr × Obj)} {σ : L2.St} {H : Hp} {s : Shared} {fz : Bool} {t : Addr} {A : Around}
theorem dq_isTuple {a : Addr} {xs : List V} (I : Inv X pins σ H s) (e : SqT X.K H a xs) : ∃ us : List Value, s.heap.IsTuple a us.toArray ∧ Vals xs us := by
  obtain ⟨us, rv, p, _⟩ := I.tuple e
  exact ⟨us, p, rv⟩
/-- a text, then the thing -/
theorem eq_text {x : V} {d : PyData} {v : Value} (I : Inv X pins σ H s) (h : Dq fz t H x d) (r : RelV x v) (hu : A.units < cLine) (z : Str) (k : Tok) : EqAt A s (.str z k) v (isT z d) := by
  cases h with
  | non => cases r; exact EqAt.str_none z k
  | bl b => cases r; exact EqAt.str_bool z k b
  | int i => obtain ⟨u, rfl⟩ := r; exact EqAt.str_int z k i u
  | str y => obtain ⟨u, rfl⟩ := r; exact EqAt.str_str z k y u
  | lst n e h =>
    cases r
    obtain ⟨us, rv, pl, _⟩ := I.list (.inl (.inl e))
    exact EqAt.str_list z k pl.isList hu
  | tup n e h =>
    cases r
    obtain ⟨us, p, _⟩ := dq_isTuple I (.inl (.inl e))
    exact EqAt.str_tuple z k p hu
  | frz fn n e h =>
    cases r
    obtain ⟨us, p, _⟩ := dq_isTuple I (.inl (.inr ⟨_, e⟩))
    exact EqAt.str_tuple z k p hu
  | dct n e =>
    cases r
    obtain ⟨o, m, h1, h2, h3, _⟩ := dq_dict I e
    exact eq_str_dict z k h1 h2 h3 hu
/-- the thing, then a text -/
theorem eq_text2 {x : V} {d : PyData} {v : Value} (I : Inv X pins σ H s) (h : Dq fz t H x d) (r : RelV x v) (hu : A.units < cLine) (z : Str) (k : Tok) : EqAt A s v (.str z k) (isT z d) := by
  cases h with
  | non => cases r; exact EqAt.none_str z k
  | bl b => cases r; exact EqAt.bool_str b z k
  | int i => obtain ⟨u, rfl⟩ := r; exact EqAt.int_str i u z k
  | str y =>
    obtain ⟨u, rfl⟩ := r
    have e := EqAt.str_str (A := A) (s := s) y u z k
    rw [show (y == z) = isT z (.str y) by show (y == z) = (z == y); rw [Bool.eq_iff_iff, beq_iff_eq, beq_iff_eq]; exact eq_comm] at e
    exact e
  | lst n e h =>
    cases r
    obtain ⟨us, rv, pl, _⟩ := I.list (.inl (.inl e))
    exact EqAt.list_str z k pl.isList hu
  | tup n e h =>
    cases r
    obtain ⟨us, p, _⟩ := dq_isTuple I (.inl (.inl e))
    exact EqAt.tuple_str z k p hu
  | frz fn n e h =>
    cases r
    obtain ⟨us, p, _⟩ := dq_isTuple I (.inl (.inr ⟨_, e⟩))
    exact EqAt.tuple_str z k p hu
  | dct n e =>
    cases r
    obtain ⟨o, m, h1, h2, h3, _⟩ := dq_dict I e
    exact eq_dict_str z k h1 h2 h3 hu
theorem vals_at : ∀ {xs : List V} {us : List Value}, Vals xs us → ∀ (j : Nat) (u : Value), us[j]? = some u → ∃ v, xs[j]? = some v ∧ RelV v u
  | _, _, .nil, _, _, e => by cases e
  | _, _, .cons a _, 0, _, e => by cases e; exact ⟨_, rfl, a⟩
  | _, _, .cons _ r, j + 1, u, e => vals_at r j u e
theorem dqs_two {xs : List V} {ds : List PyData} {us : List Value} (h : DqAll fz t H xs ds) (r : Vals xs us) (n : us.length = 2) : ∃ x y d e u v, xs = [x, y] ∧ ds = [d, e] ∧ us = [u, v] ∧ Dq fz t H x d ∧ Dq fz t H y e ∧ RelV x u ∧ RelV y v := by
  cases r with
  | nil => cases n
  | cons r1 r =>
    cases r with
    | nil => cases n
    | cons r2 r =>
      cases r with
      | cons _ _ => simp at n
      | nil =>
        cases h with
        | cons h1 h =>
          cases h with
          | cons h2 h =>
            cases h
            exact ⟨_, _, _, _, _, _, rfl, rfl, rfl, h1, h2, r1, r2⟩
theorem eq_pair_tup {a b : Addr} {xs : List V} {ds : List PyData} {p : Str × Str} {k1 k2 : Tok} (I : Inv X pins σ H s) (hu : A.units + 1 < cLine) (hb : s.heap.IsTuple b #[.str p.1 k1, .str p.2 k2]) (e : SqT X.K H a xs) (h : DqAll fz t H xs ds) : EqAt A s (.ref b) (.ref a) (isP p (.tuple ds)) := by
  obtain ⟨us, ha, rv⟩ := dq_isTuple I e
  by_cases ab : b = a
  · subst ab
    have eu : us.toArray = #[.str p.1 k1, .str p.2 k2] := by
      obtain ⟨o, h1, _, n1, d1⟩ := hb
      obtain ⟨o2, h2, _, n2, d2⟩ := ha
      rw [h1] at h2
      cases h2
      rw [d1] at d2
      cases d2
      rfl
    have eu : us = [.str p.1 k1, .str p.2 k2] := by simpa using congrArg Array.toList eu
    obtain ⟨x, y, d, e', u, v, rfl, rfl, eu2, h1, h2, r1, r2⟩ := dqs_two h rv (by rw [eu]; rfl)
    rw [eu] at eu2
    cases eu2
    have dx : ∀ {x : V} {d : PyData} {z : Str} {k : Tok}, Dq fz t H x d → RelV x (.str z k) → isT z d = true := fun {x d z k} h r => by
      cases h with
      | str y =>
        obtain ⟨u, e⟩ := r
        cases e
        show (z == z) = true
        exact beq_self_eq_true z
      | non => cases r
      | bl b => cases r
      | int i => obtain ⟨u, e⟩ := r; cases e
      | lst => cases r
      | tup => cases r
      | frz => cases r
      | dct => cases r
    rw [show isP p (.tuple [d, e']) = true by show (isT p.1 d && isT p.2 e') = true; rw [dx h1 r1, dx h2 r2]; rfl]
    exact EqAt.same _
  · refine EqAt.of_refs ab ?_
    let e : Nat → Bool := fun j => match ds[j]? with | some d => isT (if j = 0 then p.1 else p.2) d | none => false
    have q := RcAt.tuples (A := A) (e := e) hb ha (by omega) (fun j j1 j2 => by
      have j2 : j < us.length := by simpa using j2
      obtain ⟨v, hv, rel⟩ := vals_at rv j us[j] (List.getElem?_eq_getElem j2)
      obtain ⟨d, hd, dq⟩ := h.get hv
      have ee : e j = isT (if j = 0 then p.1 else p.2) d := by show (match ds[j]? with | some d => isT (if j = 0 then p.1 else p.2) d | none => false) = _; rw [hd]
      rw [ee]
      match j, j1 with
      | 0, _ => exact eq_text I dq rel (by show A.units + 1 < cLine; exact hu) p.1 k1
      | 1, _ => exact eq_text I dq rel (by show A.units + 1 < cLine; exact hu) p.2 k2
      | j + 2, j1 => exact absurd j1 (by simp))
    have l1 := h.length
    have l2 := rv.length
    have fin : ((List.range (min (#[Value.str p.1 k1, Value.str p.2 k2] : Array Value).size us.toArray.size)).all e && (#[Value.str p.1 k1, Value.str p.2 k2] : Array Value).size == us.toArray.size) = isP p (.tuple ds) := by
      rw [show us.toArray.size = ds.length by rw [List.size_toArray, ← l2, l1]]
      show ((List.range (min 2 ds.length)).all e && (2 == ds.length)) = _
      clear q l1 h
      rcases ds with _ | ⟨d, _ | ⟨d', _ | ⟨d3, r⟩⟩⟩
      · rfl
      · simp [isP]
      · show ((List.range 2).all _ && true) = (isT p.1 d && isT p.2 d')
        rw [show List.range 2 = [0, 1] from rfl]
        simp [e]
      · have : (2 == (r.length + 3)) = false := by simp
        show (_ && (2 == (r.length + 3))) = false
        rw [this, Bool.and_false]
    rw [fin] at q
    exact q
/-- a pair of texts, then the thing -/
theorem eq_pair {x : V} {d : PyData} {v : Value} {b : Addr} {p : Str × Str} {k1 k2 : Tok} (I : Inv X pins σ H s) (h : Dq fz t H x d) (r : RelV x v) (hu : A.units + 1 < cLine) (hb : s.heap.IsTuple b #[.str p.1 k1, .str p.2 k2]) : EqAt A s (.ref b) v (isP p d) := by
  cases h with
  | non => cases r; exact EqAt.tuple_none hb (by omega)
  | bl c => cases r; exact EqAt.tuple_bool c hb (by omega)
  | int i => obtain ⟨u, rfl⟩ := r; exact EqAt.tuple_int i u hb (by omega)
  | str y => obtain ⟨u, rfl⟩ := r; exact EqAt.tuple_str y u hb (by omega)
  | lst n e h =>
    cases r
    obtain ⟨us, rv, pl, _⟩ := I.list (.inl (.inl e))
    exact EqAt.tuple_list hb pl.isList (by omega)
  | tup n e h =>
    cases r
    exact eq_pair_tup I hu hb (.inl (.inl e)) h
  | frz fn n e h =>
    cases r
    exact eq_pair_tup I hu hb (.inl (.inr ⟨_, e⟩)) h
  | dct n e =>
    cases r
    obtain ⟨o, m, h1, h2, h3, _⟩ := dq_dict I e
    exact eq_tuple_dict hb h1 h2 h3 (by omega)
end
/-- the thing is among the texts -/
def inT (zs : List Str) (d : PyData) : Bool := zs.any fun z => isT z d
/-- the thing is among the pairs -/
def inPs (ps : List (Str × Str)) (d : PyData) : Bool := ps.any fun p => isP p d
open Classical in
/-- what == tells of an item, by what the item is -/
noncomputable def tells {α : Type} (R : Value → α → Prop) (f : α → Bool) (y : Value) : Bool := if h : ∃ a, R y a then f h.choose else false
theorem tells_is {α : Type} {R : Value → α → Prop} {f : α → Bool} {y : Value} {a : α} (h : R y a) (u : ∀ b, R y b → f b = f a) : tells R f y = f a := by
  have e : ∃ a, R y a := ⟨a, h⟩
  unfold tells
  rw [dif_pos e]
  exact u _ e.choose_spec
inductive EachI {α : Type} (R : Value → α → Prop) : List Value → List α → Prop
  | nil : EachI R [] []
  | cons {y : Value} {a : α} {us : List Value} {as : List α} : R y a → EachI R us as → EachI R (y :: us) (a :: as)
/-- a text's value -/
def ValT (y : Value) (z : Str) : Prop := ∃ k, y = .str z k
theorem valT_one {y : Value} {z z' : Str} (h : ValT y z) (k : ValT y z') : z = z' := by
  obtain ⟨a, rfl⟩ := h
  obtain ⟨b, e⟩ := k
  cases e
  rfl
theorem valsT : ∀ {zs : List Str} {us : List Value}, Vals (zs.map V.str) us → EachI ValT us zs
  | [], _, .nil => .nil
  | _ :: _, _, .cons r t => .cons r (valsT t)
def ValP (h : Heap) (y : Value) (p : Str × Str) : Prop := ∃ b k1 k2, y = .ref b ∧ h.IsTuple b #[.str p.1 k1, .str p.2 k2]
theorem valP_one {h : Heap} {y : Value} {p q : Str × Str} (a : ValP h y p) (b : ValP h y q) : p = q := by
  obtain ⟨c, k1, k2, rfl, o, h1, _, n, d1⟩ := a
  obtain ⟨c', l1, l2, e, o', h2, _, n', d2⟩ := b
  cases e
  rw [h1] at h2
  cases h2
  rw [d1] at d2
  simp at d2
  exact Prod.ext d2.1.1.1 d2.1.2.1
theorem any_tells {α : Type} {R : Value → α → Prop} {f : α → Bool} (one : ∀ y a b, R y a → R y b → a = b) : ∀ {us : List Value} {as : List α}, EachI R us as → us.any (tells R f) = as.any f
  | _, _, .nil => rfl
  | _, _, .cons h t => by
    rw [List.any_cons, List.any_cons, any_tells one t, tells_is h fun b hb => by rw [one _ _ _ h hb]]
theorem each_get {α : Type} {R : Value → α → Prop} : ∀ {us : List Value} {as : List α} {y : Value}, EachI R us as → y ∈ us → ∃ a, R y a
  | _, _, _, .nil, m => by cases m
  | _, _, _, .cons h t, m => by
    rcases List.mem_cons.mp m with rfl | m
    · exact ⟨_, h⟩
    · exact each_get t m
section
variable {X : Cx} {pins : List (Addr × Obj)} {σ : L2.St} {H : Hp} {s : Shared}
theorem valsP (I : Inv X pins σ H s) : ∀ {ps : List (Str × Str)} {xs : List V} {us : List Value}, NkAll H xs (ps.map fun p => NestedKey.tup [.text p.1, .text p.2]) → Vals xs us → EachI (ValP s.heap) us ps
  | [], _, _, .nil, .nil => .nil
  | p :: ps, _, _, .cons n h, .cons r1 r2 => by
    refine .cons ?_ (valsP I h r2)
    cases n with
    | @tup q xs _ e hk =>
      cases hk with
      | cons n1 hk =>
        cases n1
        cases hk with
        | cons n2 hk =>
          cases n2
          cases hk
          cases r1
          obtain ⟨us, rv, pl, _⟩ := I.tuple (.inl (.inl e))
          cases rv with
          | cons q1 rv =>
            cases rv with
            | cons q2 rv =>
              cases rv
              obtain ⟨k1, rfl⟩ := q1
              obtain ⟨k2, rfl⟩ := q2
              exact ⟨q, k1, k2, rfl, pl⟩
end
/-! ### the rules -/
def rInQT (K : PySem.W.Frag) (neg : Bool) : R2 := fun x y H Q => ∃ (fz : Bool) (t p : Addr) (zs : List Str) (d : PyData), y = .ref p ∧ (SqL K H p (zs.map V.str) ∨ SqT K H p (zs.map V.str)) ∧ Dq fz t H x d ∧ Q (.bl (if neg then !inT zs d else inT zs d)) H
def rInQP (K : PySem.W.Frag) (neg : Bool) : R2 := fun x y H Q => ∃ (fz : Bool) (t p : Addr) (xs : List V) (ps : List (Str × Str)) (d : PyData), y = .ref p ∧ (SqL K H p xs ∨ SqT K H p xs) ∧ NkAll H xs (ps.map fun p => NestedKey.tup [.text p.1, .text p.2]) ∧ Dq fz t H x d ∧ Q (.bl (if neg then !inPs ps d else inPs ps d)) H
def rInTQ (K : PySem.W.Frag) (neg : Bool) : R2 := fun x y H Q => ∃ (fz : Bool) (t p : Addr) (z : Str) (xs : List V) (ds : List PyData), x = .str z ∧ y = .ref p ∧ (SqL K H p xs ∨ SqT K H p xs) ∧ DqAll fz t H xs ds ∧ Q (.bl (if neg then !(ds.any fun d => isT z d) else ds.any fun d => isT z d)) H
section
variable {X : Cx}
theorem op_inQT (hu : X.A.units + 64 < cLine) : OpR X (compareOp .In) (rInQT X.K false) := by
  intro pins s σ H x y v u Q I rx ry h
  obtain ⟨fz, t, p, zs, d, rfl, hq, hx, q⟩ := h
  cases ry
  have each {us : List Value} (r : Vals (zs.map V.str) us) : us.any (tells ValT fun z => isT z d) = inT zs d ∧ ∀ y ∈ us, EqAt X.A.in1 s y v (tells ValT (fun z => isT z d) y) := by
    refine ⟨any_tells (R := ValT) (fun y a b => valT_one) (valsT r), fun y hy => ?_⟩
    obtain ⟨z, hz⟩ := each_get (valsT r) hy
    rw [tells_is hz fun b hb => by rw [valT_one hz hb]]
    obtain ⟨k, rfl⟩ := hz
    exact eq_text I hx rx (by show X.A.units + 1 < cLine; omega) z k
  rcases hq with hq | hq
  · obtain ⟨its, r, pl, _⟩ := I.list hq
    obtain ⟨e1, e2⟩ := each r
    refine in_listAt (tells ValT fun z => isT z d) pl.isList (fun y hy => e2 y (by simpa using hy)) ⟨.bl _, H, I, rfl, ?_⟩
    rw [show its.toArray.any (tells ValT fun z => isT z d) = its.any (tells ValT fun z => isT z d) by simp, e1]
    exact q
  · obtain ⟨its, r, pl, _⟩ := I.tuple hq
    obtain ⟨e1, e2⟩ := each r
    refine in_tupleAt (tells ValT fun z => isT z d) pl (fun y hy => e2 y (by simpa using hy)) ⟨.bl _, H, I, rfl, ?_⟩
    rw [show its.toArray.any (tells ValT fun z => isT z d) = its.any (tells ValT fun z => isT z d) by simp, e1]
    exact q
theorem op_notInQT (hu : X.A.units + 64 < cLine) : OpR X (compareOp .NotIn) (rInQT X.K true) := by
  intro pins s σ H x y v u Q I rx ry h
  obtain ⟨fz, t, p, zs, d, rfl, hq, hx, q⟩ := h
  cases ry
  have each {us : List Value} (r : Vals (zs.map V.str) us) : us.any (tells ValT fun z => isT z d) = inT zs d ∧ ∀ y ∈ us, EqAt X.A.in1 s y v (tells ValT (fun z => isT z d) y) := by
    refine ⟨any_tells (R := ValT) (fun y a b => valT_one) (valsT r), fun y hy => ?_⟩
    obtain ⟨z, hz⟩ := each_get (valsT r) hy
    rw [tells_is hz fun b hb => by rw [valT_one hz hb]]
    obtain ⟨k, rfl⟩ := hz
    exact eq_text I hx rx (by show X.A.units + 1 < cLine; omega) z k
  rcases hq with hq | hq
  · obtain ⟨its, r, pl, _⟩ := I.list hq
    obtain ⟨e1, e2⟩ := each r
    refine notIn_listAt (tells ValT fun z => isT z d) pl.isList (fun y hy => e2 y (by simpa using hy)) ⟨.bl _, H, I, rfl, ?_⟩
    rw [show its.toArray.any (tells ValT fun z => isT z d) = its.any (tells ValT fun z => isT z d) by simp, e1]
    exact q
  · obtain ⟨its, r, pl, _⟩ := I.tuple hq
    obtain ⟨e1, e2⟩ := each r
    refine notIn_tupleAt (tells ValT fun z => isT z d) pl (fun y hy => e2 y (by simpa using hy)) ⟨.bl _, H, I, rfl, ?_⟩
    rw [show its.toArray.any (tells ValT fun z => isT z d) = its.any (tells ValT fun z => isT z d) by simp, e1]
    exact q
theorem op_inQP (hu : X.A.units + 64 < cLine) : OpR X (compareOp .In) (rInQP X.K false) := by
  intro pins s σ H x y v u Q I rx ry h
  obtain ⟨fz, t, p, xs, ps, d, rfl, hq, nk, hx, q⟩ := h
  cases ry
  have each {us : List Value} (r : Vals xs us) : us.any (tells (ValP s.heap) fun z => isP z d) = inPs ps d ∧ ∀ y ∈ us, EqAt X.A.in1 s y v (tells (ValP s.heap) (fun z => isP z d) y) := by
    refine ⟨any_tells (R := ValP s.heap) (fun y a b => valP_one) (valsP I nk r), fun y hy => ?_⟩
    obtain ⟨z, hz⟩ := each_get (valsP I nk r) hy
    rw [tells_is hz fun b hb => by rw [valP_one hz hb]]
    obtain ⟨b, k1, k2, rfl, hb⟩ := hz
    exact eq_pair I hx rx (by show X.A.units + 1 + 1 < cLine; omega) hb
  rcases hq with hq | hq
  · obtain ⟨its, r, pl, _⟩ := I.list hq
    obtain ⟨e1, e2⟩ := each r
    refine in_listAt (tells (ValP s.heap) fun z => isP z d) pl.isList (fun y hy => e2 y (by simpa using hy)) ⟨.bl _, H, I, rfl, ?_⟩
    rw [show its.toArray.any (tells (ValP s.heap) fun z => isP z d) = its.any (tells (ValP s.heap) fun z => isP z d) by simp, e1]
    exact q
  · obtain ⟨its, r, pl, _⟩ := I.tuple hq
    obtain ⟨e1, e2⟩ := each r
    refine in_tupleAt (tells (ValP s.heap) fun z => isP z d) pl (fun y hy => e2 y (by simpa using hy)) ⟨.bl _, H, I, rfl, ?_⟩
    rw [show its.toArray.any (tells (ValP s.heap) fun z => isP z d) = its.any (tells (ValP s.heap) fun z => isP z d) by simp, e1]
    exact q
theorem op_notInQP (hu : X.A.units + 64 < cLine) : OpR X (compareOp .NotIn) (rInQP X.K true) := by
  intro pins s σ H x y v u Q I rx ry h
  obtain ⟨fz, t, p, xs, ps, d, rfl, hq, nk, hx, q⟩ := h
  cases ry
  have each {us : List Value} (r : Vals xs us) : us.any (tells (ValP s.heap) fun z => isP z d) = inPs ps d ∧ ∀ y ∈ us, EqAt X.A.in1 s y v (tells (ValP s.heap) (fun z => isP z d) y) := by
    refine ⟨any_tells (R := ValP s.heap) (fun y a b => valP_one) (valsP I nk r), fun y hy => ?_⟩
    obtain ⟨z, hz⟩ := each_get (valsP I nk r) hy
    rw [tells_is hz fun b hb => by rw [valP_one hz hb]]
    obtain ⟨b, k1, k2, rfl, hb⟩ := hz
    exact eq_pair I hx rx (by show X.A.units + 1 + 1 < cLine; omega) hb
  rcases hq with hq | hq
  · obtain ⟨its, r, pl, _⟩ := I.list hq
    obtain ⟨e1, e2⟩ := each r
    refine notIn_listAt (tells (ValP s.heap) fun z => isP z d) pl.isList (fun y hy => e2 y (by simpa using hy)) ⟨.bl _, H, I, rfl, ?_⟩
    rw [show its.toArray.any (tells (ValP s.heap) fun z => isP z d) = its.any (tells (ValP s.heap) fun z => isP z d) by simp, e1]
    exact q
  · obtain ⟨its, r, pl, _⟩ := I.tuple hq
    obtain ⟨e1, e2⟩ := each r
    refine notIn_tupleAt (tells (ValP s.heap) fun z => isP z d) pl (fun y hy => e2 y (by simpa using hy)) ⟨.bl _, H, I, rfl, ?_⟩
    rw [show its.toArray.any (tells (ValP s.heap) fun z => isP z d) = its.any (tells (ValP s.heap) fun z => isP z d) by simp, e1]
    exact q
end
end My

set_option Elab.async false
set_option linter.all false
set_option maxRecDepth 100000
set_option maxHeartbeats 4000000
/-! Things of plain texts and numbers of at most sixty figures: how long their text is. -/
namespace My
open PySem PySem.Spec PyProof.Rows L2
theorem log_60 {i : Int} (h : i.natAbs < 10 ^ 60) : i.natAbs.log2 < 1920 := by
  by_cases z : i.natAbs = 0
  · rw [z]; decide
  · exact Nat.lt_of_lt_of_le ((Nat.log2_lt z).mpr (Nat.lt_trans h (show 10 ^ 60 < 2 ^ 200 by decide))) (by decide)
theorem text_60 {i : Int} (h : i.natAbs < 10 ^ 60) : (PyData.shown (.int i)).length ≤ 61 := by
  show (Str.ofString (toString i)).length ≤ 61
  rw [PySem.ofString_length]
  exact int_text_length_le10 (k := 60) (by decide) h
mutual
def ShT (B : Nat) : PyData → Prop
  | .none => True
  | .bool _ => True
  | .int i => i.natAbs ≤ B
  | .str x => Plain x
  | .list xs => ShTs B xs
  | .tuple xs => ShTs B xs
  | .dict _ => False
def ShTs (B : Nat) : List PyData → Prop
  | [] => True
  | x :: xs => ShT B x ∧ ShTs B xs
end
mutual
def tl : PyData → Nat
  | .none => 4
  | .bool _ => 5
  | .int _ => 70
  | .str x => 10 * x.length + 4
  | .list xs => tls xs + 3
  | .tuple xs => tls xs + 3
  | .dict _ => 0
def tls : List PyData → Nat
  | [] => 0
  | x :: xs => tl x + 2 + tls xs
end
theorem shts_mem : ∀ {ds : List PyData}, ShTs B ds ↔ ∀ d ∈ ds, ShT B d
  | [] => ⟨fun _ d h => (by cases h), fun _ => trivial⟩
  | x :: xs => by
    rw [ShTs, shts_mem (ds := xs)]
    exact ⟨fun h d hd => (List.mem_cons.mp hd).elim (fun e => by rw [e]; exact h.1) (h.2 d), fun h => ⟨h x (.head _), fun d hd => h d (.tail _ hd)⟩⟩
theorem tls_app : ∀ {ds es : List PyData}, tls (ds ++ es) = tls ds + tls es
  | [], _ => by rw [List.nil_append, tls]; omega
  | x :: xs, es => by
    rw [List.cons_append, tls, tls, tls_app (ds := xs)]
    omega
theorem tls_drop : ∀ {ds : List PyData} (i : Nat), tls (ds.drop i) ≤ tls ds
  | _, 0 => Nat.le_refl _
  | [], _ + 1 => by rw [List.drop_nil]; exact Nat.le_refl _
  | x :: xs, i + 1 => by
    rw [List.drop_succ_cons, tls]
    have := tls_drop (ds := xs) i
    omega
theorem tls_take : ∀ {ds : List PyData} (i : Nat), tls (ds.take i) ≤ tls ds
  | _, 0 => by rw [List.take_zero, tls]; exact Nat.zero_le _
  | [], _ + 1 => by rw [List.take_nil]; exact Nat.le_refl _
  | x :: xs, i + 1 => by
    rw [List.take_succ_cons, tls, tls]
    have := tls_take (ds := xs) i
    omega
theorem tls_mem {d : PyData} : ∀ {ds : List PyData}, d ∈ ds → tl d + 2 ≤ tls ds
  | x :: xs, h => by
    rw [tls]
    rcases List.mem_cons.mp h with rfl | h
    · omega
    · have := tls_mem h
      omega
theorem tls_len : ∀ {ds : List PyData}, ds.length ≤ tls ds
  | [] => Nat.zero_le _
  | x :: xs => by
    have := tls_len (ds := xs)
    rw [tls, List.length_cons]
    omega
mutual
theorem sht_ok (hB : B < 10 ^ 60) : ∀ {d : PyData}, ShT B d → d.showable = true ∧ d.shown.length ≤ tl d
  | .none, _ => ⟨rfl, by decide +kernel⟩
  | .bool b, _ => ⟨rfl, by cases b <;> decide +kernel⟩
  | .int i, h => ⟨decide_eq_true (log_60 (Nat.lt_of_le_of_lt h hB)), Nat.le_trans (text_60 (Nat.lt_of_le_of_lt h hB)) (show 61 ≤ 70 by decide)⟩
  | .str x, h => ⟨rfl, Nat.le_trans (StrLaws.reprText_len x fun c hc => Nat.lt_trans (h.2 c hc) (by decide)) (Nat.add_le_add_left (by decide) _)⟩
  | .list xs, h => by
    obtain ⟨a, c⟩ := shts_ok hB (xs := xs) h
    refine ⟨by rw [PyData.showable]; exact a, ?_⟩
    rw [PyData.shown, tl]
    exact Nat.le_trans (listText_len_le _) (by omega)
  | .tuple xs, h => by
    obtain ⟨a, c⟩ := shts_ok hB (xs := xs) h
    refine ⟨by rw [PyData.showable]; exact a, ?_⟩
    rw [PyData.shown, tl]
    exact Nat.le_trans (tupleText_len_le _) (by omega)
  | .dict xs, h => h.elim
theorem shts_ok (hB : B < 10 ^ 60) : ∀ {xs : List PyData}, ShTs B xs → PyData.showableAll xs = true ∧ ((PyData.shownAll xs).map (·.length)).sum + 2 * (PyData.shownAll xs).length ≤ tls xs
  | [], _ => ⟨rfl, Nat.le_refl _⟩
  | x :: xs, h => by
    obtain ⟨a1, c1⟩ := sht_ok hB h.1
    obtain ⟨a2, c2⟩ := shts_ok hB h.2
    refine ⟨by rw [PyData.showableAll, a1, a2]; rfl, ?_⟩
    rw [PyData.shownAll, tls, List.map_cons, List.sum_cons, List.length_cons]
    omega
end
/-- the data of a thing that can be shown, of so much weight, so deep -/
structure FitT (B : Nat) (d : PyData) (m n : Nat) : Prop where
  sh : ShT B d
  tl : tl d ≤ m
  dp : d.depth ≤ n
theorem FitT.mono {d : PyData} {m n m' n' : Nat} (h : FitT B d m n) (a : m ≤ m') (b : n ≤ n') : FitT B d m' n' := ⟨h.sh, Nat.le_trans h.tl a, Nat.le_trans h.dp b⟩
/-- many of them, all within so much weight, so deep -/
structure FitTs (B : Nat) (ds : List PyData) (m n : Nat) : Prop where
  sh : ShTs B ds
  tl : tls ds ≤ m
  dp : PyData.depthAll ds ≤ n
theorem fitT_nil {n : Nat} : FitTs B [] 0 n := ⟨trivial, Nat.le_refl _, by rw [PyData.depthAll]; exact Nat.zero_le _⟩
theorem depths_appT : ∀ {ds es : List PyData}, PyData.depthAll (ds ++ es) = max (PyData.depthAll ds) (PyData.depthAll es)
  | [], es => by rw [List.nil_append, show PyData.depthAll [] = 0 by rw [PyData.depthAll]]; omega
  | d :: ds, es => by
    rw [List.cons_append, PyData.depthAll, PyData.depthAll, depths_appT (ds := ds)]
    omega
theorem FitTs.app {ds es : List PyData} {m k n : Nat} (h : FitTs B ds m n) (g : FitTs B es k n) : FitTs B (ds ++ es) (m + k) n :=
  ⟨shts_mem.mpr fun d hd => (List.mem_append.mp hd).elim (shts_mem.mp h.sh d) (shts_mem.mp g.sh d), by rw [tls_app]; exact Nat.add_le_add h.tl g.tl, by rw [depths_appT]; exact Nat.max_le.mpr ⟨h.dp, g.dp⟩⟩
theorem FitTs.drop {ds : List PyData} {m n : Nat} (h : FitTs B ds m n) (i : Nat) : FitTs B (ds.drop i) m n :=
  ⟨shts_mem.mpr fun d hd => shts_mem.mp h.sh d (List.mem_of_mem_drop hd), Nat.le_trans (tls_drop i) h.tl, depths_le fun d hd => Nat.le_trans (depths_mem (List.mem_of_mem_drop hd)) h.dp⟩
theorem FitTs.take {ds : List PyData} {m n : Nat} (h : FitTs B ds m n) (i : Nat) : FitTs B (ds.take i) m n :=
  ⟨shts_mem.mpr fun d hd => shts_mem.mp h.sh d (List.mem_of_mem_take hd), Nat.le_trans (tls_take i) h.tl, depths_le fun d hd => Nat.le_trans (depths_mem (List.mem_of_mem_take hd)) h.dp⟩
theorem FitTs.mem {ds : List PyData} {m n : Nat} {d : PyData} (h : FitTs B ds m n) (hd : d ∈ ds) : FitT B d m n :=
  ⟨shts_mem.mp h.sh d hd, by have := tls_mem hd; have := h.tl; omega, Nat.le_trans (depths_mem hd) h.dp⟩
theorem FitT.one {d : PyData} {m n : Nat} (h : FitT B d m n) : FitTs B [d] (m + 2) n :=
  ⟨⟨h.sh, trivial⟩, by rw [tls, tls]; have := h.tl; omega, by rw [PyData.depthAll, PyData.depthAll]; have := h.dp; omega⟩
theorem FitTs.tup {ds : List PyData} {m n : Nat} (h : FitTs B ds m n) : FitT B (.tuple ds) (m + 3) (n + 1) := ⟨h.sh, by rw [My.tl]; have := h.tl; omega, by rw [PyData.depth]; have := h.dp; omega⟩
theorem FitTs.lst {ds : List PyData} {m n : Nat} (h : FitTs B ds m n) : FitT B (.list ds) (m + 3) (n + 1) := ⟨h.sh, by rw [My.tl]; have := h.tl; omega, by rw [PyData.depth]; have := h.dp; omega⟩
theorem FitT.items {ds : List PyData} {m n : Nat} (h : FitT B (.tuple ds) m n) : ∃ k, m = k + 3 ∧ FitTs B ds k (n - 1) ∧ 1 ≤ n := by
  have a := h.tl
  have b := h.dp
  rw [My.tl] at a
  rw [PyData.depth] at b
  exact ⟨m - 3, by omega, ⟨h.sh, by omega, by omega⟩, by omega⟩
theorem FitTs.mono {ds : List PyData} {m n m' n' : Nat} (h : FitTs B ds m n) (a : m ≤ m') (b : n ≤ n') : FitTs B ds m' n' := ⟨h.sh, Nat.le_trans h.tl a, Nat.le_trans h.dp b⟩
mutual
theorem sht_sh (hB : B < 10 ^ 60) : ∀ {d : PyData}, ShT B d → ShQ d
  | .none, _ => trivial
  | .bool _, _ => trivial
  | .int i, h => log_60 (Nat.lt_of_le_of_lt h hB)
  | .str x, h => fun c hc => Nat.lt_trans (h.2 c hc) (by decide)
  | .list xs, h => shts_sh hB (xs := xs) h
  | .tuple xs, h => shts_sh hB (xs := xs) h
  | .dict xs, h => h.elim
theorem shts_sh (hB : B < 10 ^ 60) : ∀ {xs : List PyData}, ShTs B xs → ShQs xs
  | [], _ => trivial
  | x :: xs, h => ⟨sht_sh hB h.1, shts_sh hB h.2⟩
end
section
variable {X : Cx} {k : Nat} {fz : Bool} {t : Addr}
/-- repr of a thing, bounded by its text -/
theorem call_reprT (gd : X.A.guards = some []) (hr : Room k X.A) : CallR X (.builtin "repr") (fun xs H Q => ∃ fz t v d B, B < 10 ^ 60 ∧ xs = [v] ∧ Dq fz t H v d ∧ ShT B d ∧ d.depth ≤ 50 ∧ tl d ≤ sizeLine ∧ Q (.str d.shown) H) := by
  intro pins s σ H xs us Q I r h
  obtain ⟨fz, t, v, d, B, hB, rfl, dq, sh, deep, few, q⟩ := h
  obtain ⟨u, rfl, ru⟩ := vals1 r
  obtain ⟨a, c⟩ := sht_ok hB sh
  have fits : tl d ≤ sizeLine := few
  have hz := Nat.le_trans c fits
  have hu := hr.un
  have turn : ∀ h' u tk, (∀ b o, s.heap.get? b = some o → h'.get? b = some o) → EP X pins σ Q (.str d.shown u) { s with heap := h', toks := tk } := fun h' u tk kp => ⟨.str _, H, I.turnedL (ch := []) (h' := h') (t' := tk) (fun b o _ e => kp b o e) (fun b hb => by cases hb), ⟨_, rfl⟩, q⟩
  cases dq with
  | non => cases ru; exact PySem.P.repr_of_none ⟨.str _, H, I.tok _, ⟨_, rfl⟩, q⟩
  | bl x => cases ru; exact PySem.P.repr_of_bool ⟨.str _, H, I.tok _, ⟨_, rfl⟩, q⟩
  | int i =>
    obtain ⟨tt, rfl⟩ := ru
    exact PySem.P.repr_of_int (log_60 (Nat.lt_of_le_of_lt sh hB)) ⟨.str _, H, I.tok _, ⟨_, rfl⟩, q⟩
  | str x =>
    obtain ⟨tt, rfl⟩ := ru
    exact PySem.P.repr_of_str ⟨.str _, H, I.tok _, ⟨_, rfl⟩, q⟩ hz
  | @lst p vs ds n e h =>
    cases ru
    obtain ⟨as, rd⟩ := dq_reads (u := .ref _) I (Dq.lst n e h) rfl
    obtain ⟨o, us, m, h1, h2, h3, rv⟩ := dq_list I e
    obtain ⟨bs, b1, b2⟩ := dq_showsAll I h rv (by simpa [PyData.showable] using a) fun x hx => Nat.le_trans (listText_mem_le hx) (by simpa only [PyData.shown] using hz)
    have lt : PyData.depthAll ds < (PyData.list ds).depth := by simp only [PyData.depth]; omega
    have out := not_mem_of_deeper rd lt b1
    refine call_repr_slot (by omega) ⟨o, h1, h2⟩ F.slot_list_repr.toG ?_
    have turn2 : ∀ h' u tk, (∀ b o, s.heap.get? b = some o → h'.get? b = some o) → ∃ x z, Value.str (PyData.list ds).shown u = .str x z ∧ EP X pins σ Q (.str (PyData.list ds).shown u) { s with heap := h', toks := tk } := fun h' u tk kp => ⟨_, _, rfl, turn h' u tk kp⟩
    simp only [PyData.shown] at turn2 hz
    cases us with
    | nil =>
      cases rv
      cases h
      simp only [PyData.shownAll, listText_nil] at turn2
      exact call_list_repr_empty ⟨o, h1, h2⟩ h1 h3 (turn2 s.heap _ _ fun _ _ e => e)
    | cons x l => exact call_list_reprK h1 h2 h3 out (by simpa using b2.length_eq) (fun i y q => b2.item i y (by simpa using q)) gd (fun b _ => Clear.nil b) (by simp only [PyData.depth] at deep; show X.A.units + 1 + _ < _; omega) (fun _ _ e => e) turn2 hz
  | @tup p vs ds n e h =>
    cases ru
    obtain ⟨as, rd⟩ := dq_reads (u := .ref _) I (Dq.tup n e h) rfl
    obtain ⟨o, us, m, h1, h2, h3, rv⟩ := dq_tuple I (.inl (.inl e))
    obtain ⟨bs, b1, b2⟩ := dq_showsAll I h rv (by simpa [PyData.showable] using a) fun x hx => Nat.le_trans (tupleText_mem_le hx) (by simpa only [PyData.shown] using hz)
    have lt : PyData.depthAll ds < (PyData.tuple ds).depth := by simp only [PyData.depth]; omega
    refine call_repr_slot (by omega) ⟨o, h1, h2⟩ F.slot_tuple_repr ?_
    have turn2 : ∀ h' u tk, (∀ b o, s.heap.get? b = some o → h'.get? b = some o) → ∃ x z, Value.str (PyData.tuple ds).shown u = .str x z ∧ EP X pins σ Q (.str (PyData.tuple ds).shown u) { s with heap := h', toks := tk } := fun h' u tk kp => ⟨_, _, rfl, turn h' u tk kp⟩
    simp only [PyData.shown] at turn2 hz
    exact call_tuple_reprK h1 h2 h3 (not_mem_of_deeper rd lt b1) b2 gd (fun b _ => Clear.nil b) (by simp only [PyData.depth] at deep; show X.A.units + 1 + _ < _; omega) (fun _ _ e => e) turn2 hz
  | @frz p o' vs ds fn n e h =>
    cases ru
    obtain ⟨as, rd⟩ := dq_reads (u := .ref _) I (Dq.frz fn n e h) rfl
    obtain ⟨o, us, m, h1, h2, h3, rv⟩ := dq_tuple I (.inl (.inr ⟨_, e⟩))
    obtain ⟨bs, b1, b2⟩ := dq_showsAll I h rv (by simpa [PyData.showable] using a) fun x hx => Nat.le_trans (tupleText_mem_le hx) (by simpa only [PyData.shown] using hz)
    have lt : PyData.depthAll ds < (PyData.tuple ds).depth := by simp only [PyData.depth]; omega
    refine call_repr_slot (by omega) ⟨o, h1, h2⟩ F.slot_tuple_repr ?_
    have turn2 : ∀ h' u tk, (∀ b o, s.heap.get? b = some o → h'.get? b = some o) → ∃ x z, Value.str (PyData.tuple ds).shown u = .str x z ∧ EP X pins σ Q (.str (PyData.tuple ds).shown u) { s with heap := h', toks := tk } := fun h' u tk kp => ⟨_, _, rfl, turn h' u tk kp⟩
    simp only [PyData.shown] at turn2 hz
    exact call_tuple_reprK h1 h2 h3 (not_mem_of_deeper rd lt b1) b2 gd (fun b _ => Clear.nil b) (by simp only [PyData.depth] at deep; show X.A.units + 1 + _ < _; omega) (fun _ _ e => e) turn2 hz
  | @dct p n e => exact sh.elim
end
mutual
theorem ShT.mono {B C : Nat} (le : B ≤ C) : ∀ {d : PyData}, ShT B d → ShT C d
  | .none, _ => trivial
  | .bool _, _ => trivial
  | .int i, h => Nat.le_trans h le
  | .str x, h => h
  | .list xs, h => ShTs.mono le (xs := xs) h
  | .tuple xs, h => ShTs.mono le (xs := xs) h
  | .dict xs, h => h.elim
theorem ShTs.mono {B C : Nat} (le : B ≤ C) : ∀ {xs : List PyData}, ShTs B xs → ShTs C xs
  | [], _ => trivial
  | x :: xs, h => ⟨ShT.mono le h.1, ShTs.mono le h.2⟩
end
theorem FitT.up {B C : Nat} {d : PyData} {m n : Nat} (h : FitT B d m n) (le : B ≤ C) : FitT C d m n := ⟨h.sh.mono le, h.tl, h.dp⟩
theorem FitTs.up {B C : Nat} {ds : List PyData} {m n : Nat} (h : FitTs B ds m n) (le : B ≤ C) : FitTs C ds m n := ⟨h.sh.mono le, h.tl, h.dp⟩
end My

set_option Elab.async false
set_option linter.all false
set_option maxRecDepth 100000
/-! One rule of two: a place of a list or of a tuple, < of numbers or of texts. -/
namespace My
open PySem PySem.Spec PyProof.Rows L2
variable {X : Cx}
theorem op_or {f : Value → Value → Sem Value} {r1 r2 : R2} (h1 : OpR X f r1) (h2 : OpR X f r2) : OpR X f (fun x y H Q => r1 x y H Q ∨ r2 x y H Q) := fun pins s σ H x y v u Q I rx ry h =>
  h.elim (h1 pins s σ H x y v u Q I rx ry) (h2 pins s σ H x y v u Q I rx ry)
theorem ix_or {r1 r2 : R2} (h1 : IxR X r1) (h2 : IxR X r2) : IxR X (fun x y H Q => r1 x y H Q ∨ r2 x y H Q) := fun e1 e2 pins s σ H x y v u Q I rx ry h =>
  h.elim (h1 e1 e2 pins s σ H x y v u Q I rx ry) (h2 e1 e2 pins s σ H x y v u Q I rx ry)
def rLtS : R2 := fun x y H Q => ∃ i j, x = .str i ∧ y = .str j ∧ Q (.bl (decide (i.cps.toList < j.cps.toList))) H
def rLtA : R2 := fun x y H Q => rI0 (fun i j => .bl (decide (i < j))) x y H Q ∨ rLtS x y H Q
theorem op_ltA : OpR X (compareOp .Lt) rLtA := op_or op_lt op_lt_str
def rIxA (K : PySem.W.Frag) : R2 := fun x y H Q => rIxL K x y H Q ∨ rIxT K x y H Q
theorem ix_any : IxR X (rIxA X.K) := ix_or ix_list ix_tup
end My

set_option Elab.async false
set_option linter.all false
set_option maxRecDepth 100000
set_option maxHeartbeats 2000000
/-! zip(text, tuple) as what is walked -/
namespace My
open PySem PySem.Spec PyProof.Rows L2
/-- the signs of a text and the tuple at b as it stands at each turn, in new pairs -/
def ItzS (K : PySem.W.Frag) (x : Str) (b : Addr) : It where
  go := fun i H => i < x.cps.size ∧ ∃ (ys : List V) (y : V), SqT K H b ys ∧ ys[i]? = some y
  yld := fun i H v H' => ∃ n c y, v = .ref n ∧ H n = none ∧ H' = upd H n (.tup [.str ⟨#[c]⟩, y]) ∧ x.cps[i]? = some c ∧ ∀ ys, SqT K H b ys → ys[i]? = some y
  stop := fun i H => ∃ ys : List V, SqT K H b ys ∧ (i ≤ x.cps.size ∧ i ≤ ys.length) ∧ (i = x.cps.size ∨ i = ys.length)
theorem walk_zipS {K : PySem.W.Frag} {x : Str} {b : Addr} {ys : List V} {n : Nat} (hn : n = min x.cps.size ys.length) :
    Walk (ItzS K x b) n (fun H => SqT K H b ys) (YPair (fun i => x.cps[i]?.map fun c => V.str ⟨#[c]⟩) (fun i => ys[i]?)) where
  goes := fun i H hi q => ⟨by omega, ys, ys[i]'(by omega), q, List.getElem?_eq_getElem _⟩
  stops := fun H q => ⟨ys, q, ⟨by omega, by omega⟩, by omega⟩
  yields := fun i H v H' hi q y => by
    obtain ⟨m, c, u, e1, e2, e3, e4, e5⟩ := y
    exact ⟨m, .str ⟨#[c]⟩, u, e1, e2, e3, by show Option.map _ x.cps[i]? = _; rw [e4]; rfl, e5 ys q⟩
theorem turn_zipS {P : Program} {w : World} {K : PySem.W.Frag} {elts : List Expr} {kk : Nat} {tpos : Pos} {x : Str} {t : Tok} {b z TI TO i1 i2 : Addr} (S : ZipSep2 z TI TO i1 i2 [i1] [i2, b]) (hbi : b ≠ i2) :
    Turn P w K (.Tuple elts kk tpos) (ItzS K x b) [z, TI, TO, i1, i2] z
      (fun i h => IsZip h z TI TO .none ∧ IsTupOf2 h TI (.ref i1) (.ref i2) ∧ (∃ u v, IsTupOf2 h TO u v) ∧ h.IsStrIter i1 (strIterType x) x t i ∧ h.IsTupleIter i2 b i) where
  mem := List.mem_cons_self
  obj := fun i h ⟨hz, hTI, ⟨u, v, hTO⟩, ⟨o1, e1, _, d1⟩, ⟨o2, e2, _, d2⟩⟩ c hc => by
    simp only [List.mem_cons, List.not_mem_nil, or_false] at hc
    rcases hc with rfl | rfl | rfl | rfl | rfl
    · exact ⟨_, hz, nofun⟩
    · exact ⟨_, hTI, nofun⟩
    · exact ⟨_, hTO, nofun⟩
    · exact ⟨o1, e1, fun _ q => by rw [d1] at q; cases q⟩
    · exact ⟨o2, e2, fun _ q => by rw [d2] at q; cases q⟩
  keep := fun i h h' ⟨hz, hTI, ⟨u, v, hTO⟩, ⟨o1, e1, r1⟩, ⟨o2, e2, r2⟩⟩ k =>
    ⟨k _ (by simp) _ hz, k _ (by simp) _ hTI, ⟨u, v, k _ (by simp) _ hTO⟩, ⟨o1, k _ (by simp) _ e1, r1⟩, ⟨o2, k _ (by simp) _ e2, r2⟩⟩
  item := by
    rintro X rfl rfl rfl hc i pins s σ H E I hf ⟨hz, hTI, ⟨u0, v0, hTO⟩, h1, h2⟩ ⟨hi, ys, y, hq, hy⟩
    obtain ⟨its, rv, pl, _⟩ := I.tuple hq
    obtain ⟨u, hu, ru⟩ := rv.get hy
    have hh : X.A.in1.handled = none := I.ok.hd hc
    have hi2 : i < its.toArray.size := by
      have := (List.getElem?_eq_some_iff.mp hu).1
      simpa using this
    have D1 := Draws.text (prog := X.prog) (w := X.w) (A := X.A.in1) hh i1 x t
    have D2 := Draws.tuple (prog := X.prog) (w := X.w) (A := X.A.in1) hh i2 b hbi its.toArray
    refine wpAny_pyNext_zipD2_item S D1 D2 hz hTI hTO h1 ⟨h2, pl⟩ hi hi2 fun x1 x2 h' tk y1 y2 z' TO' a1 a2 hT hsz hk => ?_
    obtain ⟨c, u1, hcx, rfl⟩ := y1
    have hx2 : x2 = u := by
      have y2 : its.toArray[i]? = some x2 := y2
      rw [List.getElem?_toArray, hu] at y2
      exact (Option.some.inj y2).symm
    subst hx2
    have zl := Heap.lt_size hz
    refine ⟨_, rfl, wpAny_letOwnedTupleGo_zip (s := { s with heap := h', toks := tk }) z' fun g gz sb => ?_⟩
    have gT : g.get? s.heap.objs.size = some ⟨.type "tuple", none, .seq #[.str ⟨#[c]⟩ u1, x2], #[]⟩ := by
      rw [sb.2 _ (Nat.ne_of_gt zl)]
      exact hT
    have kept : ∀ a o, a ∉ [z, TI, TO, i1, i2] → s.heap.get? a = some o → g.get? a = some o := fun a o ha e => by
      rw [sb.2 a fun q => ha (by simp [q])]
      exact hk a o (fun q => ha (by simp [q])) (fun q => ha (by simp [q])) (fun q => ha (by simp [q])) (fun q => ha (by simp [q])) e
    have I1 : L2.Inv X pins σ (upd H s.heap.objs.size (.tup [.str ⟨#[c]⟩, y])) { s with heap := g, toks := tk } :=
      I.turnedNew (t' := tk) (ch := [z, TI, TO, i1, i2]) kept hf (Nat.le_refl _) (show ObjOk _ _ _ _ _ (.tup _) from ⟨show 2 ≤ sizeLine by decide, _, .cons ⟨u1, rfl⟩ (.cons ru .nil), ⟨_, gT, rfl, _, rfl⟩⟩)
    have bl : ∀ a ∈ [z, TI, TO, i1, i2], a < s.heap.objs.size := fun a ha => by
      simp only [List.mem_cons, List.not_mem_nil, or_false] at ha
      rcases ha with rfl | rfl | rfl | rfl | rfl
      · exact zl
      · exact Heap.lt_size hTI
      · exact Heap.lt_size hTO
      · obtain ⟨_, e, _⟩ := h1; exact Heap.lt_size e
      · obtain ⟨_, e, _⟩ := h2; exact Heap.lt_size e
    refine ⟨.ref s.heap.objs.size, _, I1, rfl, ⟨_, c, y, rfl, I.hok.fresh (Nat.le_refl _), rfl, hcx, fun l hl => ?_⟩, ⟨gz, ?_, ⟨.str ⟨#[c]⟩ u1, x2, ?_⟩, ?_, ?_⟩, fun a ha => ?_⟩
    · rw [I.tuple_inj hl hq]; exact hy
    · rw [IsTupOf2, sb.2 _ S.TIz]
      exact hk _ _ S.TIz S.TITO S.TIi1 S.TIi2 hTI
    · rw [IsTupOf2, sb.2 _ S.TOz]
      exact TO'
    · obtain ⟨o, e, r⟩ := a1
      exact ⟨o, by rw [sb.2 _ S.zi1.symm]; exact e, r⟩
    · obtain ⟨o, e, r⟩ := a2.1
      exact ⟨o, by rw [sb.2 _ S.zi2.symm]; exact e, r⟩
    · rw [upd_ne (Nat.ne_of_lt (bl a ha))]
      exact (hf a ha).1
  done := by
    rintro X rfl rfl rfl hc i pins s σ H E I hf ⟨hz, hTI, ⟨u0, v0, hTO⟩, h1, h2⟩ ⟨ys, hq, ⟨le1, le2⟩, hend⟩
    obtain ⟨its, rv, pl, _⟩ := I.tuple hq
    have hh : X.A.in1.handled = none := I.ok.hd hc
    have el : its.toArray.size = ys.length := by rw [List.size_toArray, rv.length]
    have D1 := Draws.text (prog := X.prog) (w := X.w) (A := X.A.in1) hh i1 x t
    have D2 := Draws.tuple (prog := X.prog) (w := X.w) (A := X.A.in1) hh i2 b hbi its.toArray
    refine wpAny_pyNext_zipD2_end S D1 D2 hz hTI hTO h1 ⟨h2, pl⟩ le1 (by omega) (by omega) fun h' tk hk => ⟨rfl, ?_⟩
    refine I.turnedL (t' := tk) (ch := [z, TI, TO, i1, i2]) (fun a o ha e => ?_) hf
    exact hk a o (fun q => ha (by simp [q])) (fun q => ha (by simp [q])) (fun q => ha (by simp [q])) (fun q => ha (by simp [q])) e
  self := fun A i s Q E st h => wpAny_pyIter_zip st.1 h
def iZipS (K : PySem.W.Frag) (ta : TA) : TI := fun σ H R => ta σ H fun vs H1 => ∃ x b ys, vs = [.str x, .ref b] ∧ SqT K H1 b ys ∧ R (ItzS K x b) H1
theorem sep5 {n b : Nat} (h : b < n) : ZipSep2 (n + 4) (n + 2) (n + 3) n (n + 1) [n] [n + 1, b] where
  TIz := show ¬ (n + 2 : Nat) = n + 4 by omega
  TOz := show ¬ (n + 3 : Nat) = n + 4 by omega
  TITO := show ¬ (n + 2 : Nat) = n + 3 by omega
  TIi1 := show ¬ (n + 2 : Nat) = n by omega
  mem1 := List.mem_cons_self
  zf1 := fun z => by
    have z : (n + 4 : Nat) = n := List.mem_singleton.mp z
    omega
  Tf1 := fun z => by
    have z : (n + 3 : Nat) = n := List.mem_singleton.mp z
    omega
  TIi2 := show ¬ (n + 2 : Nat) = n + 1 by omega
  mem2 := List.mem_cons_self
  zf2 := fun z => by
    rcases List.mem_cons.mp z with z | z
    · have z : (n + 4 : Nat) = n + 1 := z
      omega
    · have z : (n + 4 : Nat) = b := List.mem_singleton.mp z
      omega
  Tf2 := fun z => by
    rcases List.mem_cons.mp z with z | z
    · have z : (n + 3 : Nat) = n + 1 := z
      omega
    · have z : (n + 3 : Nat) = b := List.mem_singleton.mp z
      omega
  sep1_2 := fun z => by
    rcases List.mem_cons.mp z with z | z
    · have z : (n : Nat) = n + 1 := z
      omega
    · have z : (n : Nat) = b := List.mem_singleton.mp z
      omega
  sep2_1 := fun z => by
    have z : (n + 1 : Nat) = n := List.mem_singleton.mp z
    omega
theorem pi_zipS {X : Cx} {e e2 : Expr} {ta : TA} {p pos tpos : Pos} {elts : List Expr} {kk : Nat} (hg : Gl X "zip") (hm : X.mg "zip" = none) (ha : PA X [e, e2] ta)
    (st1 : starEach [e, e2] X.env = (false, eval e X.env) :: starEach [e2] X.env := by rfl) (st2 : (backTo pos (starEach [e2] X.env)).any (·.1) = false := by rfl) :
    PI X (.Tuple elts kk tpos) (.Call (.Name "zip" p) [e, e2] [] pos) (iZipS X.K ta) where
  run := fun pins s σ H R I h => by
    refine Call_ (ld_blt I hg hm PyProof.Rows.boot_zip (PyProof.Rows.callWith_type1 (thn (ha.run pos pins s σ H _ I h) fun us s1 hus => ?_) st1 st2))
    obtain ⟨vs, H1, I1, r1, x, b, ys, rfl, hq, q⟩ := hus
    rcases r1 with _ | ⟨ra, _ | ⟨rb, rc⟩⟩
    cases rc
    obtain ⟨t, rfl⟩ := ra
    cases rb
    obtain ⟨its, rv, pl, _⟩ := I1.tuple hq
    have lb : b < s1.heap.objs.size := by obtain ⟨o, ho, _⟩ := id pl; exact Heap.lt_size ho
    refine zip_begins2 (begins_text x t) (begins_tuple b its.toArray) trivial pl fun h' hz hTI hTO g1 g2 hsz hk => wpAny_pyIter_zip hz ?_
    have I2 : L2.Inv X pins σ H1 { s1 with heap := h' } := I1.kept (t' := s1.toks) hk
    refine ⟨s1.heap.objs.size + 4, [s1.heap.objs.size + 4, s1.heap.objs.size + 2, s1.heap.objs.size + 3, s1.heap.objs.size, s1.heap.objs.size + 1], _, _, H1, rfl, I2, turn_zipS (x := x) (t := t) (sep5 lb) (Nat.ne_of_lt (Nat.lt_succ_of_lt lb)), ⟨hz, hTI, ⟨_, _, hTO⟩, ⟨_, g1, rfl, rfl⟩, ⟨_, g2, rfl, rfl⟩⟩, fun c hc => ?_, q⟩
    have le : s1.heap.objs.size ≤ c := by
      simp only [List.mem_cons, List.not_mem_nil, or_false] at hc
      rcases hc with e | e | e | e | e
      · exact e ▸ Nat.le_add_right _ _
      · exact e ▸ Nat.le_add_right _ _
      · exact e ▸ Nat.le_add_right _ _
      · exact e ▸ Nat.le_refl _
      · exact e ▸ Nat.le_add_right _ _
    exact I1.fpOk le (I1.hok.fresh le)
end My

set_option Elab.async false
set_option linter.all false
set_option maxRecDepth 100000
set_option maxHeartbeats 2000000
/-! x >= y of numbers, texts and tuples of these. -/
namespace My
open PySem PySem.Spec PyProof.Rows L2 PySem.SeqAt
section
open AutoSeq1 (wpAny_loadPart')
open MeetsSeq MeetsSeq2 MeetsSeq3 SeqRoads2
theorem tuple_geK (l b : Addr) (items items2 : Array Value) (n n2 : Nat) (dd dd2 : Option Addr) (sl sl2 : Array (Option Value)) (xs ys : List NestedKey) (k : Bool) :
    Meets (Builtin.«tuple.__ge__» ⟨[.ref l, .ref b], []⟩) (fun A R s => s.heap.get? l = some ⟨.type "tuple", dd, .seq items n, sl⟩ ∧ s.heap.get? b = some ⟨.type "tuple", dd2, .seq items2 n2, sl2⟩ ∧
      NsAll s.heap xs items.toList ∧ NsAll s.heap ys items2.toList ∧ ltAll xs ys = some k ∧
      (∀ x ∈ xs, ∀ y u v, Ns s.heap x u → Ns s.heap y v → EqAt A.in1 s u v (decide (x = y))) ∧
      (∀ x ∈ xs, ∀ y u v c, Ns s.heap x u → Ns s.heap y v → ltK x y = some c → RcOp .GtE A.in1 s u v (!c)) ∧ R (.ok (.ret (.bool (!k)))) s) := by
  refine .of_wp fun prog w A R s h => ?_
  obtain ⟨hp, g, d, tk, os⟩ := s
  obtain ⟨hl, hb, h1, h2, hk, heq, hlt, h⟩ := h
  have f2 := AutoSeq1.sub_tuple_tuple
  wp_walk using wpAny_loadPart' hl, wpAny_loadPart' hb, wpAny_forIn_list _ (fun rest c s' => c.1 = none ∧ s' = ⟨hp, g, d, tk, os⟩ ∧ ∃ xs' ys' us vs, rest = List.zip us vs ∧ NsAll hp xs' us ∧ NsAll hp ys' vs ∧ (∀ x ∈ xs', x ∈ xs) ∧
    ltAll xs' ys' = some k ∧ us.length + items2.size = vs.length + items.size) _
  case turn =>
    rintro ⟨u, v⟩ rest c s' ⟨hc, rfl, xs', ys', us, vs, hz, a1, a2, sub, hk', hn⟩
    cases a1 with
    | nil => simp at hz
    | @cons x _ xs2 us2 p1 q1 =>
      cases a2 with
      | nil => simp at hz
      | @cons y _ ys2 vs2 p2 q2 =>
        rw [List.zip_cons_cons] at hz
        cases hz
        refine wpAny_bind (heq x (sub x (.head _)) y _ _ p1 p2 prog w _ _ ?_)
        by_cases e : x = y
        · rw [ltAll, if_pos e] at hk'
          rw [decide_eq_true e]
          wp_walk
          exact ⟨rfl, rfl, xs2, ys2, us2, vs2, rfl, q1, q2, fun z hz => sub z (.tail _ hz), hk', by simp only [List.length_cons] at hn; omega⟩
        · rw [ltAll, if_neg e] at hk'
          rw [decide_eq_false e, if_pos (by decide)]
          dsimp only
          refine wpAny_bind (wpAny_rule ?_)
          refine wpAny_bind (hlt x (sub x (.head _)) y _ _ k p1 p2 hk' prog w _ _ ?_)
          wp_walk
          exact ⟨_, rfl, h⟩
  case fin =>
    rintro ⟨c1, c2⟩ s' ⟨hc, rfl, xs', ys', us, vs, hz, a1, a2, sub, hk', hn⟩
    simp only at hc
    subst hc
    have fin : decide (items.size ≥ items2.size) = !k := by
      cases a1 with
      | nil =>
        cases a2 with
        | nil =>
          rw [ltAll] at hk'
          cases hk'
          simp only [List.length_nil] at hn
          exact decide_eq_true (by omega)
        | cons _ _ =>
          rw [ltAll] at hk'
          cases hk'
          simp only [List.length_nil, List.length_cons] at hn
          exact decide_eq_false (by omega)
      | cons _ _ =>
        cases a2 with
        | nil =>
          rw [ltAll] at hk'
          cases hk'
          simp only [List.length_nil, List.length_cons] at hn
          exact decide_eq_true (by omega)
        | cons _ _ => simp at hz
    wp_walk
    refine ⟨_, rfl, ?_⟩
    rw [← fin] at h
    simpa [Builtin.Tuple.tupleCompareSizes] using h
  case h => exact ⟨rfl, rfl, xs, ys, _, _, rfl, h1, h2, fun _ h => h, hk, by simp; omega⟩
theorem rcGe_num {A : Around} {s : Shared} {i j : Int} {t u : Tok} {k : Bool} (e : ltK (.num i) (.num j) = some k) : RcOp .GtE A s (.int i t) (.int j u) (!k) := by
  rw [ltK] at e
  cases e
  intro prog w E Q h
  refine PySem.P.ge_int ?_
  rw [show decide (i ≥ j) = !decide (i < j) by rw [Bool.eq_iff_iff]; simp]
  exact h
theorem rcGe_text {A : Around} {s : Shared} {x y : Str} {t u : Tok} {k : Bool} (e : ltK (.text x) (.text y) = some k) : RcOp .GtE A s (.str x t) (.str y u) (!k) := by
  rw [ltK] at e
  cases e
  exact fun prog w E Q h => PySem.P.ge_str h
theorem rcGe_tup {A : Around} {s : Shared} {l b : Addr} {o o2 : Obj} {items items2 : Array Value} {n n2 : Nat} {xs ys : List NestedKey} {k : Bool} (ho : s.heap.get? l = some o) (hc : o.cls = .type "tuple") (hd : o.data = .seq items n) (r : NsAll s.heap xs items.toList)
    (ho2 : s.heap.get? b = some o2) (hc2 : o2.cls = .type "tuple") (hd2 : o2.data = .seq items2 n2) (r2 : NsAll s.heap ys items2.toList) (e : ltAll xs ys = some k) (hu : A.units + (NestedKey.depthAll xs + 1) < cLine)
    (ih : ∀ x ∈ xs, ∀ y u v c, Ns s.heap x u → Ns s.heap y v → ltK x y = some c → RcOp .GtE A.in1 s u v (!c)) : RcOp .GtE A s (.ref l) (.ref b) (!k) := fun prog w E Q h => by
  obtain ⟨cls, dd, data, sl⟩ := o
  obtain ⟨cls2, dd2, data2, sl2⟩ := o2
  simp only at hc hd hc2 hd2
  subst hc hd hc2 hd2
  refine richCompare_meets_room (op := .GtE) ⟨_, ho, rfl⟩ ⟨_, ho2, rfl⟩ F.slot_tuple_ge F.entry_tuple_ge (F.args_tuple_ge_2 _ _) (tuple_geK l b items items2 n n2 dd dd2 sl sl2 xs ys k)
    ⟨ho, ho2, r, r2, e, fun x hx y u v p q => ?_, ih, (fun x => nomatch x), h⟩ (by omega)
  rw [NestedKey.decide_eq]
  have := depth_mem hx
  exact eqAt_key x y A.in1 s u v p.is q.is (by show A.units + 1 + min x.depth y.depth < cLine; omega)
end
theorem rcGeN : ∀ (n : Nat) {x y : NestedKey} {A : Around} {s : Shared} {a b : Value} {k : Bool}, x.depth ≤ n → Ns s.heap x a → Ns s.heap y b → ltK x y = some k → A.units + n < cLine → RcOp .GtE A s a b (!k) := by
  intro n
  induction n with
  | zero =>
    intro x y A s a b k hd p q e hu
    cases p with
    | none => cases q <;> simp [ltK] at e
    | int i t => cases q with
      | int j u => exact rcGe_num e
      | _ => simp [ltK] at e
    | text i t => cases q with
      | text j u => exact rcGe_text e
      | _ => simp [ltK] at e
    | tup _ _ _ _ => rw [depth_tup] at hd; omega
  | succ n ih =>
    intro x y A s a b k hd p q e hu
    cases p with
    | none => cases q <;> simp [ltK] at e
    | int i t => cases q with
      | int j u => exact rcGe_num e
      | _ => simp [ltK] at e
    | text i t => cases q with
      | text j u => exact rcGe_text e
      | _ => simp [ltK] at e
    | tup ho hc hdd r => cases q with
      | tup ho2 hc2 hd2 r2 =>
        rw [ltK] at e
        rw [depth_tup] at hd
        refine rcGe_tup ho hc hdd r ho2 hc2 hd2 r2 e (by omega) fun x hx y u v c p q ec => ?_
        have := depth_mem hx
        exact ih (by omega) p q ec (by show A.units + 1 + n < cLine; omega)
      | _ => simp [ltK] at e
def rGeN : R2 := fun x y H Q => ∃ (a b : NestedKey) (k : Bool), Nk H x a ∧ Nk H y b ∧ a.depth ≤ 50 ∧ ltK a b = some k ∧ Q (.bl (!k)) H
theorem op_geN {X : Cx} (hu : X.A.units + 64 < cLine) : OpR X (compareOp .GtE) rGeN := by
  intro pins s σ H x y v u Q I rx ry h
  obtain ⟨a, b, k, ha, hb, hd, e, q⟩ := h
  exact rcGeN 50 hd (ha.ns I rx) (hb.ns I ry) e (by omega) X.prog X.w _ _ ⟨.bl _, H, I, rfl, q⟩
end My

set_option Elab.async false
set_option linter.all false
set_option maxRecDepth 100000
set_option maxHeartbeats 4000000
namespace L55
open PySem PySem.Spec PyProof.Rows L2 My
section
variable {P : Program} {w : World} {K : PySem.W.Frag} {mg : Str → Option Value} {base : Heap}
/-- what an address holds; a tuple of a known object too, where fz says so -/
def RdQ (fz : Bool) (H : Hp) (a : Addr) (o : HO) : Prop := H a = some o ∨ (fz = true ∧ ∃ ob, H a = some (.frz ob o))
theorem RdQ.rd {fz : Bool} {H : Hp} {a : Addr} {o : HO} (h : RdQ fz H a o) : Rd H a o := h.elim .inl fun ⟨_, e⟩ => .inr e
theorem rd_same {fz : Bool} {H H' : Hp} {a : Addr} {o : HO} (h : RdQ fz H a o) (s : Same H H') : RdQ fz H' a o := h.elim (fun e => .inl (s _ _ e)) fun ⟨f, ob, e⟩ => .inr ⟨f, ob, s _ _ e⟩
theorem rd_kp {fz : Bool} {H H' : Hp} {t a : Addr} {o : HO} (h : RdQ fz H a o) (n : a ≠ t) (s : Kp t H H') : RdQ fz H' a o := h.elim (fun e => .inl (s _ _ n e)) fun ⟨f, ob, e⟩ => .inr ⟨f, ob, s _ _ n e⟩
theorem dq_rd {fz : Bool} {t a : Addr} {H : Hp} {xs : List V} {ds : List PyData} (n : a ≠ t) (h : RdQ fz H a (.tup xs)) (q : DqAll fz t H xs ds) : Dq fz t H (.ref a) (.tuple ds) := h.elim (fun e => .tup n e q) fun ⟨f, _, e⟩ => .frz f n e q
theorem dq_tuple_at {fz : Bool} {t : Addr} {H : Hp} {v : V} {ds : List PyData} (h : Dq fz t H v (.tuple ds)) : ∃ a xs, v = .ref a ∧ a ≠ t ∧ RdQ fz H a (.tup xs) ∧ DqAll fz t H xs ds := by
  cases h with
  | tup n e q => exact ⟨_, _, rfl, n, .inl e, q⟩
  | frz f n e q => exact ⟨_, _, rfl, n, .inr ⟨f, _, e⟩, q⟩
theorem kind_tuple {d : PyData} (h : kindQ "tuple" d = true) : ∃ ds, d = .tuple ds := by
  cases d with
  | tuple ds => exact ⟨ds, rfl⟩
  | none => cases h
  | bool b => simp [kindQ] at h
  | int i => simp [kindQ] at h
  | str x => simp [kindQ] at h
  | list x => simp [kindQ] at h
  | dict x => simp [kindQ] at h
mutual
/-- a tuple has at most l items, so has each within -/
def Wid (l : Nat) : PyData → Prop
  | .tuple xs => xs.length ≤ l ∧ Wids l xs
  | .list xs => Wids l xs
  | _ => True
def Wids (l : Nat) : List PyData → Prop
  | [] => True
  | x :: xs => Wid l x ∧ Wids l xs
end
theorem wids_mem {l : Nat} : ∀ {ds : List PyData}, Wids l ds ↔ ∀ d ∈ ds, Wid l d
  | [] => ⟨fun _ d h => (by cases h), fun _ => trivial⟩
  | x :: xs => by
    rw [Wids, wids_mem (ds := xs)]
    exact ⟨fun h d hd => (List.mem_cons.mp hd).elim (fun e => by rw [e]; exact h.1) (h.2 d), fun h => ⟨h x (.head _), fun d hd => h d (.tail _ hd)⟩⟩
mutual
theorem Wid.mono {l m : Nat} (le : l ≤ m) : ∀ {d : PyData}, Wid l d → Wid m d
  | .tuple xs, h => by
    rw [Wid] at h ⊢
    exact ⟨Nat.le_trans h.1 le, Wids.mono le h.2⟩
  | .list xs, h => by
    rw [Wid] at h ⊢
    exact Wids.mono le h
  | .none, _ => by rw [Wid]; exact trivial; all_goals exact fun _ z => by cases z
  | .bool _, _ => by rw [Wid]; exact trivial; all_goals exact fun _ z => by cases z
  | .int _, _ => by rw [Wid]; exact trivial; all_goals exact fun _ z => by cases z
  | .str _, _ => by rw [Wid]; exact trivial; all_goals exact fun _ z => by cases z
  | .dict _, _ => by rw [Wid]; exact trivial; all_goals exact fun _ z => by cases z
theorem Wids.mono {l m : Nat} (le : l ≤ m) : ∀ {ds : List PyData}, Wids l ds → Wids m ds
  | [], _ => trivial
  | _ :: _, h => ⟨Wid.mono le h.1, Wids.mono le h.2⟩
end
theorem wid_tup {ds : List PyData} {l : Nat} (h : ds.length ≤ l) (a : ∀ d ∈ ds, Wid l d) : Wid l (.tuple ds) := by
  rw [Wid]
  exact ⟨h, wids_mem.mpr a⟩
theorem wid_lst {ds : List PyData} {l : Nat} (a : ∀ d ∈ ds, Wid l d) : Wid l (.list ds) := by
  rw [Wid]
  exact wids_mem.mpr a
theorem Wid.items {ds : List PyData} {l : Nat} (h : Wid l (.tuple ds)) : ds.length ≤ l ∧ ∀ d ∈ ds, Wid l d := by
  rw [Wid] at h
  exact ⟨h.1, wids_mem.mp h.2⟩
def numD (d : PyData) : Bool := kindQ "int" d && !kindQ "bool" d
theorem numD_iff {d : PyData} : numD d = true ↔ ∃ i, d = .int i := by
  cases d <;> simp [numD, kindQ]
def spNumQ : Sp := fun vs H Q _ => ∃ (fz : Bool) (t : Addr) (v : V) (d : PyData), vs = [v] ∧ Dq fz t H v d ∧ Q (.bl (numD d)) H
theorem ok_numQ (T : Tx K mg) : FnOk P w K mg base CX0 1 T.f_is_number T.d_is_number ["thing"] (spNumQ) := by
  refine T.F_is_number.ok S_is_number (fun vs H Q E h => ?_) (fun cdv A outer s H vs Q E hr h => ?_)
  · obtain ⟨fz, t, v, d, rfl, _⟩ := h
    rfl
  · obtain ⟨fz, t, v, d, rfl, dq, q⟩ := h
    obtain ⟨t1, y1, k1⟩ := dq_kind (K := K) (n := "int") (.inl rfl) dq
    obtain ⟨t2, y2, k2⟩ := dq_kind (K := K) (n := "bool") (.inr (.inl rfl)) dq
    unfold numD at q
    refine ⟨_, (pss_one (ps_ret (pe_and (pe_callB call_isi (by rfl) T.m_isinstance (by decide +kernel) (pa_cons (pv 0) (pa_cons (pe_bltn (v := .ty "int") (by rfl) T.m_int (by decide +kernel) rfl) pa_nil))) (pe_one (pe_not (pe_callB call_isi (by rfl) T.m_isinstance (by decide +kernel) (pa_cons (pv 0) (pa_cons (pe_bltn (v := .ty "bool") (by rfl) T.m_bool (by decide +kernel) rfl) pa_nil)))))))), ?_⟩
    refine ⟨v, rfl, v, _, t1, _, _, rfl, .ty _, y1, k1, _, rfl, ite2 (fun e => ?_) (fun e => ?_)⟩
    · refine ⟨v, rfl, v, _, t2, _, _, rfl, .ty _, y2, k2, _, rfl, ?_⟩
      rw [e, Bool.true_and] at q
      exact q
    · have e : kindQ "int" d = false := by simpa using e
      rw [e, Bool.false_and] at q
      exact q
/-- the next one is greater -/
def ltV : V → V → Prop
  | .int i, .int j => i < j
  | .str x, .str y => x.cps.toList < y.cps.toList
  | _, _ => False
def AdjV (xs : List V) : Prop := ∀ (k : Nat) (x y : V), xs[k]? = some x → xs[k + 1]? = some y → ltV x y
theorem ixA_in {a : Addr} {xs : List V} {i : Int} {v : V} {H : Hp} {Q : VK} (h : Rd H a (.tup xs) ∨ H a = some (.lst xs)) (e : atI xs i = some v) (q : Q v H) : rIxA K (.ref a) (.int i) H Q :=
  h.elim (fun h => .inr ⟨a, xs, i, v, rfl, rfl, .inl h, e, q⟩) fun h => .inl ⟨a, xs, i, v, rfl, rfl, .inl (.inl h), e, q⟩
theorem ltA_in {xs : List V} (al : (∃ ws : List Int, xs = ws.map V.int) ∨ ∃ zs : List Str, xs = zs.map V.str) {x y : V} (hx : x ∈ xs) (hy : y ∈ xs) : ∃ c : Bool, (c = true ↔ ltV x y) ∧ ∀ (H : Hp) (Q : VK), Q (.bl c) H → rLtA x y H Q := by
  rcases al with ⟨ws, rfl⟩ | ⟨zs, rfl⟩
  · obtain ⟨i, _, rfl⟩ := List.mem_map.mp hx
    obtain ⟨j, _, rfl⟩ := List.mem_map.mp hy
    exact ⟨decide (i < j), decide_eq_true_iff, fun H Q q => .inl ⟨i, j, rfl, rfl, q⟩⟩
  · obtain ⟨i, _, rfl⟩ := List.mem_map.mp hx
    obtain ⟨j, _, rfl⟩ := List.mem_map.mp hy
    exact ⟨decide (i.cps.toList < j.cps.toList), decide_eq_true_iff, fun H Q q => .inr ⟨i, j, rfl, rfl, q⟩⟩
def spRisQ (T : Tx K mg) : Sp := fun vs H Q _ => ∃ (a : Addr) (xs : List V), vs = [.ref a] ∧ (Rd H a (.tup xs) ∨ H a = some (.lst xs)) ∧ ((∃ ws : List Int, xs = ws.map V.int) ∨ ∃ zs : List Str, xs = zs.map V.str) ∧ xs.length ≤ 1000 ∧ Tbs (tbs T) H ∧ ∀ b H', (b = true ↔ AdjV xs) → Tk (tbs T) H H' → Q (.bl b) H'
theorem ok_risQ (T : Tx K mg) (B : Tb T base) : FnOk P w K mg base CX0 2 T.f_is_rising T.d_is_rising ["things"] (spRisQ T) := by
  refine T.F_is_rising.ok S_is_rising (fun vs H Q E h => ?_) (fun A outer s H vs Q E hr h => ?_)
  · obtain ⟨a, xs, rfl, _⟩ := h
    rfl
  · obtain ⟨a, xs, rfl, ha, al, hl, hb, q⟩ := h
    refine ⟨_, (pss_one (ps_ret (GE.pe_allG (own := [("k", 1)]) (g := gName 1) (tt := tYes) (by rfl) S_is_rising.nd hr (by rfl) T.m_all B.b_is_rising rfl ⟨blkOk_by (own := [("k", 1)]) (N := N_is_rising) (sc := defScope s_is_rising) (by decide +kernel), rfl, (by decide +kernel), (by decide +kernel)⟩ (pi_range1 (by rfl) T.m_range (pa_cons (pe_op op_sub (pe_callB call_len_seq (by rfl) T.m_len PySem.boot_len (pa_cons (pv 0) pa_nil)) pe_int) pa_nil)) (fun _ _ _ _ _ _ hr => (pg_name (i := 1) S_is_rising.nd rfl (.inl rfl))) (fun _ _ _ _ _ _ hr => pts_nil) (fun _ _ _ _ _ _ hr => (pe_cmpR op_ltA (pe_ix (r := rIxA K) ix_any (pv 0) (pv 1) (fun _ _ => rfl)) (pe_ix (r := rIxA K) ix_any (pv 0) (pe_op op_add (pv 1) pe_int) (fun _ _ => rfl)) (nomark _)))))), ?_⟩
    have sq : ∀ {H' : Hp}, Tk (tbs T) H H' → Rd H' a (.tup xs) ∨ H' a = some (.lst xs) := fun tk => ha.imp (fun h => h.imp (fun e => tk.at hb e fun ps z => by cases z) fun ⟨o, e⟩ => ⟨o, tk.at hb e fun ps z => by cases z⟩) fun e => tk.at hb e fun ps z => by cases z
    have len : SqL K H a xs ∨ SqT K H a xs := ha.elim (fun h => .inr (.inl h)) fun h => .inl (.inl (.inl h))
    refine ⟨_, rfl, a, _, rfl, len, _, _, rfl, rfl, _, rfl, ?_, ?_, hb _ (by simp [tbs]), fun H2 tab => ?_⟩
    · omega
    · omega
    have tk : Tk (tbs T) H H2 := .of hb (by simp [tbs]) tab
    have ha2 := sq tk
    refine GE.ag_it walk_range (fun i H' => H' = H2 ∧ ∀ (k : Nat) (x y : V), k < i → xs[k]? = some x → xs[k + 1]? = some y → ltV x y) ⟨rfl, fun k x y hk => by omega⟩ (fun _ _ _ _ => trivial) ?_ ?_
    · rintro i x H3 H4 hi ⟨rfl, hp⟩ ⟨rfl, rfl⟩
      have h1 : i < xs.length := by omega
      have h2 : i + 1 < xs.length := by omega
      obtain ⟨c, hc, lt⟩ := ltA_in al (List.getElem_mem h1) (List.getElem_mem h2)
      refine ⟨rfl, tYesT ?_⟩
      refine ⟨_, rfl, _, rfl, ixA_in ha2 (at_of (j := i) (by omega) (List.getElem?_eq_getElem h1)) ?_⟩
      refine ⟨_, rfl, _, rfl, _, _, rfl, rfl, ixA_in ha2 (at_of (j := i + 1) (by omega) (List.getElem?_eq_getElem h2)) (lt _ _ ?_)⟩
      refine ⟨_, rfl, fun e => ?_, fun e => ⟨rfl, fun k x y hk e1 e2 => ?_⟩⟩
      · refine q false _ ⟨fun z => (by cases z), fun z => ?_⟩ tk
        have := hc.mpr (z i _ _ (List.getElem?_eq_getElem h1) (List.getElem?_eq_getElem h2))
        rw [this] at e
        cases e
      · by_cases z : k = i
        · subst z
          rw [List.getElem?_eq_getElem h1] at e1
          rw [List.getElem?_eq_getElem h2] at e2
          cases e1
          cases e2
          exact hc.mp (by simpa using e)
        · exact hp k x y (by omega) e1 e2
    · rintro H3 ⟨rfl, hp⟩
      refine q true _ ⟨fun _ k x y e1 e2 => hp k x y ?_ e1 e2, fun _ => rfl⟩ tk
      have := (List.getElem?_eq_some_iff.mp e2).1
      omega
def nameD : PyData → Bool
  | .str z => nameB (.str z)
  | _ => false
theorem nameD_iff {d : PyData} : nameD d = true ↔ ∃ z, d = .str z ∧ nameB (.str z) = true := by
  cases d <;> simp [nameD]
def spNameQ (T : Tx K mg) : Sp := fun vs H Q _ => ∃ (B : Nat) (fz : Bool) (t : Addr) (v : V) (d : PyData), vs = [v] ∧ Dq fz t H v d ∧ ShT B d ∧ Tbs (tbs T) H ∧ ∀ H', Tk (tbs T) H H' → Q (.bl (nameD d)) H'
theorem ok_nameQ (T : Tx K mg) (B : Tb T base) : FnOk P w K mg base CX0 2 T.f_is_name T.d_is_name ["thing"] (spNameQ T) := by
  refine T.F_is_name.ok S_is_name (fun vs H Q E h => ?_) (fun A outer s H vs Q E hr h => ?_)
  · obtain ⟨B0, fz, t, v, d, rfl, _⟩ := h
    rfl
  · obtain ⟨B0, fz, t, v, d, rfl, dq, sh, hb, q⟩ := h
    obtain ⟨t1, y1, k1⟩ := dq_kind (K := K) (n := "str") (.inr (.inr (.inl rfl))) dq
    refine ⟨_, (pss_cons (ps_if (PW.pt (pw_or (pt_not (pt_val (pe_callB call_isi (by rfl) T.m_isinstance (by decide +kernel) (pa_cons (pv 0) (pa_cons (pe_bltn (v := .ty "str") (by rfl) T.m_str (by decide +kernel) rfl) pa_nil))))) (pw_or1 (pt_not (pt_chain op_le op_le pe_int (pe_callB call_len_str (by rfl) T.m_len PySem.boot_len (pa_cons (pv 0) pa_nil)) (pe_glob (v := .int 8) (by rfl) T.c_LONGEST_NAME ⟨_, rfl⟩)))))) (pss_one (ps_ret pe_bl)) pss_nil)
      (pss_one (ps_ret (GE.pe_allG (own := [("sign", 1)]) (g := gName 1) (tt := tYes) (by rfl) S_is_name.nd hr (by rfl) T.m_all B.b_is_name rfl ⟨blkOk_by (own := [("sign", 1)]) (N := N_is_name) (sc := defScope s_is_name) (by decide +kernel), rfl, (by decide +kernel), (by decide +kernel)⟩ (pi_str (pv 0)) (fun _ _ _ _ _ _ hr => (pg_name (i := 1) S_is_name.nd rfl (.inl rfl))) (fun _ _ _ _ _ _ hr => pts_nil) (fun _ _ _ _ _ _ hr => (pe_chain op_le_str op_le_str pe_str (pv 1) pe_str)))))), ?_⟩
    refine ⟨v, rfl, v, _, t1, _, _, rfl, .ty _, y1, k1, _, rfl, ite2 (fun e => ?_) (fun e => ?_)⟩
    · refine iteT ?_
      have := q H (.refl hb)
      rw [show nameD d = false by cases d <;> first | rfl | (simp [kindQ] at e)] at this
      exact this
    · obtain ⟨z, rfl⟩ : ∃ z, d = .str z := by
        cases d <;> first | exact ⟨_, rfl⟩ | (simp [kindQ] at e)
      cases dq
      obtain ⟨hlz, hc⟩ : Plain z := sh
      have q : ∀ H', Tk (tbs T) H H' → Q (.bl (nameB (.str z))) H' := q
      have fin : ¬ (1 ≤ z.length ∧ z.length ≤ 8) → Q (.bl false) H := fun hn => by
        have := q H (.refl hb)
        have e0 : nameB (.str z) = false := by
          show ((decide (1 ≤ z.length) && decide (z.length ≤ 8)) && z.cps.toList.all signOk) = false
          by_cases h1 : 1 ≤ z.length
          · have h2 : ¬ z.length ≤ 8 := fun h2 => hn ⟨h1, h2⟩
            simp [h2]
          · simp [h1]
        rw [e0] at this
        exact this
      refine ⟨_, rfl, z, rfl, sz (by omega), _, _, rfl, rfl, _, rfl, ite2 (fun e1 => ?_) (fun e1 => ?_)⟩
      · have e1 := of_decide_eq_true e1
        refine ⟨_, _, rfl, rfl, _, rfl, ite2 (fun e2 => ?_) (fun e2 => ?_)⟩
        · have e2 : ¬ (z.length : Int) ≤ 8 := by simpa using e2
          exact fin (by omega)
        · have e2 : (z.length : Int) ≤ 8 := by simpa using e2
          refine ⟨_, rfl, z, rfl, hb _ (by simp [tbs]), fun H2 tab => ?_⟩
          have tk : Tk (tbs T) H H2 := .of hb (by simp [tbs]) tab
          have eN : nameB (.str z) = z.cps.toList.all signOk := by
            show ((decide (1 ≤ z.length) && decide (z.length ≤ 8)) && z.cps.toList.all signOk) = _
            rw [decide_eq_true (show 1 ≤ z.length by omega), decide_eq_true (show z.length ≤ 8 by omega)]
            rfl
          rw [eN] at q
          refine GE.ag_it walk_str (fun i H' => H' = H2 ∧ ∀ (k : Nat) (c : Nat), k < i → z.cps.toList[k]? = some c → signOk c = true) ⟨rfl, fun k x hk => by omega⟩ (fun _ _ _ _ => trivial) ?_ ?_
          · rintro i x H3 H4 hi ⟨rfl, hp⟩ ⟨rfl, c, hci, rfl⟩
            have hci : z.cps.toList[i]? = some c := by rw [Array.getElem?_toList]; exact hci
            refine ⟨rfl, tYesT ?_⟩
            refine ⟨_, rfl, _, _, rfl, rfl, _, rfl, ite2 (fun f1 => ?_) (fun f1 => ?_)⟩
            · have f1 : 97 ≤ c := by
                have : (!decide (([c] : List Nat) < [97])) = true := f1
                rw [le_a] at this
                exact of_decide_eq_true this
              have es : signOk c = (!decide (([122] : List Nat) < [c])) := by
                rw [le_z, signOk, decide_eq_true f1, Bool.true_and]
              refine ⟨_, _, rfl, rfl, signOk c, congrArg V.bl es.symm, fun e => ?_, fun e => ⟨rfl, fun k y hk ey => ?_⟩⟩
              · have := q H4 tk
                rw [all_not hci e] at this
                exact this
              · by_cases zz : k = i
                · subst zz
                  rw [hci] at ey
                  cases ey
                  simpa using e
                · exact hp k y (by omega) ey
            · have f1 : signOk c = false := by
                have : ¬ (!decide (([c] : List Nat) < [97])) = true := f1
                rw [le_a] at this
                have : decide (97 ≤ c) = false := by simpa using this
                rw [signOk, this, Bool.false_and]
              refine ⟨_, rfl, fun _ => ?_, fun e => absurd rfl e⟩
              have := q H4 tk
              rw [all_not hci f1] at this
              exact this
          · rintro H3 ⟨rfl, hp⟩
            have := q H3 tk
            rw [all_get (f := signOk) fun k x e => hp k x (by have := (List.getElem?_eq_some_iff.mp e).1; simpa using this) e] at this
            exact this
      · have e1 : ¬ (1 : Int) ≤ z.length := by simpa using e1
        exact ⟨_, rfl, fin (by omega)⟩
theorem int_inj : ∀ {a b : List Int}, a.map PyData.int = b.map PyData.int → a = b
  | [], [], _ => rfl
  | [], _ :: _, h => by cases h
  | _ :: _, [], h => by cases h
  | x :: a, y :: b, h => by
    injection h with h1 h2
    injection h1 with h1
    rw [h1, int_inj h2]
theorem AdjV.tail {x : V} {xs : List V} (h : AdjV (x :: xs)) : AdjV xs := fun k a b e1 e2 => h (k + 1) a b e1 e2
theorem adj_int : ∀ {ws : List Int}, AdjV (ws.map V.int) ↔ ws.Pairwise (· < ·)
  | [] => ⟨fun _ => .nil, fun _ k x y e => by cases e⟩
  | [x] => ⟨fun _ => List.pairwise_cons.mpr ⟨fun y h => (by cases h), .nil⟩, fun _ k a b e1 e2 => by cases k <;> cases e2⟩
  | x :: y :: r => by
    constructor
    · intro h
      have t := adj_int.mp h.tail
      have xy : x < y := h 0 _ _ rfl rfl
      refine List.pairwise_cons.mpr ⟨fun z hz => ?_, t⟩
      rcases List.mem_cons.mp hz with rfl | hz
      · exact xy
      · exact Int.lt_trans xy ((List.pairwise_cons.mp t).1 z hz)
    · intro h k a b e1 e2
      rw [List.getElem?_map] at e1 e2
      obtain ⟨i, hi, rfl⟩ := Option.map_eq_some_iff.mp e1
      obtain ⟨j, hj, rfl⟩ := Option.map_eq_some_iff.mp e2
      obtain ⟨li, rfl⟩ := List.getElem?_eq_some_iff.mp hi
      obtain ⟨lj, rfl⟩ := List.getElem?_eq_some_iff.mp hj
      exact List.pairwise_iff_getElem.mp h k (k + 1) li lj (Nat.lt_succ_self k)
theorem adj_str : ∀ {zs : List Str}, AdjV (zs.map V.str) ↔ zs.Pairwise fun x y => x.cps.toList < y.cps.toList
  | [] => ⟨fun _ => .nil, fun _ k x y e => by cases e⟩
  | [x] => ⟨fun _ => List.pairwise_cons.mpr ⟨fun y h => (by cases h), .nil⟩, fun _ k a b e1 e2 => by cases k <;> cases e2⟩
  | x :: y :: r => by
    constructor
    · intro h
      have t := adj_str.mp h.tail
      have xy : x.cps.toList < y.cps.toList := h 0 _ _ rfl rfl
      refine List.pairwise_cons.mpr ⟨fun z hz => ?_, t⟩
      rcases List.mem_cons.mp hz with rfl | hz
      · exact xy
      · exact List.lt_trans xy ((List.pairwise_cons.mp t).1 z hz)
    · intro h k a b e1 e2
      rw [List.getElem?_map] at e1 e2
      obtain ⟨i, hi, rfl⟩ := Option.map_eq_some_iff.mp e1
      obtain ⟨j, hj, rfl⟩ := Option.map_eq_some_iff.mp e2
      obtain ⟨li, rfl⟩ := List.getElem?_eq_some_iff.mp hi
      obtain ⟨lj, rfl⟩ := List.getElem?_eq_some_iff.mp hj
      exact List.pairwise_iff_getElem.mp h k (k + 1) li lj (Nat.lt_succ_self k)
theorem ints_of55 : ∀ {ds : List PyData}, (∀ d ∈ ds, ∃ j, d = .int j ∧ 0 ≤ j) → ∃ ws : List Int, ds = ws.map .int ∧ ∀ x ∈ ws, 0 ≤ x
  | [], _ => ⟨[], rfl, fun x h => by cases h⟩
  | d :: ds, h => by
    obtain ⟨j, rfl, hj⟩ := h d (.head _)
    obtain ⟨ws, rfl, hw⟩ := ints_of55 fun d hd => h d (.tail _ hd)
    exact ⟨j :: ws, rfl, fun x hx => (List.mem_cons.mp hx).elim (fun e => by rw [e]; exact hj) (hw x)⟩
theorem dqs_int55 {fz : Bool} {t : Addr} {H : Hp} {ws : List Int} : ∀ {vs : List V}, DqAll fz t H vs (ws.map .int) → vs = ws.map V.int := by
  induction ws with
  | nil =>
    intro vs h
    cases h
    rfl
  | cons w ws ih =>
    intro vs h
    cases h with
    | cons a h =>
      cases a
      rw [ih h]
      rfl
theorem dq_tkQ {fz : Bool} {t : Addr} {H H' : Hp} {Ts : List Addr} {v : V} {d : PyData} (h : Dq fz t H v d) (hb : Tbs Ts H) (k : Tk Ts H H') : Dq fz t H' v d := h.keep fun b o _ n e => k.at hb e n
theorem dqs_tkQ {fz : Bool} {t : Addr} {H H' : Hp} {Ts : List Addr} {v : List V} {d : List PyData} (h : DqAll fz t H v d) (hb : Tbs Ts H) (k : Tk Ts H H') : DqAll fz t H' v d := h.keep fun b o _ n e => k.at hb e n
theorem rdq_tk {fz : Bool} {H H' : Hp} {Ts : List Addr} {a : Addr} {xs : List V} (h : RdQ fz H a (.tup xs)) (hb : Tbs Ts H) (k : Tk Ts H H') : RdQ fz H' a (.tup xs) := h.elim (fun e => .inl (k.at hb e fun ps z => by cases z)) fun ⟨f, ob, e⟩ => .inr ⟨f, ob, k.at hb e fun ps z => by cases z⟩
def daysP (d : PyData) : Prop := ∃ ws : List Int, d = .tuple (ws.map .int) ∧ (∀ x ∈ ws, 0 ≤ x) ∧ ws.Pairwise (· < ·)
def spDaysQ (T : Tx K mg) : Sp := fun vs H Q _ => ∃ (fz : Bool) (t : Addr) (v : V) (d : PyData), vs = [v] ∧ Dq fz t H v d ∧ Wid 1000 d ∧ Tbs (tbs T) H ∧ ∀ b H', (b = true ↔ daysP d) → Tk (tbs T) H H' → Q (.bl b) H'
theorem ok_daysQ (T : Tx K mg) (B : Tb T base) : FnOk P w K mg base CX0 4 T.f_is_days T.d_is_days ["thing"] (spDaysQ T) := by
  have G_is_number : FnOk P w K mg base CX0 1 T.f_is_number T.d_is_number ["thing"] (spNumQ) := ok_numQ T
  have G_is_rising : FnOk P w K mg base CX0 2 T.f_is_rising T.d_is_rising ["things"] (spRisQ T) := ok_risQ T B
  refine T.F_is_days.ok S_is_days (fun vs H Q E h => ?_) (fun A outer s H vs Q E hr h => ?_)
  · obtain ⟨fz, t, v, d, rfl, _⟩ := h
    rfl
  · obtain ⟨fz, t, v, d, rfl, dq, wd, hb, q⟩ := h
    refine ⟨_, (pss_cons (ps_if (pt_not (pt_val (pe_callB call_isi (by rfl) T.m_isinstance (by decide +kernel) (pa_cons (pv 0) (pa_cons (pe_bltn (v := .ty "tuple") (by rfl) T.m_tuple (by decide +kernel) rfl) pa_nil))))) (pss_one (ps_ret pe_bl)) pss_nil)
      (pss_one (ps_ret (pe_and (GE.pe_allG (own := [("day", 1)]) (g := gName 1) (tt := tYes) (by rfl) S_is_days.nd hr (by rfl) T.m_all B.b_is_days rfl ⟨blkOk_by (own := [("day", 1)]) (N := N_is_days) (sc := defScope s_is_days) (by decide +kernel), rfl, (by decide +kernel), (by decide +kernel)⟩ (pi_tup (pv 0)) (fun _ _ _ _ _ _ hr => (pg_name (i := 1) S_is_days.nd rfl (.inl rfl))) (fun _ _ _ _ _ _ hr => pts_nil) (fun _ _ _ _ _ _ hr => (pe_and (pe_call G_is_number (hr.mono (by decide)) (by rfl) T.g_is_number T.F_is_number.kp T.b_is_number .nil pass0 (pa_cons (pv 1) pa_nil)) (pe_one (pe_cmpR op_ge (pv 1) pe_int (nomark _)))))) (pe_one (pe_call G_is_rising (hr.mono (by decide)) (by rfl) T.g_is_rising T.F_is_rising.kp T.b_is_rising .nil pass0 (pa_cons (pv 0) pa_nil))))))), ?_⟩
    obtain ⟨t1, y1, k1⟩ := dq_kind (K := K) (n := "tuple") (.inr (.inr (.inr rfl))) dq
    refine ⟨_, rfl, v, _, t1, _, _, rfl, .ty _, y1, k1, _, rfl, ite2 (fun e => ?_) (fun e => ?_)⟩
    · refine q false H ⟨fun z => (by cases z), fun ⟨ws, z, _⟩ => ?_⟩ (.refl hb)
      rw [z] at e
      simp [kindQ] at e
    obtain ⟨ds, rfl⟩ := kind_tuple (show kindQ "tuple" d = true by simpa using e)
    obtain ⟨a, xs, rfl, an, ha, da⟩ := dq_tuple_at dq
    have ld := da.length
    refine ⟨_, rfl, a, rfl, ⟨xs, .inl ha.rd⟩, hb _ (by simp [tbs]), fun H2 tab => ?_⟩
    have tk : Tk (tbs T) H H2 := .of hb (by simp [tbs]) tab
    have ha2 := rdq_tk ha hb tk
    have da2 := dqs_tkQ da hb tk
    refine GE.ag_it (walk_tup (K := K) (a := a) (xs := xs)) (fun i H' => H' = H2 ∧ ∀ (k : Nat) (d : PyData), k < i → ds[k]? = some d → ∃ j, d = .int j ∧ 0 ≤ j) ⟨rfl, fun k x hk => by omega⟩ ?_ ?_ ?_
    · rintro i H' _ ⟨rfl, _⟩
      exact .inl ha2.rd
    · rintro i x H3 H4 hi ⟨rfl, hp⟩ ⟨rfl, hxi⟩
      obtain ⟨dx, hdx, qx⟩ := da2.get hxi
      have no : ¬ (∃ j, dx = .int j ∧ 0 ≤ j) → Q (.bl false) H4 := fun n => q false _ ⟨fun z => (by cases z), fun ⟨ws, z, h0, _⟩ => by
        injection z with z
        rw [z, List.getElem?_map] at hdx
        obtain ⟨j, hj, rfl⟩ := Option.map_eq_some_iff.mp hdx
        exact absurd ⟨j, rfl, h0 j (List.mem_of_getElem? hj)⟩ n⟩ tk
      refine ⟨rfl, tYesT ⟨_, rfl, fz, t, x, dx, rfl, qx, _, rfl, ?_⟩⟩
      by_cases c : numD dx = true
      · obtain ⟨j, rfl⟩ := numD_iff.mp c
        cases qx
        refine iteT ⟨_, rfl, _, _, rfl, rfl, _, rfl, fun e => ⟨_, rfl, iteF (no fun ⟨j', z, h0⟩ => ?_)⟩, fun e => ⟨rfl, fun k d hk hd => ?_⟩⟩
        · cases z
          rw [decide_eq_true h0] at e
          cases e
        · by_cases z : k = i
          · subst z
            rw [hdx] at hd
            cases hd
            exact ⟨j, rfl, of_decide_eq_true (by simpa using e)⟩
          · exact hp k d (by omega) hd
      · have c2 : numD dx = false := by simpa using c
        rw [c2]
        exact iteF ⟨_, rfl, fun _ => ⟨_, rfl, iteF (no fun ⟨j, z, _⟩ => c (numD_iff.mpr ⟨j, z⟩))⟩, fun e => absurd rfl e⟩
    · rintro H3 ⟨rfl, hp⟩
      obtain ⟨ws, rfl, h0⟩ := ints_of55 (ds := ds) fun d hd => by
        obtain ⟨k, hk⟩ := List.mem_iff_getElem?.mp hd
        have := (List.getElem?_eq_some_iff.mp hk).1
        exact hp k d (by omega) hk
      have ex := dqs_int55 da2
      obtain ⟨l1000, _⟩ := wd.items
      refine ⟨_, rfl, iteT ⟨_, rfl, a, xs, rfl, .inl ha2.rd, .inl ⟨ws, ex⟩, by omega, tk.2, fun b H4 hb4 tk4 => q b H4 (hb4.trans ?_) (tk.trans tk4)⟩⟩
      rw [ex, adj_int]
      refine ⟨fun h => ⟨ws, rfl, h0, h⟩, fun ⟨us, z, _, h⟩ => ?_⟩
      injection z with z
      have : us = ws := int_inj z.symm
      rw [← this]; exact h
theorem dqs_pair {fz : Bool} {t : Addr} {H : Hp} {xs : List V} {ds : List PyData} (h : DqAll fz t H xs ds) (n : xs.length = 2) : ∃ x y d e, xs = [x, y] ∧ ds = [d, e] ∧ Dq fz t H x d ∧ Dq fz t H y e := by
  cases h with
  | nil => cases n
  | cons h1 h =>
    cases h with
    | nil => cases n
    | cons h2 h =>
      cases h with
      | nil => exact ⟨_, _, _, _, rfl, rfl, h1, h2⟩
      | cons _ _ => simp at n
def wantP (d : PyData) : Prop := ∃ a b, d = .tuple [a, b] ∧ nameD a = true ∧ daysP b
def spWantQ (T : Tx K mg) : Sp := fun vs H Q _ => ∃ (B : Nat) (fz : Bool) (t : Addr) (v : V) (d : PyData), vs = [v] ∧ Dq fz t H v d ∧ ShT B d ∧ Wid 1000 d ∧ Tbs (tbs T) H ∧ ∀ b H', (b = true ↔ wantP d) → Tk (tbs T) H H' → Q (.bl b) H'
theorem ok_wantQ (T : Tx K mg) (B : Tb T base) : FnOk P w K mg base CX0 5 T.f_is_want T.d_is_want ["thing"] (spWantQ T) := by
  have G_is_name : FnOk P w K mg base CX0 2 T.f_is_name T.d_is_name ["thing"] (spNameQ T) := ok_nameQ T B
  have G_is_days : FnOk P w K mg base CX0 4 T.f_is_days T.d_is_days ["thing"] (spDaysQ T) := ok_daysQ T B
  refine T.F_is_want.ok S_is_want (fun vs H Q E h => ?_) (fun cdv A outer s H vs Q E hr h => ?_)
  · obtain ⟨B0, fz, t, v, d, rfl, _⟩ := h
    rfl
  · obtain ⟨B0, fz, t, v, d, rfl, dq, sh, wd, hb, q⟩ := h
    refine ⟨_, (pss_one (ps_ret (pe_and (pe_callB call_isi (by rfl) T.m_isinstance (by decide +kernel) (pa_cons (pv 0) (pa_cons (pe_bltn (v := .ty "tuple") (by rfl) T.m_tuple (by decide +kernel) rfl) pa_nil))) (pe_and (pe_cmpR op_eq (pe_callB call_len_seq (by rfl) T.m_len PySem.boot_len (pa_cons (pv 0) pa_nil)) pe_int (nomark _)) (pe_and (pe_call G_is_name (hr.mono (by decide)) (by rfl) T.g_is_name T.F_is_name.kp T.b_is_name .nil pass0 (pa_cons (pe_ix (r := rIxT K) ix_tup (pv 0) pe_int (fun _ _ => rfl)) pa_nil)) (pe_one (pe_call G_is_days hr (by rfl) T.g_is_days T.F_is_days.kp T.b_is_days .nil pass0 (pa_cons (pe_ix (r := rIxT K) ix_tup (pv 0) pe_int (fun _ _ => rfl)) pa_nil)))))))), ?_⟩
    obtain ⟨t1, y1, k1⟩ := dq_kind (K := K) (n := "tuple") (.inr (.inr (.inr rfl))) dq
    refine ⟨_, rfl, v, _, t1, _, _, rfl, .ty _, y1, k1, _, rfl, ?_⟩
    by_cases kq : kindQ "tuple" d = true
    · obtain ⟨ds, rfl⟩ := kind_tuple kq
      obtain ⟨a, xs, rfl, an, ha, da⟩ := dq_tuple_at dq
      have ld := da.length
      rw [kq]
      refine iteT ⟨_, rfl, a, xs, rfl, .inr (.inl ha.rd), rfl, _, rfl, ?_⟩
      by_cases c : xs.length = 2
      · have e2 : decide (V.int ((xs.length : Nat) : Int) = V.int 2) = true := by rw [c]; rfl
        rw [e2]
        obtain ⟨x, y, d1, d2, rfl, rfl, q1, q2⟩ := dqs_pair da c
        refine iteT ⟨_, rfl, a, _, 0, x, rfl, rfl, .inl ha.rd, rfl, B0, fz, t, x, d1, rfl, q1, sh.1, hb, fun H2 tk => ⟨_, rfl, ?_⟩⟩
        obtain ⟨_, wds⟩ := wd.items
        by_cases c1 : nameD d1 = true
        · rw [c1]
          refine iteT ⟨_, rfl, a, _, 1, y, rfl, rfl, .inl (rdq_tk ha hb tk).rd, rfl, fz, t, y, d2, rfl, dq_tkQ q2 hb tk, wds d2 (.tail _ (.head _)), tk.2, fun b H3 hb3 tk3 => q b H3 (hb3.trans ⟨fun h => ⟨d1, d2, rfl, c1, h⟩, fun ⟨_, _, z, _, h⟩ => by cases z; exact h⟩) (tk.trans tk3)⟩
        · have c2 : nameD d1 = false := by simpa using c1
          rw [c2]
          exact iteF (q false H2 ⟨fun z => (by cases z), fun ⟨_, _, z, h, _⟩ => by cases z; exact absurd h c1⟩ tk)
      · have e2 : decide (V.int ((xs.length : Nat) : Int) = V.int 2) = false := decide_eq_false fun z => c (by have := V.int.inj z; omega)
        rw [e2]
        refine iteF (q false H ⟨fun z => (by cases z), fun ⟨_, _, z, _⟩ => ?_⟩ (.refl hb))
        injection z with z
        rw [z] at ld
        exact absurd ld c
    · have kq2 : kindQ "tuple" d = false := by simpa using kq
      rw [kq2]
      refine iteF (q false H ⟨fun z => (by cases z), fun ⟨_, _, z, _⟩ => ?_⟩ (.refl hb))
      rw [z] at kq
      exact absurd rfl kq
/-- a want as data -/
def wD (w : Str × List Int) : PyData := .tuple [.str w.1, .tuple (w.2.map .int)]
/-- rightly told wants -/
def GoodW (W : List (Str × List Int)) : Prop := (∀ w ∈ W, nameB (.str w.1) = true ∧ (∀ x ∈ w.2, 0 ≤ x) ∧ w.2.Pairwise (· < ·)) ∧ (W.map (·.1)).Pairwise fun x y => x.cps.toList < y.cps.toList
def wantsP (d : PyData) : Prop := ∃ W, d = .tuple (W.map wD) ∧ GoodW W
theorem wantP_iff {d : PyData} : wantP d ↔ ∃ w, d = wD w ∧ nameB (.str w.1) = true ∧ (∀ x ∈ w.2, 0 ≤ x) ∧ w.2.Pairwise (· < ·) := by
  constructor
  · rintro ⟨a, b, rfl, h1, ws, rfl, h2, h3⟩
    obtain ⟨z, rfl, h1⟩ := nameD_iff.mp h1
    exact ⟨(z, ws), rfl, h1, h2, h3⟩
  · rintro ⟨w, rfl, h1, h2, h3⟩
    exact ⟨_, _, rfl, h1, w.2, rfl, h2, h3⟩
theorem wants_of : ∀ {ds : List PyData}, (∀ d ∈ ds, wantP d) → ∃ W : List (Str × List Int), ds = W.map wD ∧ ∀ w ∈ W, nameB (.str w.1) = true ∧ (∀ x ∈ w.2, 0 ≤ x) ∧ w.2.Pairwise (· < ·)
  | [], _ => ⟨[], rfl, fun w h => by cases h⟩
  | d :: ds, h => by
    obtain ⟨w, rfl, hw⟩ := wantP_iff.mp (h d (.head _))
    obtain ⟨W, rfl, hW⟩ := wants_of fun d hd => h d (.tail _ hd)
    exact ⟨w :: W, rfl, fun x hx => (List.mem_cons.mp hx).elim (fun e => by rw [e]; exact hw) (hW x)⟩
theorem wD_inj {w v : Str × List Int} (h : wD w = wD v) : w = v := by
  unfold wD at h
  injection h with h
  injection h with h1 h
  injection h with h2 _
  injection h1 with h1
  injection h2 with h2
  exact Prod.ext h1 (int_inj h2)
theorem wDs_inj : ∀ {W U : List (Str × List Int)}, W.map wD = U.map wD → W = U
  | [], [], _ => rfl
  | [], _ :: _, h => by cases h
  | _ :: _, [], h => by cases h
  | w :: W, u :: U, h => by
    injection h with h1 h2
    rw [wD_inj h1, wDs_inj h2]
def spWantsQ (T : Tx K mg) : Sp := fun vs H Q _ => ∃ (B : Nat) (fz : Bool) (t : Addr) (v : V) (d : PyData), vs = [v] ∧ Dq fz t H v d ∧ ShT B d ∧ Wid 1000 d ∧ Tbs (tbs T) H ∧ ∀ b H', (b = true ↔ wantsP d) → Gk (tbs T) H H' → Q (.bl b) H'
theorem ok_wantsQ (T : Tx K mg) (B : Tb T base) : FnOk P w K mg base CX0 7 T.f_is_wants T.d_is_wants ["thing"] (spWantsQ T) := by
  have G_is_want : FnOk P w K mg base CX0 5 T.f_is_want T.d_is_want ["thing"] (spWantQ T) := ok_wantQ T B
  have G_is_rising : FnOk P w K mg base CX0 2 T.f_is_rising T.d_is_rising ["things"] (spRisQ T) := ok_risQ T B
  refine T.F_is_wants.ok S_is_wants (fun vs H Q E h => ?_) (fun A outer s H vs Q E hr h => ?_)
  · obtain ⟨B0, fz, t, v, d, rfl, _⟩ := h
    rfl
  · obtain ⟨B0, fz, t, v, d, rfl, dq, sh, wd, hb, q⟩ := h
    refine ⟨_, (pss_cons (ps_if (PW.pt (pw_or (pt_not (pt_val (pe_callB call_isi (by rfl) T.m_isinstance (by decide +kernel) (pa_cons (pv 0) (pa_cons (pe_bltn (v := .ty "tuple") (by rfl) T.m_tuple (by decide +kernel) rfl) pa_nil))))) (pw_or1 (pt_not (pt_val (GE.pe_allG (own := [("part", 1)]) (g := gName 1) (tt := tYes) (by rfl) S_is_wants.nd hr (by rfl) T.m_all B.b_is_wants rfl ⟨blkOk_by (own := [("part", 1)]) (N := N_is_wants) (sc := defScope s_is_wants) (by decide +kernel), rfl, (by decide +kernel), (by decide +kernel)⟩ (pi_tup (pv 0)) (fun _ _ _ _ _ _ hr => (pg_name (i := 1) S_is_wants.nd rfl (.inl rfl))) (fun _ _ _ _ _ _ hr => pts_nil) (fun _ _ _ _ _ _ hr => (pe_call G_is_want hr (by rfl) T.g_is_want T.F_is_want.kp T.b_is_want .nil pass0 (pa_cons (pv 1) pa_nil))))))))) (pss_one (ps_ret pe_bl)) pss_nil)
      (pss_one (ps_ret (pe_call G_is_rising (hr.mono (by decide)) (by rfl) T.g_is_rising T.F_is_rising.kp T.b_is_rising .nil pass0 (pa_cons (pe_lc (own := [("name", 2), ("days", 3)]) (g := gTup K 2 (gCons (gName 2) (gCons (gName 3) gNil))) (tt := tYes) (by rfl) S_is_wants.nd (pi_tup (pv 0)) (blkOk_by (own := [("name", 2), ("days", 3)]) (N := N_is_wants) (sc := defScope s_is_wants) (by decide +kernel)) (fun _ _ _ _ _ => (pg_tup rfl (pgs_cons (pg_name (i := 2) S_is_wants.nd rfl (.inl rfl)) (pgs_cons (pg_name (i := 3) S_is_wants.nd rfl (.inl rfl)) pgs_nil)))) (fun _ _ _ _ _ => pts_nil) (fun _ _ _ _ _ => (pv 2))) pa_nil))))), ?_⟩
    obtain ⟨t1, y1, k1⟩ := dq_kind (K := K) (n := "tuple") (.inr (.inr (.inr rfl))) dq
    have gk : ∀ {H' : Hp}, Tk (tbs T) H H' → Gk (tbs T) H H' := fun tk => ⟨fun b o e n => tk.at hb e n, tk.2⟩
    refine ⟨_, rfl, v, _, t1, _, _, rfl, .ty _, y1, k1, _, rfl, ite2 (fun e => ?_) (fun e => ?_)⟩
    · refine iteT (q false H ⟨fun z => (by cases z), fun ⟨W, z, _⟩ => ?_⟩ (.refl hb))
      rw [z] at e
      simp [kindQ] at e
    obtain ⟨ds, rfl⟩ := kind_tuple (show kindQ "tuple" d = true by simpa using e)
    obtain ⟨a, xs, rfl, an, ha, da⟩ := dq_tuple_at dq
    have ld := da.length
    obtain ⟨l1000, wds⟩ := wd.items
    have shd : ∀ d ∈ ds, ShT B0 d := shts_mem.mp sh
    have no : ∀ {H' : Hp}, Tk (tbs T) H H' → (¬ ∀ d ∈ ds, wantP d) → Q (.bl false) H' := fun tk n => q false _ ⟨fun z => (by cases z), fun ⟨W, z, g, _⟩ => absurd (fun d hd => by
      injection z with z
      rw [z] at hd
      obtain ⟨w, hw, rfl⟩ := List.mem_map.mp hd
      exact wantP_iff.mpr ⟨w, rfl, g w hw⟩) n⟩ (gk tk)
    refine ⟨_, rfl, a, rfl, ⟨xs, .inl ha.rd⟩, hb _ (by simp [tbs]), fun H2 tab => ?_⟩
    have tk2 : Tk (tbs T) H H2 := .of hb (by simp [tbs]) tab
    refine GE.ag_it (walk_tup (K := K) (a := a) (xs := xs)) (fun i H' => Tk (tbs T) H H' ∧ ∀ (k : Nat) (d : PyData), k < i → ds[k]? = some d → wantP d) ⟨tk2, fun k x hk => by omega⟩ ?_ ?_ ?_
    · rintro i H' _ ⟨tk, _⟩
      exact .inl (rdq_tk ha hb tk).rd
    · rintro i x H3 H4 hi ⟨tk, hp⟩ ⟨rfl, hxi⟩
      obtain ⟨dx, hdx, qx⟩ := (dqs_tkQ da hb tk).get hxi
      have hm := List.mem_of_getElem? hdx
      refine ⟨rfl, tYesT ⟨_, rfl, B0, fz, t, x, dx, rfl, qx, shd dx hm, wds dx hm, tk.2, fun b H5 hb5 tk5 => ⟨_, rfl, fun e => ⟨_, rfl, ?_⟩, fun e => ⟨tk.trans tk5, fun k d hk hd => ?_⟩⟩⟩⟩
      · refine iteT (no (tk.trans tk5) fun z => ?_)
        rw [hb5.mpr (z dx hm)] at e
        cases e
      · by_cases z : k = i
        · subst z
          rw [hdx] at hd
          cases hd
          exact hb5.mp (by simpa using e)
        · exact hp k d (by omega) hd
    · rintro H3 ⟨tk, hp⟩
      obtain ⟨W, rfl, hW⟩ := wants_of (ds := ds) fun d hd => by
        obtain ⟨k, hk⟩ := List.mem_iff_getElem?.mp hd
        have := (List.getElem?_eq_some_iff.mp hk).1
        exact hp k d (by omega) hk
      have da3 := dqs_tkQ da hb tk
      have ha3 := rdq_tk ha hb tk
      rw [List.length_map] at ld l1000
      refine ⟨_, rfl, iteF ⟨_, rfl, a, rfl, ⟨_, .inl ha3.rd⟩, fun D nD => ?_⟩⟩
      refine lc_tup (xs := xs) (fun i H' => Same H3 H' ∧ H' D = some (.lst ((((W.map (·.1)).take i)).map V.str))) ⟨same_upd nD, upd_same⟩ (fun i H' _ h => .inl (rd_same ha3 h.1).rd) ?_ ?_
      · rintro i x Hx hi ⟨m, hD⟩
        obtain ⟨dx, hdx, qx⟩ := (da3.same m).get hi
        rw [List.getElem?_map] at hdx
        obtain ⟨w, hw, rfl⟩ := Option.map_eq_some_iff.mp hdx
        obtain ⟨b1, ys, rfl, n1, h1, q1⟩ := dq_tuple_at qx
        have l2 : ys.length = 2 := q1.length
        obtain ⟨y1, y2, d1, d2, rfl, e2, q2, q3⟩ := dqs_pair q1 l2
        injection e2 with e2 e3
        subst e2
        cases q2
        have lw : i < W.length := (List.getElem?_eq_some_iff.mp hw).1
        have hwn : (W.map (·.1))[i]? = some w.1 := by rw [List.getElem?_map, hw]; rfl
        refine ⟨b1, _, rfl, .inl h1.rd, rfl, _, _, rfl, _, _, rfl, rfl, rfl, tYesT ⟨_, rfl, _, hD, ?_, same_freshA nD m, ?_⟩⟩
        · rw [List.length_map, List.length_take, List.length_map]
          exact small1000 (by omega)
        · rw [upd_same, List.take_add_one, hwn, List.map_append]; rfl
      · rintro H4 ⟨m, hD⟩
        have ln : (W.map (·.1)).length = xs.length := by rw [List.length_map]; omega
        rw [List.take_of_length_le (by rw [ln]; exact Nat.le_refl _)] at hD
        have hb4 : Tbs (tbs T) H4 := tk.2.same m
        refine ⟨D, _, rfl, .inr hD, .inr ⟨_, rfl⟩, by rw [List.length_map, ln]; omega, hb4, fun b H5 hb5 tk5 => ?_⟩
        refine q b H5 (hb5.trans ?_) (((gk tk).trans (.of_same m tk.2)).trans ⟨fun b o e n => tk5.at hb4 e n, tk5.2⟩)
        rw [adj_str]
        exact ⟨fun h => ⟨W, rfl, hW, h⟩, fun ⟨U, z, _, h⟩ => by
          injection z with z
          rw [wDs_inj z]
          exact h⟩
end
end L55

set_option Elab.async false
set_option linter.all false
set_option maxRecDepth 100000
set_option maxHeartbeats 4000000
namespace L55
open PySem PySem.Spec PyProof.Rows L2 My
section
variable {P : Program} {w : World} {K : PySem.W.Frag} {mg : Str → Option Value} {base : Heap}
theorem ixN_of {n i : Nat} (h : i < n) : ixN n (i : Int) = some i := by
  unfold ixN
  rw [if_pos (by omega), if_pos (by omega)]
  rfl
theorem tls_cut {ds : List PyData} {d : PyData} {i : Nat} (h : ds[i]? = some d) : tls (ds.take i) + (tl d + 2) + tls (ds.drop (i + 1)) = tls ds := by
  have l := (List.getElem?_eq_some_iff.mp h).1
  have e : ds = ds.take i ++ d :: ds.drop (i + 1) := by
    rw [← (List.getElem?_eq_some_iff.mp h).2, ← List.drop_eq_getElem_cons l, List.take_append_drop]
  have e2 := congrArg tls e
  rw [tls_app, tls] at e2
  omega
/-- t[lo:hi] of things -/
theorem sl_things {fz : Bool} {t a : Addr} {H : Hp} {xs : List V} {ds : List PyData} {lo hi : Option Int} {m n : Nat} {Q : VK} (h : RdQ fz H a (.tup xs)) (at_ : a ≠ t) (Ht : ∃ ys, H t = some (.lst ys)) (dq : DqAll fz t H xs ds) (f : FitTs B ds m n)
    (k : ∀ u us es H', Same H H' → u ≠ t → RdQ fz H' u (.tup us) → DqAll fz t H' us es → FitTs B es m n → es = (ds.drop (HT.sIx ds.length 0 lo)).take (HT.sIx ds.length ds.length hi - HT.sIx ds.length 0 lo) → Q (.ref u) H') : rSlA K (.ref a) lo hi H Q := by
  have le := dq.length
  refine ⟨a, xs, rfl, .inl h.rd, fun e => k a xs ds H (fun _ _ e => e) at_ h dq f ?_, fun _ p np => ?_⟩
  · rw [le] at e
    rw [e.1, e.2, List.drop_zero, Nat.sub_zero, List.take_of_length_le (Nat.le_refl _)]
  · obtain ⟨ys, hy⟩ := Ht
    have s := same_upd (o := .tup (cutV xs lo hi)) np
    have cut : ∀ H', Same H H' → DqAll fz t H' (cutV xs lo hi) ((ds.drop (HT.sIx ds.length 0 lo)).take (HT.sIx ds.length ds.length hi - HT.sIx ds.length 0 lo)) := fun H' s' => by
      unfold cutV
      rw [le]
      exact ((dq.drop _).take _).same s'
    exact k p _ _ _ s (fun z => by rw [z, hy] at np; cases np) (.inl upd_same) (cut _ s) ((f.drop _).take _) rfl
/-- two tuples of things put together -/
theorem cat_things {fz : Bool} {t a b : Addr} {H : Hp} {xs ys : List V} {ds es : List PyData} {m k n : Nat} {Q : V → Hp → Prop} (h1 : RdQ fz H a (.tup xs)) (h2 : RdQ fz H b (.tup ys)) (a1 : a ≠ t) (b1 : b ≠ t) (Ht : ∃ ys, H t = some (.lst ys)) (d1 : DqAll fz t H xs ds) (d2 : DqAll fz t H ys es) (f1 : FitTs B ds m n) (f2 : FitTs B es k n) (l : m + k ≤ 4000000)
    (q : ∀ u us H', Same H H' → u ≠ t → RdQ fz H' u (.tup us) → DqAll fz t H' us (ds ++ es) → FitTs B (ds ++ es) (m + k) n → Q (.ref u) H') : rCatA K (.ref a) (.ref b) H Q := by
  have l1 : xs.length ≤ m := by rw [d1.length]; exact Nat.le_trans tls_len f1.tl
  have l2 : ys.length ≤ k := by rw [d2.length]; exact Nat.le_trans tls_len f2.tl
  refine ⟨a, b, xs, ys, rfl, rfl, .inl h1.rd, .inl h2.rd, Nat.le_trans (show _ ≤ 4000000 by omega) (by decide), fun e => ?_, fun _ e => ?_, fun _ _ p np => ?_⟩
  · subst e
    have e : ds = [] := List.length_eq_zero_iff.mp (by rw [← d1.length]; rfl)
    subst e
    exact q b ys H (fun _ _ e => e) b1 h2 d2 (f1.app f2)
  · subst e
    have e : es = [] := List.length_eq_zero_iff.mp (by rw [← d2.length]; rfl)
    subst e
    have fa := f1.app f2
    rw [List.append_nil] at q fa
    exact q a xs H (fun _ _ e => e) a1 h1 d1 fa
  · obtain ⟨zs, hz⟩ := Ht
    have s := same_upd (o := .tup (xs ++ ys)) np
    exact q p _ _ s (fun z => by rw [z, hz] at np; cases np) (.inl upd_same) ((d1.app d2).same s) (f1.app f2)
theorem mem_cut {e : PyData} {es ds : List PyData} {a b : Nat} (eu : es = (ds.drop a).take b) (he : e ∈ es) : e ∈ ds := by
  rw [eu] at he
  exact List.mem_of_mem_drop (List.mem_of_mem_take he)
theorem feed_lst {H : Hp} {t c : Addr} {n : Nat} (h : FeedC H t c n) : ∃ ys, H t = some (.lst ys) := by
  obtain ⟨ns, sp, re, ca, e, _⟩ := h
  exact ⟨_, e⟩
theorem idx_cut {α : Type} {xs : List α} {i : Nat} (h : i < xs.length) : HT.sIx xs.length xs.length (some ((i : Int) + 1)) = i + 1 ∧ HT.sIx xs.length 0 (some ((i : Int) + 1)) = i + 1 ∧ HT.sIx xs.length xs.length (some (i : Int)) = i ∧ HT.sIx xs.length 0 (some (i : Int)) = i := by
  have e : ((i : Int) + 1) = ((i + 1 : Nat) : Int) := by omega
  refine ⟨?_, ?_, ?_, ?_⟩
  · rw [e, HT.sIx_nat]; omega
  · rw [e, HT.sIx_nat]; omega
  · rw [HT.sIx_nat]; omega
  · rw [HT.sIx_nat]; omega
theorem seq_join2 {a b : TS} {D : Ends} {σ : L2.St} {H : Hp} (R : L2.St → Hp → Prop) (h : ∀ nx' : L2.St → Hp → Prop, (∀ σ' H', R σ' H' → nx' σ' H') → a { D with nx := nx' } σ H) (k : ∀ σ' H', R σ' H' → b D σ' H') : tSeq a b D σ H := h _ k
theorem fitI {B n : Nat} {i : Int} (h : i.natAbs ≤ B) : FitT B (.int i) 70 n := ⟨h, Nat.le_refl _, by rw [PyData.depth]; exact Nat.zero_le _⟩
theorem fitS {B n : Nat} {z : Str} (h : Plain z) (l : z.length ≤ 10) : FitT B (.str z) 110 n := ⟨h, by rw [tl]; omega, by rw [PyData.depth]; exact Nat.zero_le _⟩
theorem fitN {B n : Nat} : FitT B .none 4 n := ⟨trivial, Nat.le_refl _, by rw [PyData.depth]; exact Nat.zero_le _⟩
theorem fitB {B n : Nat} {b : Bool} : FitT B (.bool b) 5 n := ⟨trivial, Nat.le_refl _, by rw [PyData.depth]; exact Nat.zero_le _⟩
mutual
/-- tuples of at most l items, lists whose texts are at most k long -/
def WK (k l : Nat) : PyData → Prop
  | .tuple xs => xs.length ≤ l ∧ WKs k l xs
  | .list xs => tls xs + 3 ≤ k ∧ WKs k l xs
  | .none => True
  | .bool _ => True
  | .int _ => True
  | .str _ => True
  | .dict _ => True
def WKs (k l : Nat) : List PyData → Prop
  | [] => True
  | x :: xs => WK k l x ∧ WKs k l xs
end
theorem wks_mem {k l : Nat} : ∀ {ds : List PyData}, WKs k l ds ↔ ∀ d ∈ ds, WK k l d
  | [] => ⟨fun _ d h => (by cases h), fun _ => trivial⟩
  | x :: xs => by
    rw [WKs, wks_mem (ds := xs)]
    exact ⟨fun h d hd => (List.mem_cons.mp hd).elim (fun e => by rw [e]; exact h.1) (h.2 d), fun h => ⟨h x (.head _), fun d hd => h d (.tail _ hd)⟩⟩
mutual
theorem WK.up {k l m : Nat} (le : k ≤ m) : ∀ {d : PyData}, WK k l d → WK m l d
  | .tuple xs, h => ⟨h.1, WKs.up le h.2⟩
  | .list xs, h => ⟨Nat.le_trans h.1 le, WKs.up le h.2⟩
  | .none, _ => trivial
  | .bool _, _ => trivial
  | .int _, _ => trivial
  | .str _, _ => trivial
  | .dict _, _ => trivial
theorem WKs.up {k l m : Nat} (le : k ≤ m) : ∀ {ds : List PyData}, WKs k l ds → WKs m l ds
  | [], _ => trivial
  | _ :: _, h => ⟨WK.up le h.1, WKs.up le h.2⟩
end
mutual
theorem WK.wid {k l : Nat} : ∀ {d : PyData}, WK k l d → Wid l d
  | .tuple xs, h => by rw [Wid]; exact ⟨h.1, WKs.wid h.2⟩
  | .list xs, h => by rw [Wid]; exact WKs.wid h.2
  | .none, _ => by rw [Wid]; exact trivial; all_goals exact fun _ z => by cases z
  | .bool _, _ => by rw [Wid]; exact trivial; all_goals exact fun _ z => by cases z
  | .int _, _ => by rw [Wid]; exact trivial; all_goals exact fun _ z => by cases z
  | .str _, _ => by rw [Wid]; exact trivial; all_goals exact fun _ z => by cases z
  | .dict _, _ => by rw [Wid]; exact trivial; all_goals exact fun _ z => by cases z
theorem WKs.wid {k l : Nat} : ∀ {ds : List PyData}, WKs k l ds → Wids l ds
  | [], _ => trivial
  | _ :: _, h => ⟨WK.wid h.1, WKs.wid h.2⟩
end
mutual
theorem wk_self {k l : Nat} : ∀ {d : PyData}, Wid l d → tl d ≤ k → WK k l d
  | .tuple xs, h, e => by
    rw [Wid] at h
    rw [tl] at e
    exact ⟨h.1, wks_self h.2 (by omega)⟩
  | .list xs, h, e => by
    rw [Wid] at h
    rw [tl] at e
    exact ⟨e, wks_self h (by omega)⟩
  | .none, _, _ => trivial
  | .bool _, _, _ => trivial
  | .int _, _, _ => trivial
  | .str _, _, _ => trivial
  | .dict _, _, _ => trivial
theorem wks_self {k l : Nat} : ∀ {ds : List PyData}, Wids l ds → tls ds ≤ k → WKs k l ds
  | [], _, _ => trivial
  | x :: xs, h, e => by
    rw [tls] at e
    exact ⟨wk_self h.1 (by omega), wks_self h.2 (by omega)⟩
end
theorem wk_tup {ds : List PyData} {k l : Nat} (h : ds.length ≤ l) (a : ∀ d ∈ ds, WK k l d) : WK k l (.tuple ds) := ⟨h, wks_mem.mpr a⟩
theorem wk_lst {ds : List PyData} {k l : Nat} (h : tls ds + 3 ≤ k) (a : ∀ d ∈ ds, WK k l d) : WK k l (.list ds) := ⟨h, wks_mem.mpr a⟩
theorem wk_leaf {k l : Nat} {d : PyData} (h : (∃ i, d = .int i) ∨ (∃ z, d = .str z) ∨ d = .none ∨ ∃ b, d = .bool b) : WK k l d := by
  rcases h with ⟨i, rfl⟩ | ⟨z, rfl⟩ | rfl | ⟨b, rfl⟩ <;> exact trivial
/-- what a bent thing is like: of a thing whose text is at most m long, n deep, numbers to B, tuples to l -/
def spBent (n : Nat) : Sp := fun vs H Q _ => ∃ (t c : Addr) (v : V) (d : PyData) (k m l B : Nat), vs = [.ref t, v] ∧ FeedC H t c k ∧ k + 5 * n < 900000 ∧ Dq true t H v d ∧ FitT B d m n ∧ Wid l d ∧ 1 ≤ l ∧ l ≤ 900 ∧ 10 ≤ B ∧ m ≤ 1500000 ∧
  ∀ v' d' H', FeedC H' t c (k + 5 * n + 5) → Kp t H H' → Dq true t H' v' d' → FitT (B + 1) d' (2 * m + 200) n → WK (tl d) (l + 1) d' → Q v' H'
def spBefore : Nat → Sp
  | 0 => fun _ _ _ _ => False
  | n + 1 => spBent n
theorem bent_step (T : Tx K mg) {n j : Nat} (hj : 2 ≤ j) (G_w_bent : FnOk P w K mg base CX0 j T.f_w_bent T.d_w_bent ["_law_feed_here", "_law_thing"] (spBefore n)) :
    FnOk P w K mg base CX0 (j + 1) T.f_w_bent T.d_w_bent ["_law_feed_here", "_law_thing"] (spBent n) := by
  have G_w_draw : FnOk P w K mg base CX0 1 T.f_w_draw T.d_w_draw ["_law_feed_here", "_law_many"] (spDraw) := ok_draw T
  refine T.F_w_bent.ok S_w_bent (fun vs H Q E h => ?_) (fun cdv A outer s H vs Q E hr h => ?_)
  · obtain ⟨t, c, v, d, k, m, l, B, rfl, _⟩ := h
    rfl
  · obtain ⟨t, c, v, d, k, m, l, B, rfl, hT, hk, dq, ft, wd, l1, l9, b10, room, q⟩ := h
    refine ⟨_, (pss_cons (ps_if (PW.pt (pw_and (pt_val (pe_callB call_isi (by rfl) T.m_isinstance (by decide +kernel) (pa_cons (pv 1) (pa_cons (pe_bltn (v := .ty "tuple") (by rfl) T.m_tuple (by decide +kernel) rfl) pa_nil)))) (pw_and (pt_cmpR op_gt (pe_callB call_len_seq (by rfl) T.m_len PySem.boot_len (pa_cons (pv 1) pa_nil)) pe_int (nomark _)) (pw_and1 (pt_cmpR op_gt (pe_call G_w_draw (hr.mono (by omega)) (by rfl) T.g_w_draw T.F_w_draw.kp T.b_w_draw .nil pass0 (pa_cons (pv 0) (pa_cons pe_int pa_nil))) pe_int (nomark _)))))) (pss_cons (ps_set (i := 2) S_w_bent.nd rfl (.inl rfl) (pe_call G_w_draw (hr.mono (by omega)) (by rfl) T.g_w_draw T.F_w_draw.kp T.b_w_draw .nil pass0 (pa_cons (pv 0) (pa_cons (pe_callB call_len_seq (by rfl) T.m_len PySem.boot_len (pa_cons (pv 1) pa_nil)) pa_nil))))
      (pss_one (ps_ret (pe_op op_catA (pe_op op_catA (pe_slice sl_tupA (pv 1) po_none (po_some (pv 2))) (pe_tup (pa_cons (pe_call G_w_bent (hr.mono (by omega)) (by rfl) T.g_w_bent T.F_w_bent.kp T.b_w_bent .nil pass0 (pa_cons (pv 0) (pa_cons (pe_ix ix_tup (pv 1) (pv 2) (fun _ _ => rfl)) pa_nil))) pa_nil))) (pe_slice sl_tupA (pv 1) (po_some (pe_op op_add (pv 2) pe_int)) po_none))))) pss_nil)
      (pss_cons (ps_if (pt_val (pe_callB call_isi (by rfl) T.m_isinstance (by decide +kernel) (pa_cons (pv 1) (pa_cons (pe_bltn (v := .ty "tuple") (by rfl) T.m_tuple (by decide +kernel) rfl) pa_nil)))) (pss_cons (ps_set (i := 2) S_w_bent.nd rfl (.inl rfl) (pe_call G_w_draw (hr.mono (by omega)) (by rfl) T.g_w_draw T.F_w_draw.kp T.b_w_draw .nil pass0 (pa_cons (pv 0) (pa_cons (pe_op op_add (pe_callB call_len_seq (by rfl) T.m_len PySem.boot_len (pa_cons (pv 1) pa_nil)) pe_int) pa_nil))))
      (pss_cons (ps_set (i := 3) S_w_bent.nd rfl (.inl rfl) (pe_lst (pa_cons (pe_op op_catA (pe_slice sl_tupA (pv 1) po_none (po_some (pv 2))) (pe_slice sl_tupA (pv 1) (po_some (pe_op op_add (pv 2) pe_int)) po_none)) (pa_cons (pe_op op_catA (pe_op op_catA (pe_slice sl_tupA (pv 1) po_none (po_some (pv 2))) (pe_slice sl_tupA (pv 1) (po_some (pv 2)) (po_some (pe_op op_add (pv 2) pe_int)))) (pe_slice sl_tupA (pv 1) (po_some (pv 2)) po_none)) (pa_cons (pe_op op_catA (pe_slice sl_tupA (pv 1) (po_some (pv 2)) po_none) (pe_slice sl_tupA (pv 1) po_none (po_some (pv 2)))) pa_nil)))))
      (pss_one (ps_ret (pe_ix ix_list (pe_op op_cat (pv 3) (pe_lst (pa_cons (pe_callTy call_list_of (by rfl) T.m_list (by decide +kernel) (pa_cons (pv 1) pa_nil)) (pa_cons (pe_op op_catA (pv 1) (pe_tup (pa_cons pe_int pa_nil))) (pa_cons (pe_tup pa_nil) pa_nil))))) (pe_call G_w_draw (hr.mono (by omega)) (by rfl) T.g_w_draw T.F_w_draw.kp T.b_w_draw .nil pass0 (pa_cons (pv 0) (pa_cons pe_int pa_nil))) (fun _ _ => rfl)))))) pss_nil)
      (pss_cons (ps_if (PW.pt (pw_and (pt_val (pe_callB call_isi (by rfl) T.m_isinstance (by decide +kernel) (pa_cons (pv 1) (pa_cons (pe_bltn (v := .ty "int") (by rfl) T.m_int (by decide +kernel) rfl) pa_nil)))) (pw_and1 (pt_not (pt_val (pe_callB call_isi (by rfl) T.m_isinstance (by decide +kernel) (pa_cons (pv 1) (pa_cons (pe_bltn (v := .ty "bool") (by rfl) T.m_bool (by decide +kernel) rfl) pa_nil)))))))) (pss_one (ps_ret (pe_ix ix_list (pe_lst (pa_cons (pe_op op_add (pv 1) pe_int) (pa_cons (pe_op op_sub (pv 1) pe_int) (pa_cons pe_int (pa_cons (pe_op op_sub pe_int (pv 1)) (pa_cons (pe_cmpR op_eq (pv 1) pe_int (nomark _)) (pa_cons pe_non (pa_cons pe_str pa_nil)))))))) (pe_call G_w_draw (hr.mono (by omega)) (by rfl) T.g_w_draw T.F_w_draw.kp T.b_w_draw .nil pass0 (pa_cons (pv 0) (pa_cons pe_int pa_nil))) (fun _ _ => rfl)))) pss_nil)
      (pss_one (ps_ret (pe_ix ix_list (pe_lst (pa_cons pe_str (pa_cons pe_str (pa_cons pe_str (pa_cons pe_str (pa_cons (pv 1) (pa_cons pe_int (pa_cons pe_non pa_nil)))))))) (pe_call G_w_draw (hr.mono (by omega)) (by rfl) T.g_w_draw T.F_w_draw.kp T.b_w_draw .nil pass0 (pa_cons (pv 0) (pa_cons pe_int pa_nil))) (fun _ _ => rfl))))))), ?_⟩
    obtain ⟨u, ty, ki⟩ := dq_kind (K := K) (n := "tuple") (.inr (.inr (.inr rfl))) dq
    refine seq_join2 (fun σ' H' => σ' = [some (.ref t), some v, none, none] ∧ ∃ k1, FeedC H' t c k1 ∧ k1 ≤ k + 1 ∧ Kp t H H') (fun nx' hn => ?_) ?_
    · have no0 : nx' [some (.ref t), some v, none, none] H := hn _ _ ⟨rfl, k, hT, by omega, .refl t H⟩
      refine ⟨_, rfl, _, _, u, _, _, rfl, .ty _, ty, ki, _, rfl, ?_⟩
      by_cases kq : kindQ "tuple" d = true
      · obtain ⟨ds, rfl⟩ := kind_tuple kq
        obtain ⟨a, xs, rfl, an, ha, da⟩ := dq_tuple_at dq
        rw [kq]
        refine iteT ⟨_, rfl, a, _, rfl, .inr (.inl ha.rd), _, _, rfl, rfl, _, rfl, ite2 (fun e => ?_) (fun e => no0)⟩
        refine ⟨_, rfl, t, 5, k, c, rfl, by decide, by decide, hT, by omega, fun y H1 y0 y1 hT1 hK1 => ⟨_, _, rfl, rfl, _, rfl, ite2 (fun e2 => ?_) (fun e2 => hn _ _ ⟨rfl, _, hT1, Nat.le_refl _, hK1⟩)⟩⟩
        have lpos : 0 < xs.length := by have := of_decide_eq_true e; omega
        obtain ⟨m', rfl, fd, n1⟩ := ft.items
        have ld := da.length
        obtain ⟨ll, wid⟩ := wd.items
        have wid1 : ∀ d ∈ ds, WK (tl (.tuple ds)) (l + 1) d := fun d hd => wk_self ((wid d hd).mono (by omega)) (by have := tls_mem hd; rw [tl]; omega)
        have ha1 := rd_kp ha an hK1
        have da1 := da.kp hK1
        have lw : ds.length ≤ m' := Nat.le_trans tls_len fd.tl
        refine ⟨_, rfl, _, rfl, a, _, rfl, .inr (.inl ha1.rd), t, _, k + 1, c, rfl, by omega, by omega, hT1, by omega, fun x H3 x0 x1 hT3 hK3 => ?_⟩
        obtain ⟨i, rfl⟩ : ∃ i : Nat, x = (i : Int) := ⟨x.toNat, by omega⟩
        have hi : i < ds.length := by omega
        have ha3 := rd_kp ha1 an hK3
        have da3 := da1.kp hK3
        have k3 := hK1.trans hK3
        obtain ⟨c1, c2, c3, c4⟩ := idx_cut hi
        obtain ⟨vi, hvi⟩ : ∃ v, xs[i]? = some v := ⟨_, List.getElem?_eq_getElem (by omega)⟩
        obtain ⟨di, hdi, dqi⟩ := da3.get hvi
        refine name_as (σ' := [some (.ref t), some (.ref a), some (.int i), none]) rfl ?_
        refine ⟨_, rfl, np_in ⟨_, rfl, (i : Int), rfl, ?_⟩⟩
        refine sl_things (lo := none) (hi := some (i : Int)) ha3 an (feed_lst hT3) da3 fd fun u us es' H4 s4 un hu du fu eu => ?_
        have hT4 := hT3.same s4
        obtain ⟨n', rfl⟩ : ∃ n', n = n' + 1 := ⟨n - 1, by omega⟩
        have eu1 : es' = ds.take i := by
          rw [eu, c3]
          rfl
        have wc := tls_cut hdi
        have wdd := fd.tl
        have fi := fd.mem (List.mem_of_getElem? hdi)
        have fi : FitT B di (tl di) n' := ⟨fi.sh, Nat.le_refl _, fi.dp⟩
        have fu' : FitTs (B + 1) es' (tls es') n' := FitTs.up ⟨fu.sh, Nat.le_refl _, fu.dp⟩ (Nat.le_succ _)
        refine ⟨_, rfl, _, rfl, _, rfl, a, xs, (i : Int), vi, rfl, rfl, .inl (rd_same ha3 s4).rd, atI_int (by omega) hvi, ?_⟩
        refine ⟨t, c, vi, di, k + 2, tl di, l, B, rfl, hT4, by omega, dqi.same s4, fi, wid di (List.mem_of_getElem? hdi), l1, l9, b10, by omega, fun v' d' H5 hT5 hK5 dq' ft' wd' => ?_⟩
        have wd' := wd'.up (show tl di ≤ tl (.tuple ds) by have := tls_mem (List.mem_of_getElem? hdi); rw [tl]; omega)
        refine ⟨sz (by show 1 ≤ 1000; decide), fun c5 n5 => ?_⟩
        have s5 := same_upd (o := .tup [v']) n5
        obtain ⟨ct, _⟩ := hT5.ne n5
        have hT6 := hT5.same s5
        have hu5 := rd_same (rd_kp hu un hK5) s5
        subst eu1
        refine cat_things hu5 (.inl upd_same) un ct (feed_lst hT6) ((du.kp hK5).same s5) (.cons (dq'.same s5) .nil) fu' ft'.one (by omega) fun u3 us3 H7 s7 un3 hu3 du3 fu3 => ?_
        have k7 := ((k3.trans (.of_same s4)).trans hK5).trans (.of_same (s5.trans s7))
        have hT7 := hT6.same s7
        have ha7 := rd_same (rd_kp (rd_same ha3 s4) an hK5) (s5.trans s7)
        have da7 := ((da3.same s4).kp hK5).same (s5.trans s7)
        refine ⟨_, rfl, _, rfl, _, _, rfl, rfl, _, rfl, np_in ?_⟩
        refine sl_things (lo := some ((i : Int) + 1)) (hi := none) ha7 an (feed_lst hT7) da7 (fd.up (Nat.le_succ B)) fun u4 us4 es4 H8 s8 un4 hu4 du4 fu4 eu4 => ?_
        have eu5 : es4 = ds.drop (i + 1) := by
          rw [eu4, c2]
          exact List.take_of_length_le (by rw [List.length_drop]; exact Nat.le_refl _)
        subst eu5
        have fu4' : FitTs (B + 1) (ds.drop (i + 1)) (tls (ds.drop (i + 1))) n' := ⟨fu4.sh, Nat.le_refl _, fu4.dp⟩
        refine cat_things (rd_same hu3 s8) hu4 un3 un4 (feed_lst (hT7.same s8)) (du3.same s8) du4 fu3 fu4' (by omega) fun u5 us5 H9 s9 un5 hu5 du5 fu5 => ?_
        exact q _ _ H9 ((hT7.same (s8.trans s9)).mono (by omega)) (k7.trans (.of_same (s8.trans s9))) (dq_rd un5 hu5 du5) (fu5.tup.mono (by omega) (by omega)) (wk_tup (by simp only [List.length_append, List.length_cons, List.length_nil, List.length_take, List.length_drop]; omega) fun e he => (List.mem_append.mp he).elim (fun he => (List.mem_append.mp he).elim (fun h => wid1 e (List.mem_of_mem_take h)) fun h => by rw [List.mem_singleton.mp h]; exact wd') fun h => wid1 e (List.mem_of_mem_drop h))
      · rw [Bool.eq_false_iff.mpr kq]
        exact iteF no0
    · rintro _ H1 ⟨rfl, k1, hT1, hk1, hK1⟩
      have dq1 := dq.kp hK1
      refine seq_join2 (fun σ' H' => σ' = [some (.ref t), some v, none, none] ∧ H' = H1 ∧ kindQ "tuple" d = false) (fun nx' hn => ?_) ?_
      · obtain ⟨u, ty, ki⟩ := dq_kind (K := K) (n := "tuple") (.inr (.inr (.inr rfl))) dq1
        refine ⟨_, rfl, _, _, u, _, _, rfl, .ty _, ty, ki, _, rfl, ?_⟩
        by_cases kq : kindQ "tuple" d = true
        · obtain ⟨ds, rfl⟩ := kind_tuple kq
          obtain ⟨a, xs, rfl, an, ha, da⟩ := dq_tuple_at dq1
          rw [kq]
          obtain ⟨m', rfl, fd, n1⟩ := ft.items
          have fd := fd.up (Nat.le_succ B)
          have ld := da.length
          obtain ⟨ll, wid⟩ := wd.items
          have wid1 : ∀ d ∈ ds, WK (tl (.tuple ds)) (l + 1) d := fun d hd => wk_self ((wid d hd).mono (by omega)) (by have := tls_mem hd; rw [tl]; omega)
          refine iteT ⟨_, rfl, _, rfl, a, _, rfl, .inr (.inl ha.rd), _, _, rfl, rfl, t, (xs.length : Int) + 1, k1, c, rfl, by omega, by omega, hT1, by omega, fun x H2 x0 x1 hT2 hK2 => ?_⟩
          obtain ⟨i, rfl⟩ : ∃ i : Nat, x = (i : Int) := ⟨x.toNat, by omega⟩
          have hi : i ≤ ds.length := by omega
          have ha2 := rd_kp ha an hK2
          have da2 := da.kp hK2
          have k2 := hK1.trans hK2
          refine name_as (σ' := [some (.ref t), some (.ref a), some (.int i), none]) rfl ?_
          have b1 : HT.sIx ds.length ds.length (some (i : Int)) = i := by rw [HT.sIx_nat]; omega
          have b2 : HT.sIx ds.length 0 (some (i : Int)) = i := by rw [HT.sIx_nat]; omega
          have b3 : HT.sIx ds.length ds.length (some ((i : Int) + 1)) = min (i + 1) ds.length := by rw [show ((i : Int) + 1) = ((i + 1 : Nat) : Int) by omega, HT.sIx_nat]
          have b4 : HT.sIx ds.length 0 (some ((i : Int) + 1)) = min (i + 1) ds.length := by rw [show ((i : Int) + 1) = ((i + 1 : Nat) : Int) by omega, HT.sIx_nat]
          refine ⟨_, rfl, np_in ⟨_, rfl, (i : Int), rfl, ?_⟩⟩
          refine sl_things (lo := none) (hi := some (i : Int)) ha2 an (feed_lst hT2) da2 fd fun u1 us1 es1 H3 s3 un1 hu1 du1 fu1 eu1 => ?_
          refine ⟨_, rfl, _, rfl, _, _, rfl, rfl, _, rfl, np_in ?_⟩
          refine sl_things (lo := some ((i : Int) + 1)) (hi := none) (rd_same ha2 s3) an (feed_lst (hT2.same s3)) (da2.same s3) fd fun u2 us2 es2 H4 s4 un2 hu2 du2 fu2 eu2 => ?_
          refine cat_things (rd_same hu1 s4) hu2 un1 un2 (feed_lst ((hT2.same s3).same s4)) (du1.same s4) du2 fu1 fu2 (by omega) fun p1 ps1 H5 s5 pn1 hp1 dp1 fp1 => ?_
          have sA := (s3.trans s4).trans s5
          refine ⟨_, rfl, np_in ⟨_, rfl, (i : Int), rfl, ?_⟩⟩
          refine sl_things (lo := none) (hi := some (i : Int)) (rd_same ha2 sA) an (feed_lst (hT2.same sA)) (da2.same sA) fd fun u3 us3 es3 H6 s6 un3 hu3 du3 fu3 eu3 => ?_
          refine ⟨_, rfl, _, rfl, (i : Int), rfl, _, rfl, _, _, rfl, rfl, _, rfl, ?_⟩
          refine sl_things (lo := some (i : Int)) (hi := some ((i : Int) + 1)) (rd_same ha2 (sA.trans s6)) an (feed_lst (hT2.same (sA.trans s6))) (da2.same (sA.trans s6)) fd fun u4 us4 es4 H7 s7 un4 hu4 du4 fu4 eu4 => ?_
          have w3 := fu3.tl
          have w4 := fu4.tl
          have fu3 : FitTs (B + 1) es3 (tls es3) (n - 1) := ⟨fu3.sh, Nat.le_refl _, fu3.dp⟩
          have fu4 : FitTs (B + 1) es4 (tls es4) (n - 1) := ⟨fu4.sh, Nat.le_refl _, fu4.dp⟩
          refine cat_things (rd_same hu3 s7) hu4 un3 un4 (feed_lst ((hT2.same (sA.trans s6)).same s7)) (du3.same s7) du4 fu3 fu4 (by omega) fun u5 us5 H8 s8 un5 hu5 du5 fu5 => ?_
          have sB := ((sA.trans s6).trans s7).trans s8
          refine ⟨_, rfl, _, rfl, (i : Int), rfl, np_in ?_⟩
          refine sl_things (lo := some (i : Int)) (hi := none) (rd_same ha2 sB) an (feed_lst (hT2.same sB)) (da2.same sB) fd fun u6 us6 es6 H9 s9 un6 hu6 du6 fu6 eu6 => ?_
          have w36 : tls es3 + tls es6 ≤ m' := by
            have e3 : es3 = ds.take i := by rw [eu3, b1]; rfl
            have e6 : es6 = ds.drop i := by
              rw [eu6, b2]
              exact List.take_of_length_le (by rw [List.length_drop, HT.sIx_none]; exact Nat.le_refl _)
            have := tls_app (ds := ds.take i) (es := ds.drop i)
            rw [List.take_append_drop] at this
            rw [e3, e6, ← this]
            exact fd.tl
          have fu6 : FitTs (B + 1) es6 (tls es6) (n - 1) := ⟨fu6.sh, Nat.le_refl _, fu6.dp⟩
          refine cat_things (rd_same hu5 s9) hu6 un5 un6 (feed_lst ((hT2.same sB).same s9)) (du5.same s9) du6 fu5 fu6 (by omega) fun p2 ps2 H10 s10 pn2 hp2 dp2 fp2 => ?_
          have sC := (sB.trans s9).trans s10
          refine ⟨_, rfl, _, rfl, (i : Int), rfl, np_in ?_⟩
          refine sl_things (lo := some (i : Int)) (hi := none) (rd_same ha2 sC) an (feed_lst (hT2.same sC)) (da2.same sC) fd fun u7 us7 es7 H11 s11 un7 hu7 du7 fu7 eu7 => ?_
          refine ⟨_, rfl, np_in ⟨_, rfl, (i : Int), rfl, ?_⟩⟩
          refine sl_things (lo := none) (hi := some (i : Int)) (rd_same ha2 (sC.trans s11)) an (feed_lst (hT2.same (sC.trans s11))) (da2.same (sC.trans s11)) fd fun u8 us8 es8 H12 s12 un8 hu8 du8 fu8 eu8 => ?_
          refine cat_things (rd_same hu7 s12) hu8 un7 un8 (feed_lst ((hT2.same (sC.trans s11)).same s12)) (du7.same s12) du8 fu7 fu8 (by omega) fun p3 ps3 H13 s13 pn3 hp3 dp3 fp3 => ?_
          have sD := ((sC.trans s11).trans s12).trans s13
          have s513 := (((((s6.trans s7).trans s8).trans s9).trans s10).trans s11).trans (s12.trans s13)
          have s1013 := (s11.trans s12).trans s13
          refine ⟨sz (by show 3 ≤ 1000; decide), fun L nL => ?_⟩
          have hTD := hT2.same sD
          obtain ⟨Lt, Lc⟩ := hTD.ne nL
          have sL := same_upd (o := .lst [.ref p1, .ref p2, .ref p3]) nL
          have hL := upd_same (H := H13) (a := L) (o := .lst [.ref p1, .ref p2, .ref p3])
          have hTL := hTD.same sL
          have haL := rd_same (rd_same ha2 sD) sL
          have daL := (da2.same sD).same sL
          have i1 : Dq true t H5 (.ref p1) (.tuple (es1 ++ es2)) := dq_rd pn1 hp1 dp1
          have i2 : Dq true t H10 (.ref p2) (.tuple (es3 ++ es4 ++ es6)) := dq_rd pn2 hp2 dp2
          have i3 : Dq true t H13 (.ref p3) (.tuple (es7 ++ es8)) := dq_rd pn3 hp3 dp3
          have j1 := ((i1.same s513).same sL)
          have j2 := ((i2.same s1013).same sL)
          have j3 := i3.same sL
          generalize upd H13 L (.lst [.ref p1, .ref p2, .ref p3]) = HL at sL hL hTL haL daL j1 j2 j3 ⊢
          have kL := k2.trans (.of_same (sD.trans sL))
          refine name_as (σ' := [some (.ref t), some (.ref a), some (.int i), some (.ref L)]) rfl ?_
          refine ⟨_, rfl, _, rfl, a, xs, rfl, .inr (.inl haL.rd), fun g ng => ?_⟩
          have sg := same_upd (o := .lst xs) ng
          obtain ⟨gt, _⟩ := hTL.ne ng
          have jg : Dq true t (upd HL g (.lst xs)) (.ref g) (.list ds) := .lst gt upd_same (daL.same sg)
          have hTg := hTL.same sg
          refine ⟨_, rfl, sz (by show 1 ≤ 1000; decide), fun z nz => ?_⟩
          have sz1 := same_upd (o := .tup [.int 0]) nz
          obtain ⟨zt, _⟩ := hTg.ne nz
          refine cat_things (rd_same (rd_same haL sg) sz1) (.inl upd_same) an zt (feed_lst (hTg.same sz1)) ((daL.same sg).same sz1) (.cons (.int 0) .nil) fd (fitI (Nat.zero_le _)).one (by omega) fun p4 ps4 H14 s14 pn4 hp4 dp4 fp4 => ?_
          have hT14 := (hTg.same sz1).same s14
          refine ⟨sz (by show 0 ≤ 1000; decide), fun e0 ne0 => ?_⟩
          have se := same_upd (o := .tup []) ne0
          obtain ⟨et, _⟩ := hT14.ne ne0
          have hTe := hT14.same se
          have je : Dq true t (upd H14 e0 (.tup [])) (.ref e0) (.tuple []) := .tup et upd_same .nil
          refine ⟨sz (by show 3 ≤ 1000; decide), fun M nM => ?_⟩
          have sM := same_upd (o := .lst [.ref g, .ref p4, .ref e0]) nM
          obtain ⟨Mt, _⟩ := hTe.ne nM
          have hTM := hTe.same sM
          have hLM := sM _ _ (se _ _ (s14 _ _ (sz1 _ _ (sg _ _ hL))))
          refine ⟨L, M, _, _, rfl, rfl, hLM, upd_same, sz (by show 6 ≤ 1000; decide), fun N nN => ?_⟩
          have sN := same_upd (o := .lst [.ref p1, .ref p2, .ref p3, .ref g, .ref p4, .ref e0]) nN
          obtain ⟨Nt, _⟩ := hTM.ne nN
          have hTN := hTM.same sN
          have hN := upd_same (H := upd (upd H14 e0 (.tup [])) M (.lst [.ref g, .ref p4, .ref e0])) (a := N) (o := .lst [.ref p1, .ref p2, .ref p3, .ref g, .ref p4, .ref e0])
          have tail := (se.trans sM).trans sN
          have x1 := j1.same (((sg.trans sz1).trans s14).trans tail)
          have x2 := j2.same (((sg.trans sz1).trans s14).trans tail)
          have x3 := j3.same (((sg.trans sz1).trans s14).trans tail)
          have x4 := jg.same ((sz1.trans s14).trans tail)
          have x5 : Dq true t H14 (.ref p4) (.tuple (ds ++ [.int 0])) := dq_rd pn4 hp4 dp4
          have x5 := x5.same tail
          have x6 := je.same (sM.trans sN)
          have kN := kL.trans (.of_same (((sg.trans sz1).trans s14).trans tail))
          change tCall spDraw [] E0 (tCons (tVar 0) (tCons (tC (V.int 6)) tNil)) _ (upd (upd (upd H14 e0 (.tup [])) M (.lst [.ref g, .ref p4, .ref e0])) N (.lst [.ref p1, .ref p2, .ref p3, .ref g, .ref p4, .ref e0])) _
          generalize upd (upd (upd H14 e0 (.tup [])) M (.lst [.ref g, .ref p4, .ref e0])) N (.lst [.ref p1, .ref p2, .ref p3, .ref g, .ref p4, .ref e0]) = HN at hTN hN x1 x2 x3 x4 x5 x6 kN ⊢
          refine ⟨_, rfl, t, 6, k1 + 1, c, rfl, by decide, by decide, hTN, by omega, fun y HZ y0 y1 hTZ hKZ => ?_⟩
          have fin : ∀ v' d', Dq true t HN v' d' → FitT (B + 1) d' (2 * (m' + 3) + 200) n → WK (tl (.tuple ds)) (l + 1) d' → Q v' HZ := fun v' d' h1 h2 h3 => q v' d' HZ (hTZ.mono (by omega)) (kN.trans hKZ) (h1.kp hKZ) h2 h3
          have g1 : ∀ {es : List PyData} {a b : Nat}, es = (ds.drop a).take b → ∀ e ∈ es, WK (tl (.tuple ds)) (l + 1) e := fun eu e he => wid1 e (mem_cut eu he)
          have l1' := congrArg List.length eu1
          have l2' := congrArg List.length eu2
          have l3' := congrArg List.length eu3
          have l4' := congrArg List.length eu4
          have l6' := congrArg List.length eu6
          have l7' := congrArg List.length eu7
          have l8' := congrArg List.length eu8
          rw [List.length_take, List.length_drop] at l1' l2' l3' l4' l6' l7' l8'
          rw [HT.sIx_none, b1] at l1' l3' l8'
          rw [HT.sIx_none, b4] at l2'
          rw [b3, b2] at l4'
          rw [HT.sIx_none, b2] at l6' l7'
          have hNZ := hKZ _ _ Nt hN
          have : y = 0 ∨ y = 1 ∨ y = 2 ∨ y = 3 ∨ y = 4 ∨ y = 5 := by omega
          rcases this with rfl | rfl | rfl | rfl | rfl | rfl
          · exact ⟨N, _, _, _, rfl, rfl, .inl (.inl hNZ), rfl, fin _ _ x1 (fp1.tup.mono (by omega) (by omega)) (wk_tup (by rw [List.length_append]; omega) fun e he => (List.mem_append.mp he).elim (g1 eu1 e) (g1 eu2 e))⟩
          · exact ⟨N, _, _, _, rfl, rfl, .inl (.inl hNZ), rfl, fin _ _ x2 (fp2.tup.mono (by omega) (by omega)) (wk_tup (by rw [List.length_append, List.length_append]; omega) fun e he => (List.mem_append.mp he).elim (fun he => (List.mem_append.mp he).elim (g1 eu3 e) (g1 eu4 e)) (g1 eu6 e))⟩
          · exact ⟨N, _, _, _, rfl, rfl, .inl (.inl hNZ), rfl, fin _ _ x3 (fp3.tup.mono (by omega) (by omega)) (wk_tup (by rw [List.length_append]; omega) fun e he => (List.mem_append.mp he).elim (g1 eu7 e) (g1 eu8 e))⟩
          · exact ⟨N, _, _, _, rfl, rfl, .inl (.inl hNZ), rfl, fin _ _ x4 (fd.lst.mono (by omega) (by omega)) (wk_lst (by rw [tl]; exact Nat.le_refl _) wid1)⟩
          · exact ⟨N, _, _, _, rfl, rfl, .inl (.inl hNZ), rfl, fin _ _ x5 (fp4.tup.mono (by omega) (by omega)) (wk_tup (by rw [List.length_append]; show _ + 1 ≤ _; omega) fun e he => (List.mem_append.mp he).elim (wid1 e) fun h => by rw [List.mem_singleton.mp h]; exact wk_leaf (.inl ⟨_, rfl⟩))⟩
          · exact ⟨N, _, _, _, rfl, rfl, .inl (.inl hNZ), rfl, fin _ _ x6 ((fitT_nil (n := n - 1)).tup.mono (by omega) (by omega)) (wk_tup (Nat.zero_le _) fun e he => by cases he)⟩
        · rw [Bool.eq_false_iff.mpr kq]
          exact iteF (hn _ _ ⟨rfl, rfl, Bool.eq_false_iff.mpr kq⟩)
      · rintro _ _ ⟨rfl, rfl, kq⟩
        have fin : ∀ {HZ : Hp} {L : Addr} {k3 : Nat} v' d', k3 ≤ k + 3 → FeedC HZ t c k3 → Kp t H HZ → Dq true t HZ v' d' → FitT (B + 1) d' (2 * m + 200) n → WK (tl d) (l + 1) d' → Q v' HZ := fun v' d' h0 h1 h2 h3 h4 h5 => q v' d' _ (h1.mono (by omega)) h2 h3 h4 h5
        obtain ⟨u1, ty1, ki1⟩ := dq_kind (K := K) (n := "int") (.inl rfl) dq1
        obtain ⟨u2, ty2, ki2⟩ := dq_kind (K := K) (n := "bool") (.inr (.inl rfl)) dq1
        rename_i Hy
        refine seq_join2 (fun σ' H' => σ' = [some (.ref t), some v, none, none] ∧ H' = Hy) (fun nx' hn => ?_) ?_
        · refine ⟨_, rfl, _, _, u1, _, _, rfl, .ty _, ty1, ki1, _, rfl, ?_⟩
          by_cases ki : kindQ "int" d = true
          · rw [ki]
            refine iteT ⟨_, rfl, _, _, u2, _, _, rfl, .ty _, ty2, ki2, _, rfl, ?_⟩
            by_cases kb : kindQ "bool" d = true
            · rw [kb]
              exact iteF (hn _ _ ⟨rfl, rfl⟩)
            · rw [Bool.eq_false_iff.mpr kb]
              obtain ⟨i, rfl⟩ := numD_iff.mp (show numD d = true by unfold numD; rw [ki, Bool.eq_false_iff.mpr kb]; rfl)
              cases dq1
              have hi : i.natAbs ≤ B := ft.sh
              refine iteT ⟨_, rfl, _, _, rfl, rfl, _, rfl, _, _, rfl, rfl, _, rfl, _, _, rfl, rfl, _, rfl, rfl, sz (by show 7 ≤ 1000; decide), fun L nL => ?_⟩
              obtain ⟨Lt, _⟩ := hT1.ne nL
              have hL0 := upd_same (H := Hy) (a := L) (o := .lst [.int (i + 1), .int (i - 1), .int 0, .int (0 - i), .bl (decide (V.int i = V.int 1)), .non, .str "1"])
              refine ⟨_, rfl, t, 7, k1, c, rfl, by decide, by decide, hT1.new nL, by omega, fun y H2 y0 y1 hT2 hK2 => ?_⟩
              have hL2 := hK2 _ _ Lt hL0
              have k2 := (hK1.new nL).trans hK2
              have : y = 0 ∨ y = 1 ∨ y = 2 ∨ y = 3 ∨ y = 4 ∨ y = 5 ∨ y = 6 := by omega
              rcases this with rfl | rfl | rfl | rfl | rfl | rfl | rfl
              · exact ⟨L, _, _, _, rfl, rfl, .inl (.inl hL2), rfl, fin (L := L) _ _ (by omega) hT2 k2 (.int (i + 1)) ((fitI (by omega)).mono (by omega) (Nat.le_refl _)) (wk_leaf (.inl ⟨_, rfl⟩))⟩
              · exact ⟨L, _, _, _, rfl, rfl, .inl (.inl hL2), rfl, fin (L := L) _ _ (by omega) hT2 k2 (.int (i - 1)) ((fitI (by omega)).mono (by omega) (Nat.le_refl _)) (wk_leaf (.inl ⟨_, rfl⟩))⟩
              · exact ⟨L, _, _, _, rfl, rfl, .inl (.inl hL2), rfl, fin (L := L) _ _ (by omega) hT2 k2 (.int 0) ((fitI (Nat.zero_le _)).mono (by omega) (Nat.le_refl _)) (wk_leaf (.inl ⟨_, rfl⟩))⟩
              · exact ⟨L, _, _, _, rfl, rfl, .inl (.inl hL2), rfl, fin (L := L) _ _ (by omega) hT2 k2 (.int (0 - i)) ((fitI (by omega)).mono (by omega) (Nat.le_refl _)) (wk_leaf (.inl ⟨_, rfl⟩))⟩
              · exact ⟨L, _, _, _, rfl, rfl, .inl (.inl hL2), rfl, fin (L := L) _ _ (by omega) hT2 k2 (.bl _) (fitB.mono (by omega) (Nat.le_refl _)) (wk_leaf (.inr (.inr (.inr ⟨_, rfl⟩))))⟩
              · exact ⟨L, _, _, _, rfl, rfl, .inl (.inl hL2), rfl, fin (L := L) _ _ (by omega) hT2 k2 .non (fitN.mono (by omega) (Nat.le_refl _)) (wk_leaf (.inr (.inr (.inl rfl))))⟩
              · exact ⟨L, _, _, _, rfl, rfl, .inl (.inl hL2), rfl, fin (L := L) _ _ (by omega) hT2 k2 (.str "1") ((fitS ⟨by decide +kernel, by decide +kernel⟩ (by decide +kernel)).mono (by omega) (Nat.le_refl _)) (wk_leaf (.inr (.inl ⟨_, rfl⟩)))⟩
          · rw [Bool.eq_false_iff.mpr ki]
            exact iteF (hn _ _ ⟨rfl, rfl⟩)
        · rintro _ _ ⟨rfl, rfl⟩
          refine ⟨_, rfl, sz (by show 7 ≤ 1000; decide), fun L nL => ?_⟩
          obtain ⟨Lt, _⟩ := hT1.ne nL
          have sL := same_upd (o := .lst [.str "a", .str "zzzz", .str "", .str "Ab", v, .int 3, .non]) nL
          refine ⟨_, rfl, t, 7, k1, c, rfl, by decide, by decide, hT1.new nL, by omega, fun y H2 y0 y1 hT2 hK2 => ?_⟩
          have hL2 := hK2 _ _ Lt upd_same
          have k2 := (hK1.new nL).trans hK2
          have : y = 0 ∨ y = 1 ∨ y = 2 ∨ y = 3 ∨ y = 4 ∨ y = 5 ∨ y = 6 := by omega
          rcases this with rfl | rfl | rfl | rfl | rfl | rfl | rfl
          · exact ⟨L, _, _, _, rfl, rfl, .inl (.inl hL2), rfl, fin (L := L) _ _ (by omega) hT2 k2 (.str "a") ((fitS ⟨by decide +kernel, by decide +kernel⟩ (by decide +kernel)).mono (by omega) (Nat.le_refl _)) (wk_leaf (.inr (.inl ⟨_, rfl⟩)))⟩
          · exact ⟨L, _, _, _, rfl, rfl, .inl (.inl hL2), rfl, fin (L := L) _ _ (by omega) hT2 k2 (.str "zzzz") ((fitS ⟨by decide +kernel, by decide +kernel⟩ (by decide +kernel)).mono (by omega) (Nat.le_refl _)) (wk_leaf (.inr (.inl ⟨_, rfl⟩)))⟩
          · exact ⟨L, _, _, _, rfl, rfl, .inl (.inl hL2), rfl, fin (L := L) _ _ (by omega) hT2 k2 (.str "") ((fitS ⟨by decide +kernel, by decide +kernel⟩ (by decide +kernel)).mono (by omega) (Nat.le_refl _)) (wk_leaf (.inr (.inl ⟨_, rfl⟩)))⟩
          · exact ⟨L, _, _, _, rfl, rfl, .inl (.inl hL2), rfl, fin (L := L) _ _ (by omega) hT2 k2 (.str "Ab") ((fitS ⟨by decide +kernel, by decide +kernel⟩ (by decide +kernel)).mono (by omega) (Nat.le_refl _)) (wk_leaf (.inr (.inl ⟨_, rfl⟩)))⟩
          · exact ⟨L, _, _, _, rfl, rfl, .inl (.inl hL2), rfl, fin (L := L) _ _ (by omega) hT2 k2 ((dq1.same sL).kp hK2) ((ft.up (Nat.le_succ B)).mono (by omega) (Nat.le_refl _)) (wk_self (wd.mono (Nat.le_succ l)) (Nat.le_refl _))⟩
          · exact ⟨L, _, _, _, rfl, rfl, .inl (.inl hL2), rfl, fin (L := L) _ _ (by omega) hT2 k2 (.int 3) ((fitI (show 3 ≤ B + 1 by omega)).mono (by omega) (Nat.le_refl _)) (wk_leaf (.inl ⟨_, rfl⟩))⟩
          · exact ⟨L, _, _, _, rfl, rfl, .inl (.inl hL2), rfl, fin (L := L) _ _ (by omega) hT2 k2 .non (fitN.mono (by omega) (Nat.le_refl _)) (wk_leaf (.inr (.inr (.inl rfl))))⟩
theorem bent_all (T : Tx K mg) : ∀ n : Nat, FnOk P w K mg base CX0 (3 + n) T.f_w_bent T.d_w_bent ["_law_feed_here", "_law_thing"] (spBent n)
  | 0 => bent_step T (n := 0) (j := 2) (by decide) (T.F_w_bent.ok (k := 1) S_w_bent (fun vs H Q E h => h.elim) (fun cdv A outer s H vs Q E hr h => h.elim))
  | n + 1 => bent_step T (n := n + 1) (j := 3 + n) (by omega) (bent_all T n)
theorem ok_bent (T : Tx K mg) : FnOk P w K mg base CX0 10 T.f_w_bent T.d_w_bent ["_law_feed_here", "_law_thing"] ((spBent 3)) := by
  refine ⟨(bent_all (P := P) (w := w) (base := base) T 3).len, fun A outer s H args us vs Q E hr env bd rv h => ?_⟩
  exact (bent_all (base := base) T 3).run A outer s H args us vs Q E (hr.mono (by decide)) env bd rv h
end
end L55

set_option Elab.async false
set_option linter.all false
set_option maxRecDepth 100000
set_option maxHeartbeats 4000000
/-! set(t) of a tuple. -/
namespace My
open PySem PySem.Spec PyProof.Rows L2 PySem.SeqAt
section
variable {P : Program} {w : World} {A : Around} {E : Value → Shared → Prop} {s : Shared}
theorem callGT {l : Addr} {items : Array Value} {Q : Value → Shared → Prop} {T : Nat → Heap → Prop} (hh : A.handled = none) (hl : s.heap.IsTuple l items)
    (D : Adds P w A.in1.in1.in1 s.heap.objs.size [s.heap.objs.size + 1] items.size (fun i v => items[i]? = some v) T)
    (t0 : ∀ h : Heap, h.get? s.heap.objs.size = some (freshSet w) → (∀ b o, s.heap.get? b = some o → h.get? b = some o) → T 0 h)
    (q : ∀ (h' : Heap) (tk : Nat), T items.size h' → (∀ b o, s.heap.get? b = some o → h'.get? b = some o) → Q (.ref s.heap.objs.size) { s with heap := h', toks := tk }) :
    wpAny (model P w) A (call (.type "set") [.ref l]) Q E s := by
  obtain ⟨c, tl, f1⟩ := PySem.F.called_set.mro
  have f2 := PySem.F.called_set.made
  have f3 := PySem.F.called_set.sub
  refine wpAny_call (codeAny_of_tree (?_ : wpAny _ _ (callAny (.type "set") _) _ _ _))
  refine wpAny_pure ⟨Code.quiet_builtin _ (by decide +kernel), codeAny_builtin PySem.F.entry_type_call ?_⟩
  rw [Around.under_plain (weight_type_call_type "set" [.ref l] []) rfl]
  have f4 := PySem.F.called_set.notType
  have f5 := PySem.F.called_set.canCreate
  have f6 := F.typeCall_set_1 (.ref l)
  repeat (any_goals (first | assumption | wp_step))
  refine codeAny_mono (code_set_led1 (.ref l) (E := E) (Q₁ := fun v now => v = .ref s.heap.objs.size ∧ now = { s with heap := s.heap.push (freshSet w) }) ⟨rfl, rfl⟩) fun r now hr => ?_
  match r, hr with
  | .error e, hr => exact hr
  | .ok (.ret v), hr =>
    obtain ⟨rfl, rfl⟩ := hr
    have hS : (s.heap.push (freshSet w)).get? s.heap.objs.size = some (freshSet w) := Heap.get?_push_size _ rfl
    have hT : Shared.TypeIs { s with heap := s.heap.push (freshSet w) } (.ref s.heap.objs.size) "set" := ⟨_, hS, rfl⟩
    have f7 := F.called_set.init.lookup
    have f8 := F.called_set.init.bind (.ref s.heap.objs.size)
    repeat (any_goals (first | assumption | wp_step))
    refine codeAny_mono (codeAny_call_builtin (R := wants (fun r s₂ => r = .none ∧ ∃ h' tk, s₂ = { s with heap := h', toks := tk } ∧ T items.size h' ∧ ∀ b o, s.heap.get? b = some o → h'.get? b = some o) E) F.called_set.init.plain F.entry_set_init (check_set_init_1 hT ?_)) fun r₂ s₂ hr₂ => ?_
    · obtain ⟨⟨ocls, odict, odata, oslots⟩, o1, o2, nl, o3⟩ := hl
      simp only at o2 o3
      subst o2 o3
      have o4 : (s.heap.push (freshSet w)).get? l = some { cls := .type "tuple", dict := odict, data := .seq items nl, slots := oslots } := Heap.get?_push_of_some _ o1
      have f9 := F.sub_tuple_set
      have f10 := F.sub_tuple_frozenset
      have f11 : (Value.type "tuple" == Value.type "dict") = false := by decide
      have hl1 : (s.heap.push (freshSet w)).IsTuple l items := ⟨_, o4, rfl, nl, rfl⟩
      have lS : l < s.heap.objs.size := Heap.lt_size o1
      have z1 : (s.heap.push (freshSet w)).objs.size = s.heap.objs.size + 1 := Heap.size_push ..
      unfold Builtin.«set.__init__» noKeywords Builtin.Frozenset.updateFrom
      generalize hPI : pyIter = PI
      wp_walk
      subst hPI
      refine wpAny_pyIter_tuple hl1 (wpAny_bind (wpAny_runValue ?_))
      have ne1 : l ≠ (s.heap.push (freshSet w)).objs.size := by rw [z1]; exact Nat.ne_of_lt (Nat.lt_succ_of_lt lS)
      have D2 := D
      rw [← z1] at D2
      refine updateG ((Walks.tuple (by simp [hh]) _ l ne1 items).toS) (S := s.heap.objs.size) (by rw [z1]; simp only [List.mem_cons, List.not_mem_nil, or_false, not_or]; exact ⟨Nat.ne_of_lt (Nat.lt_succ_self _), (Nat.ne_of_lt lS).symm⟩) D2 (items.size - 0) 0 _ rfl (Nat.zero_le _) ⟨⟨_, Heap.get?_push_size _ rfl, rfl, rfl⟩, hl1.push _⟩ (t0 _ (Heap.get?_push_of_some _ hS) fun b o e => Heap.get?_push_of_some _ (Heap.get?_push_of_some _ e)) fun s' m t1 => ?_
      obtain ⟨h', g', d', tk', os'⟩ := s'
      have eg : g' = s.gens := m.gens
      have ed : d' = s.drawn := m.drawn
      have eo : os' = s.os := m.os
      subst eg ed eo
      refine wpAny_pure (wpAny_pure ⟨rfl, h', tk', rfl, t1, fun b o e => ?_⟩)
      have lt := Heap.lt_size e
      refine m.heap b o ?_ (Heap.get?_push_of_some _ (Heap.get?_push_of_some _ e))
      rw [z1]
      simp only [List.mem_cons, List.not_mem_nil, or_false, not_or]
      exact ⟨Nat.ne_of_lt lt, Nat.ne_of_lt (Nat.lt_succ_of_lt lt)⟩
    · match r₂, hr₂ with
      | .error e, hr₂ => exact hr₂
      | .ok (.ret r), hr₂ =>
        obtain ⟨rfl, h', tk, rfl, t1, kp⟩ := hr₂
        repeat (any_goals (first | assumption | wp_step))
        exact q _ _ t1 kp
end
section
variable {X : Cx}
def rSetNT (K : PySem.W.Frag) (w : World) : List V → Hp → VK → Prop := fun xs H Q => ∃ (l : Addr) (ks : List Ent), xs = [V.ref l] ∧ SqT K H l (ks.map fun p => V.ref p.1) ∧ (∀ p ∈ ks, Nk H (.ref p.1) p.2 ∧ p.2.depth ≤ 8) ∧ ks.length ≤ 76 ∧
  ∀ a M, H a = none → (∀ p ∈ M, p ∈ ks) → (∀ p ∈ ks, p.2 ∈ M.map (·.2)) → (M.map (·.2)).Nodup → Q (.ref a) (upd H a (SetO w a M))
theorem cr_setNT (hc : X.calm = true) (hu : X.A.units + 64 < cLine) : CallR X (.type "set") (rSetNT X.K X.w) := by
  intro pins s σ H xs us Q I r h
  obtain ⟨l, ks, rfl, hl, hk, few, q⟩ := h
  rw [Vals.ref1 r]
  obtain ⟨its, rv, pl, hz⟩ := I.tuple hl
  have ei := vals_ref rv
  have non : ∀ b, s.heap.objs.size ≤ b → s.heap.get? b = none := fun b lb => by
    cases e : s.heap.get? b with
    | none => rfl
    | some o => exact absurd (Nat.lt_of_lt_of_le (Heap.lt_size e) lb) (Nat.lt_irrefl _)
  refine callGT (P := X.prog) (w := X.w) (items := its.toArray) (I.ok.hd hc) pl (addsN (h0 := s.heap) (ks := ks) (by rw [List.size_toArray, ei, List.length_map]) few (fun i v e => ?_) (fun p hp => (hk p hp).1.keyAt I (hk p hp).2) (non _ (Nat.le_refl _)) (fun b hb => ?_) ?_ (by show X.A.units + 1 + 1 + 1 + 8 < cLine; omega))
    (fun h g kp => ⟨⟨[], _, _, _, fresh_set g, .none ks⟩, kp⟩) fun h' tk t1 kp => ?_
  · rw [List.getElem?_toArray, ei, List.getElem?_map] at e
    cases e2 : ks[i]? with
    | none => rw [e2] at e; cases e
    | some p => rw [e2] at e; exact ⟨p, rfl, (Option.some.inj e).symm⟩
  · rw [List.mem_singleton.mp hb]; exact non _ (Nat.le_succ _)
  · intro z
    exact Nat.ne_of_lt (Nat.lt_succ_self _) (List.mem_singleton.mp z)
  · obtain ⟨⟨M, es, ep, t, Z, g⟩, _⟩ := t1
    rw [List.size_toArray, ei, List.length_map] at g
    refine ⟨.ref s.heap.objs.size, upd H s.heap.objs.size (SetO X.w s.heap.objs.size M), I.laid (t' := tk) kp (Nat.le_refl _) (setO_new Z.w), rfl, q _ M (I.hok.fresh (Nat.le_refl _)) (fun p hp => List.mem_of_mem_take (g.sub p hp)) (fun p hp => g.all p (by rw [List.take_length]; exact hp)) Z.nd⟩
end
end My

set_option Elab.async false
set_option linter.all false
set_option maxRecDepth 100000
set_option maxHeartbeats 4000000
/-! set(t), t a tuple of numbers. -/
namespace My
open PySem PySem.Spec PyProof.Rows L2 PySem.SeqAt
section
variable {X : Cx}
def rSetIT (K : PySem.W.Frag) (w : World) : List V → Hp → VK → Prop := fun xs H Q => ∃ (l : Addr) (zs : List Int), xs = [V.ref l] ∧ SqT K H l (zs.map V.int) ∧ zs.length ≤ 1000 ∧ ∀ a L, H a = none → (∀ x, x ∈ L ↔ x ∈ zs) → L.Nodup → Q (.ref a) (upd H a (SetIO w a L))
theorem cr_setIT (hc : X.calm = true) : CallR X (.type "set") (rSetIT X.K X.w) := by
  intro pins s σ H xs us Q I r h
  obtain ⟨l, zs, rfl, hl, few, q⟩ := h
  rw [Vals.ref1 r]
  obtain ⟨its, rv, pl, hz⟩ := I.tuple hl
  have li : its.length = zs.length := by rw [← rv.length, List.length_map]
  have non : ∀ b, s.heap.objs.size ≤ b → s.heap.get? b = none := fun b lb => by
    cases e : s.heap.get? b with
    | none => rfl
    | some o => exact absurd (Nat.lt_of_lt_of_le (Heap.lt_size e) lb) (Nat.lt_irrefl _)
  refine callGT (P := X.prog) (w := X.w) (items := its.toArray) (I.ok.hd hc) pl (addsI (h0 := s.heap) (xs := zs) (by rw [List.size_toArray, li]) (by unfold scanBound; omega) (fun i v e => ?_) (non _ (Nat.le_refl _)) (fun b hb => ?_) ?_)
    (fun h g kp => ⟨⟨[], fresh_setI g, (fun x => by rw [List.take_zero]), Nat.le_refl _⟩, kp⟩) fun h' tk t1 kp => ?_
  · rw [List.getElem?_toArray] at e
    have il := (List.getElem?_eq_some_iff.mp e).1
    obtain ⟨v2, hv2, rx⟩ := rv.get (i := i) (x := .int zs[i]) (by rw [List.getElem?_map, List.getElem?_eq_getElem (by omega)]; rfl)
    rw [e] at hv2
    cases hv2
    obtain ⟨tk, rfl⟩ := rx
    exact ⟨_, tk, List.getElem?_eq_getElem (by omega), rfl⟩
  · rw [List.mem_singleton.mp hb]; exact non _ (Nat.le_succ _)
  · exact fun z => Nat.ne_of_lt (Nat.lt_succ_self _) (List.mem_singleton.mp z)
  · obtain ⟨⟨L, Z, g, _⟩, _⟩ := t1
    rw [List.size_toArray, li, List.take_length] at g
    exact ⟨.ref s.heap.objs.size, upd H s.heap.objs.size (SetIO X.w s.heap.objs.size L), I.laid (t' := tk) kp (Nat.le_refl _) (setIO_new Z), rfl, q _ L (I.hok.fresh (Nat.le_refl _)) g Z.nd⟩
end
end My

set_option Elab.async false
set_option linter.all false
set_option maxRecDepth 100000
set_option maxHeartbeats 4000000
/-! sorted(t) of a tuple of nested tuples. -/
namespace My
open PySem PySem.Spec PyProof.Rows L2 PySem.SeqAt PySem.W
section
variable {prog : Program} {w : World} {A : Around} {E : Value → Shared → Prop} {s : Shared}
/-- the list of a tuple's items, made anew -/
abbrev listed (h : Heap) (us : List Value) : Heap := (h.push (seqObj "list" #[] 0)).update h.objs.size (Obj.mapSeq (· ++ us.toArray))
theorem collect_tup {t : Addr} {us : List Value} {R : List Value → Shared → Prop} (x : IsTup s.heap t us.toArray) (n : us.length ≤ sizeLine) (q : R us { s with heap := listed s.heap us }) : wpAny (model prog w) A (collect (.ref t)) R E s := by
  obtain ⟨ob, at_, cl, e0, dt⟩ := x
  have up := Heap.get?_push_of_some (seqObj "list" #[] 0) at_
  have new : (s.heap.push (seqObj "list" #[] 0)).get? s.heap.objs.size = _ := Heap.get?_push_size _ rfl
  have tt : (Value.type "tuple" == Value.type "tuple") = true := by rfl
  unfold collect
  refine wpAny_bind (wpAny_runValue (codeAny_builtin entry_proto_collect' (show wpAny _ _ (do again (.builtin "list.__iadd__" ⟨[← newList [], .ref t], []⟩)) _ _ s from ?_)))
  refine wpAny_bind (wpAny_newList (wpAny_pure ⟨Code.quiet_builtin _ (by decide +kernel), codeAny_builtin entry_list_iadd' (show wpAny _ _ (Builtin.List.listExtendWith (.ref s.heap.objs.size) (.ref t) (.ref s.heap.objs.size)) _ _ { s with heap := s.heap.push (seqObj "list" #[] 0) } from ?_)⟩))
  unfold Builtin.List.listExtendWith
  refine wpAny_bind (wpAny_typeOf (T := "tuple") ⟨ob, up, cl⟩ ?_)
  rw [if_pos (by rw [tt]; simp)]
  refine wpAny_bind (listItems_at up dt (wpAny_bind (listItems_at (n := 0) (xs := #[]) new rfl ?_)))
  rw [if_neg (by simp)]
  have fits : (#[] ++ us.toArray).size ≤ sizeLine + 1 := by
    rw [Array.size_append, List.size_toArray]
    exact Nat.le_succ_of_le (by simpa using n)
  refine wpAny_bind (listUpdate_at (n := 0) (xs := #[]) new rfl (wpAny_pure ?_) (Nat.zero_le _) fits)
  have got : (listed s.heap us).get? s.heap.objs.size = _ := get?_update_seq new (· ++ us.toArray)
  refine wpAny_bind (m := load s.heap.objs.size) (wpAny_load got ?_)
  have e : ((#[] : Array Value) ++ us.toArray).toList = us := by simp
  show wpAny _ _ (pure ((#[] : Array Value) ++ us.toArray).toList) R E _
  rw [e]
  exact wpAny_pure q
end
section
variable {X : Cx}
/-- sorted(t), t a tuple -/
def rSortTL (K : PySem.W.Frag) : List V → Hp → VK → Prop := fun vs H Q => ∃ (l : Addr) (xs : List V) (ks : List NestedKey), vs = [.ref l] ∧ SqT K H l xs ∧ NkAll H xs ks ∧ Sbl ks ∧ xs.length ≤ 1000 ∧ ∀ p, H p = none → Q (.ref p) (upd H p (.lst ((srt xs ks).map Prod.fst)))
theorem cr_sortTL (un : X.A.units + 64 < cLine) : CallR X (.builtin "sorted") (rSortTL X.K) := by
  intro pins s σ H vs us Q I r h
  obtain ⟨l, xs, ks, rfl, hl, nk, sb, lx, q⟩ := h
  rw [Vals.ref1 r]
  obtain ⟨its, rv, pl, _⟩ := I.tuple hl
  have lv : its.length ≤ sizeLine := by rw [← rv.length, sizeLine_eq]; omega
  refine Calls.call_function_entry kind_sorted plain_sorted entry_sorted (args_sorted1 _) ?_
  unfold Builtin.«sorted»
  have k1 : ∀ b o, s.heap.get? b = some o → (listed s.heap its).get? b = some o := fun b o e => by
    unfold listed
    rw [Heap.get?_update_ne _ _ _ _ (Nat.ne_of_lt (Heap.lt_size e))]
    exact Heap.get?_push_of_some _ e
  have I1 : Inv X pins σ H { s with heap := listed s.heap its, toks := s.toks } := I.kept k1
  have fresh := I1.hok.fresh (Nat.le_refl _)
  refine wpAny_bind (m := checkCount "sorted" 1 1 _) (wpAny_pure (wpAny_bind (collect_tup pl lv (wpAny_bind (wpAny_newList ?_ lv)))))
  exact wpAny_bind (wpAny_holding (sort_tail (Q := fun v s' => wpAny (model X.prog X.w) X.A.in1 (ret v) _ _ s') I1 (by omega) rv nk sb lv _ rfl fun s' J => wpAny_pure ⟨_, rfl, .ref _, _, J, rfl, q _ fresh⟩))
end
end My

set_option Elab.async false
set_option linter.all false
set_option maxRecDepth 100000
set_option maxHeartbeats 4000000
/-! Sets of texts: set(xs), sorted(set). -/
namespace My
open PySem PySem.Spec PyProof.Rows L2 PySem.SeqAt PySem.W
abbrev SKd (P : Program) (w : World) : PySem.KeyKind P w Str := PySem.strKind P w
def GoodX (w : World) (e : Int × Value) (x : Str) : Prop := (∃ tk, e.2 = Value.str x tk) ∧ e.1 = hashStr w x
/-- entries and their texts -/
inductive Texts (w : World) : List (Int × Value) → List Str → Prop
  | nil : Texts w [] []
  | cons {e : Int × Value} {x : Str} {es : List (Int × Value)} {L : List Str} : GoodX w e x → Texts w es L → Texts w (e :: es) (x :: L)
theorem Texts.perm {w : World} {es es' : List (Int × Value)} (p : es'.Perm es) : ∀ {L : List Str}, Texts w es L → ∃ L', Texts w es' L' ∧ L'.Perm L := by
  induction p with
  | nil => intro L h; exact ⟨L, h, .refl _⟩
  | cons x p ih =>
    intro L h
    cases h with
    | cons g t =>
      obtain ⟨L', h', p'⟩ := ih t
      exact ⟨_ :: L', .cons g h', p'.cons _⟩
  | swap x y l =>
    intro L h
    cases h with
    | cons g t =>
      cases t with
      | cons g2 t => exact ⟨_, .cons g2 (.cons g t), .swap _ _ _⟩
  | trans p q ih1 ih2 =>
    intro L h
    obtain ⟨L1, h1, p1⟩ := ih2 h
    obtain ⟨L2, h2, p2⟩ := ih1 h1
    exact ⟨L2, h2, p2.trans p1⟩
theorem Texts.length {w : World} : ∀ {es : List (Int × Value)} {L : List Str}, Texts w es L → es.length = L.length
  | _, _, .nil => rfl
  | _, _, .cons _ t => congrArg (· + 1) t.length
theorem Texts.elems {P : Program} {w : World} : ∀ {es : List (Int × Value)} {L : List Str}, Texts w es L → ElemsOf (SKd P w) es
  | _, _, .nil => fun e he => by cases he
  | _, _, .cons (e := e0) (x := x) ⟨⟨tk, h1⟩, h2⟩ t => fun e he => by
    rcases List.mem_cons.mp he with z | z
    · rw [z]
      exact ⟨⟨x, by rw [h1]; exact strKind_is P w x tk, h2⟩, by rw [h1]; rfl⟩
    · exact t.elems e z
theorem Texts.has {P : Program} {w : World} (k : Str) : ∀ {es : List (Int × Value)} {L : List Str}, Texts w es L → (k ∈ L ↔ ∃ e ∈ es, (SKd P w).is k e.2 = true)
  | _, _, .nil => ⟨(fun h => by cases h), fun ⟨e, h, _⟩ => by cases h⟩
  | _, _, .cons (e := e0) (x := x) ⟨⟨tk, h1⟩, h2⟩ t => by
    have ih := t.has (P := P) k
    constructor
    · intro h
      rcases List.mem_cons.mp h with z | z
      · exact ⟨e0, .head _, by rw [h1, z]; exact strKind_is P w x tk⟩
      · obtain ⟨e, he, q⟩ := ih.mp z
        exact ⟨e, .tail _ he, q⟩
    · rintro ⟨e, he, q⟩
      rcases List.mem_cons.mp he with z | z
      · rw [z, h1] at q
        rw [(SKd P w).inj _ _ _ q (strKind_is P w x tk)]
        exact .head _
      · exact .tail _ (ih.mpr ⟨e, z, q⟩)
/-- the set of texts at a -/
structure SetX (w : World) (h : Heap) (a : Addr) (L : List Str) : Prop where
  ex : ∃ o es ep t, h.get? a = some o ∧ o.ExactSet ∧ o.data = .set es ep t ∧ Texts w es.toList L ∧ t.fits es.size = true ∧ Ris t.place.toList ∧ (w.params.followText "set-order" = true ∨ t.led = true)
  nd : L.Nodup
  few : L.length < scanBound
theorem SetX.at {w : World} {h h' : Heap} {a : Addr} {L : List Str} (Z : SetX w h a L) (k : ∀ o, h.get? a = some o → h'.get? a = some o) : SetX w h' a L := ⟨let ⟨o, es, ep, t, g, r⟩ := Z.ex; ⟨o, es, ep, t, k o g, r⟩, Z.nd, Z.few⟩
section
variable {P : Program} {w : World} {A : Around} {E : Value → Shared → Prop} {s : Shared} {a : Addr} {L : List Str}
/-- the new entry is stored, the table laid anew where it is too full -/
theorem tailX {g : Bool → Sem Unit} (hg : ∀ (b : Bool) (s₁ : Shared) (Q' : Unit → Shared → Prop), Q' () s₁ → wpAny (model P w) A (g b) Q' E s₁) {o : Obj} {es : Array (Int × Value)} {ep : Nat} {t : SetTable} (g1 : s.heap.get? a = some o) (g2 : o.ExactSet) (g3 : o.data = .set es ep t)
    {es1 : Array (Int × Value)} {t2 : SetTable} {L1 : List Str} (tx : Texts w es1.toList L1) (nd : L1.Nodup) (few : L1.length < scanBound) (ft : t2.fits es1.size = true) (ri : Ris t2.place.toList) (ld : w.params.followText "set-order" = true ∨ t2.led = true) {dm : Bool} {R : Option Bool → Shared → Prop}
    (q : ∀ h' L', Heap.SameBut a s.heap h' → SetX w h' a L' → L'.Perm L1 → R (some true) { s with heap := h' }) :
    wpAny (model P w) A (do
        storeSet a es1 t2
        if (!dm && t2.tooFull) = true then do
            g (relayAll t2 es1 (SetTable.grown es1.size)).2.2
            storeSet a (relayAll t2 es1 (SetTable.grown es1.size)).1 (relayAll t2 es1 (SetTable.grown es1.size)).2.1
            pure (some true)
          else pure (some true)) R E s := by
  have l1 : es1.size < scanBound := by rw [← Array.length_toList, tx.length]; exact few
  refine wpAny_bind (wpAny_storeSet_of g1 g3 ?_ (fits_of_scanBound l1))
  have k1 := store_at (es' := es1) (t' := t2) g1 g3
  have sb1 := Heap.SameBut.update s.heap a (Obj.putSet es1 t2)
  by_cases c : (!dm && t2.tooFull) = true
  · refine wp_if_pos c ?_
    have pm := relayAll_perm t2 es1 (SetTable.grown es1.size)
    have ft3 := relayAll_fits t2 es1 (SetTable.grown es1.size)
    have ri3 := relayAll_ris t2 es1 (SetTable.grown es1.size)
    have ld3 := relayAll_led t2 es1 (SetTable.grown es1.size)
    generalize relayAll t2 es1 (SetTable.grown es1.size) = Y at pm ft3 ri3 ld3 ⊢
    obtain ⟨es2, t3, gave⟩ := Y
    obtain ⟨L2, tx2, p2⟩ := tx.perm pm
    have l2 : es2.size < scanBound := by rw [← Array.length_toList, tx2.length, p2.length_eq]; exact few
    refine wpAny_bind (hg _ _ _ (wpAny_bind (wpAny_storeSet_of k1 rfl ?_ (fits_of_scanBound l2))))
    refine wpAny_pure (q _ L2 (sb1.trans (Heap.SameBut.update _ a _)) ⟨⟨_, es2, _, t3, store_at (es' := es2) (t' := t3) k1 rfl, g2, rfl, tx2, ft3, ri3, ld.imp id fun z => by rw [ld3]; exact z⟩, p2.nodup_iff.mpr nd, by rw [p2.length_eq]; exact few⟩ p2)
  · exact wp_if_neg c (wpAny_pure (q _ L1 sb1 ⟨⟨_, es1, _, t2, k1, g2, rfl, tx, ft, ri, ld⟩, nd, few⟩ (.refl _)))
theorem addX (Z : SetX w s.heap a L) {x : Str} {tk : Tok} (room : L.length + 1 < scanBound) {Q : Bool → Shared → Prop} (q : ∀ b h' L', Heap.SameBut a s.heap h' → SetX w h' a L' → (x ∈ L → L' = L) → (x ∉ L → L'.Perm (x :: L)) → Q b { s with heap := h' }) :
    wpAny (model P w) A (setAddHashed a (.str x tk) ((SKd P w).hash x)) Q E s := by
  obtain ⟨o, es, ep, t, g1, g2, g3, tx, ft, ri, ld⟩ := Z.ex
  have el : ElemsOf (SKd P w) es.toList := tx.elems
  have lb : es.size < scanBound := by rw [← Array.length_toList, tx.length]; exact Z.few
  unfold setAddHashed setAddHashedIn
  refine wpAny_holding (wpAny_bind (wpAny_setState_of g1 g3 ft ?_))
  dsimp only
  rw [byScan_of (rfl : (Value.str x tk).scannable = true) lb el]
  simp only [↓reduceIte]
  unfold setAddByScan
  refine wpAny_bind (wpAny_bind (wpAny_rule (wpAny_bind (wpAny_setScan_of (strKind_is P w x tk) g1 g3 ft el ?_))))
  cases fi : List.findIdx? (fun e => (SKd P w).is x e.2) es.toList with
  | some j =>
    obtain ⟨lj, pj, _⟩ := List.findIdx?_eq_some_iff_getElem.mp fi
    have xin : x ∈ L := (tx.has (P := P) x).mpr ⟨_, List.getElem_mem lj, pj⟩
    exact wpAny_pure (wpAny_pure (q _ s.heap L (Heap.SameBut.refl a s.heap) Z (fun _ => rfl) fun z => absurd xin z))
  | none =>
    have xout : x ∉ L := fun z => by
      obtain ⟨e, he, p⟩ := (tx.has (P := P) x).mp z
      rw [List.findIdx?_eq_none_iff.mp fi e he] at p
      cases p
    have pm := layNew_perm t es ((SKd P w).hash x) (.str x tk)
    have ft1 := layNew_fits t es ((SKd P w).hash x) (.str x tk)
    have ri1 := layNew_ris t es ((SKd P w).hash x) (.str x tk) ri
    have ld1 := layNew_led t es ((SKd P w).hash x) (.str x tk)
    dsimp only
    generalize layNew t es ((SKd P w).hash x) (.str x tk) = Y at pm ft1 ri1 ld1 ⊢
    obtain ⟨es1, t1, dm, gave⟩ := Y
    dsimp only at pm ft1 ri1 ld1 ⊢
    rw [Array.toList_push] at pm
    obtain ⟨L1, tx1, p1⟩ := Texts.perm (pm.trans (List.perm_append_singleton _ _)) (Texts.cons (x := x) ⟨⟨tk, rfl⟩, rfl⟩ tx)
    have nd1 : L1.Nodup := p1.nodup_iff.mpr (List.nodup_cons.mpr ⟨xout, Z.nd⟩)
    have few1 : L1.length < scanBound := by rw [p1.length_eq]; exact room
    have led1 : w.params.followText "set-order" = true ∨ t1.led = true := ld.imp id fun z => by rw [ld1]; exact z
    have gw : ∀ (b : Bool) (s₁ : Shared) (Q' : Unit → Shared → Prop), Q' () s₁ → wpAny (model P w) A (match b with | true => rule "set.scan.the-table-gave-way" | false => pure ()) Q' E s₁ := fun b s₁ Q' q => by cases b <;> first | exact wpAny_pure q | exact wpAny_rule q
    have fin : ∀ h' L', Heap.SameBut a s.heap h' → SetX w h' a L' → L'.Perm L1 → Q true { s with heap := h' } := fun h' L' sb Z' p => q true h' L' sb Z' (fun z => absurd z xout) fun _ => p.trans p1
    refine wpAny_bind (gw _ _ _ ?_)
    by_cases pl : t1.plain = true
    · refine wp_if_pos pl (wpAny_bind ?_)
      rw [hashByValue_scannable 8 (rfl : (Value.str x tk).scannable = true)]
      refine wpAny_pure ?_
      refine tailX (fun b s₁ Q' q => gw b s₁ Q' q) g1 g2 g3 tx1 nd1 few1 ?_ ?_ ?_ fun h' L' sb Z' p => wpAny_pure (fin h' L' sb Z' p)
      · first | exact ft1 | (split <;> first | exact ft1 | exact SetTable.fits_plain_off ft1)
      · first | exact ri1 | (split <;> exact ri1)
      · first | exact led1 | (split <;> exact led1)
    · refine wp_if_neg pl (wpAny_bind (wpAny_pure ?_))
      simp only [↓reduceIte]
      exact tailX (fun b s₁ Q' q => gw b s₁ Q' q) g1 g2 g3 tx1 nd1 few1 ft1 ri1 led1 fun h' L' sb Z' p => wpAny_pure (fin h' L' sb Z' p)
theorem addsX {h0 : Heap} {S : Addr} {wr : List Addr} {xs : List Str} {n : Nat} {Pv : Nat → Value → Prop} (hn : n = xs.length) (few : xs.length + 1 < scanBound) (pv : ∀ i v, Pv i v → ∃ x tk, xs[i]? = some x ∧ v = .str x tk) (nS : h0.get? S = none) (nw : ∀ b ∈ wr, h0.get? b = none) (Sw : S ∉ wr) :
    Adds P w A S wr n Pv (fun i h => (∃ L, SetX w h S L ∧ (∀ x, x ∈ L ↔ x ∈ xs.take i) ∧ L.length ≤ i) ∧ ∀ b o, h0.get? b = some o → h.get? b = some o) where
  stay := fun i h h' ⟨⟨L, Z, g⟩, kp⟩ st => ⟨⟨L, Z.at fun o e => st _ _ Sw e, g⟩, fun b o e => st b o (fun z => by rw [nw b z] at e; cases e) (kp b o e)⟩
  add := fun i v s Q E lt pvi ⟨⟨L, Z, g, ll⟩, kp⟩ q => by
    obtain ⟨x, tk, ex, rfl⟩ := pv i v pvi
    unfold setAdd
    refine wpAny_holding (wpAny_bind ((SKd P w).pyHash (strKind_is P w x tk) ?_))
    refine addX (s := { s with toks := s.toks + 1 }) Z (by omega) fun b h' L' sb Z' c1 c2 => q b h' _ ⟨⟨L', Z', fun y => ?_, ?_⟩, fun c o e => ?_⟩ (Nat.le_add_right _ _) sb
    · rw [List.take_add_one, ex]
      show _ ↔ y ∈ xs.take i ++ [x]
      rw [List.mem_append, List.mem_singleton, ← g y]
      by_cases c : x ∈ L
      · rw [c1 c]
        exact ⟨.inl, fun z => z.elim id fun e => by rw [e]; exact c⟩
      · rw [(c2 c).mem_iff, List.mem_cons]
        exact Or.comm
    · by_cases c : x ∈ L
      · rw [c1 c]; omega
      · rw [(c2 c).length_eq]; exact Nat.succ_le_succ ll
    · exact (sb.2 c (fun z => by rw [z, nS] at e; cases e)).trans (kp c o e)
end
theorem fresh_setX {w : World} {h : Heap} {a : Addr} (g : h.get? a = some (freshSet w)) : SetX w h a [] where
  ex := ⟨_, #[], 0, _, g, ⟨rfl, rfl, rfl⟩, rfl, .nil, rfl, List.Pairwise.nil, by
    cases e : w.params.followText "set-order"
    · exact .inr rfl
    · exact .inl rfl⟩
  nd := List.nodup_nil
  few := by show 0 < scanBound; unfold scanBound; decide
def SetXO (w : World) (a : Addr) (L : List Str) : HO := .ext fun h => SetX w h a L
theorem setXO_new {P : Program} {w : World} {H : Hp} {h : Heap} {a : Addr} {L : List Str} (Z : SetX w h a L) : ObjOk P w H h a (SetXO w a L) := by
  obtain ⟨o, es, ep, t, g, _⟩ := Z.ex
  exact ⟨Z, ⟨o, g⟩, fun h1 h2 p k => SetX.at (p : SetX w h1 a L) fun o e => k o e⟩
section
variable {X : Cx}
/-- set(xs), xs a list of texts -/
def rSetX (K : PySem.W.Frag) (w : World) : List V → Hp → VK → Prop := fun xs H Q => ∃ (l : Addr) (zs : List Str), xs = [V.ref l] ∧ SqL K H l (zs.map V.str) ∧ zs.length ≤ 1000 ∧ ∀ a L, H a = none → (∀ x, x ∈ L ↔ x ∈ zs) → L.Nodup → Q (.ref a) (upd H a (SetXO w a L))
theorem cr_setX (hc : X.calm = true) : CallR X (.type "set") (rSetX X.K X.w) := by
  intro pins s σ H xs us Q I r h
  obtain ⟨l, zs, rfl, hl, few, q⟩ := h
  rw [Vals.ref1 r]
  obtain ⟨its, rv, pl, hz⟩ := I.list hl
  have li : its.length = zs.length := by rw [← rv.length, List.length_map]
  have non : ∀ b, s.heap.objs.size ≤ b → s.heap.get? b = none := fun b lb => by
    cases e : s.heap.get? b with
    | none => rfl
    | some o => exact absurd (Nat.lt_of_lt_of_le (Heap.lt_size e) lb) (Nat.lt_irrefl _)
  refine callG (P := X.prog) (w := X.w) (items := its.toArray) (I.ok.hd hc) pl.isList (addsX (h0 := s.heap) (xs := zs) (by rw [List.size_toArray, li]) (by unfold scanBound; omega) (fun i v e => ?_) (non _ (Nat.le_refl _)) (fun b hb => ?_) ?_)
    (fun h g kp => ⟨⟨[], fresh_setX g, (fun x => by rw [List.take_zero]), Nat.le_refl _⟩, kp⟩) fun h' tk t1 kp => ?_
  · rw [List.getElem?_toArray] at e
    have il := (List.getElem?_eq_some_iff.mp e).1
    obtain ⟨v2, hv2, rx⟩ := rv.get (i := i) (x := .str zs[i]) (by rw [List.getElem?_map, List.getElem?_eq_getElem (by omega)]; rfl)
    rw [e] at hv2
    cases hv2
    obtain ⟨tk, rfl⟩ := rx
    exact ⟨_, tk, List.getElem?_eq_getElem (by omega), rfl⟩
  · rw [List.mem_singleton.mp hb]; exact non _ (Nat.le_succ _)
  · exact fun z => Nat.ne_of_lt (Nat.lt_succ_self _) (List.mem_singleton.mp z)
  · obtain ⟨⟨L, Z, g, _⟩, _⟩ := t1
    rw [List.size_toArray, li, List.take_length] at g
    exact ⟨.ref s.heap.objs.size, upd H s.heap.objs.size (SetXO X.w s.heap.objs.size L), I.laid (t' := tk) kp (Nat.le_refl _) (setXO_new Z), rfl, q _ L (I.hok.fresh (Nat.le_refl _)) g Z.nd⟩
end
end My

set_option Elab.async false
set_option linter.all false
set_option maxRecDepth 100000
set_option maxHeartbeats 4000000
namespace My
open PySem PySem.Spec PyProof.Rows L2 PySem.SeqAt PySem.W
/-- texts, sorted -/
def srtX (L : List Str) : List Str := L.mergeSort (fun a b => decide (a.cps.toList ≤ b.cps.toList))
theorem srtX_perm (L : List Str) : (srtX L).Perm L := List.mergeSort_perm _ _
theorem srtX_pw (L : List Str) : (srtX L).Pairwise (fun a b => a.cps.toList ≤ b.cps.toList) := by
  have := List.pairwise_mergeSort (le := fun a b : Str => decide (a.cps.toList ≤ b.cps.toList)) (fun a b c h1 h2 => decide_eq_true (List.le_trans (of_decide_eq_true h1) (of_decide_eq_true h2))) (fun a b => by
    rcases List.le_total a.cps.toList b.cps.toList with h | h
    · rw [decide_eq_true h]; rfl
    · rw [decide_eq_true h, Bool.or_true]) L
  exact this.imp fun h => of_decide_eq_true h
theorem str_vals : ∀ {L : List Str} {vs : List Value}, EachIs (fun v x => ∃ tk, v = Value.str x tk) vs L → Vals (L.map V.str) vs
  | _, _, .nil => .nil
  | _, _, .cons r t => .cons r (str_vals t)
section
variable {X : Cx} {pins : List (Addr × Obj)} {σ : L2.St} {H : Hp} {s : Shared} {E : Value → Shared → Prop}
theorem sort_tailX {L : List Str} {vs : List Value} {Q : Value → Shared → Prop} (I : Inv X pins σ H s) (un : X.A.units + 60 < cLine) (rv : EachIs (fun v x => ∃ tk, v = Value.str x tk) vs L) (hz : vs.length ≤ sizeLine) (p : Addr) (ep : p = s.heap.objs.size)
    (q : ∀ s', Inv X pins σ (upd H p (.lst ((srtX L).map V.str))) s' → Q (.ref p) s') :
    wpAny (model X.prog X.w) X.A.in1 (call (.builtin "list.sort") [.ref p]) (fun _ s' => Q (.ref p) s') E { s with heap := s.heap.push (seqObj "list" vs.toArray 0) } := by
  subst ep
  have ho : (s.heap.push (seqObj "list" vs.toArray 0)).get? s.heap.objs.size = some (seqObj "list" vs.toArray 0) := Heap.get?_push_size _ rfl
  have up : ∀ b o, s.heap.get? b = some o → (s.heap.push (seqObj "list" vs.toArray 0)).get? b = some o := fun b o e => Heap.get?_push_of_some _ e
  have al : AllAlike (L.map PyData.str) := fun d hd d' hd' => by
    obtain ⟨x, _, rfl⟩ := List.mem_map.mp hd
    obtain ⟨y, _, rfl⟩ := List.mem_map.mp hd'
    rfl
  have er : EachIs (fun v (b : Str) => ∃ as, Reads (sortingHeap (s.heap.push (seqObj "list" vs.toArray 0)) s.heap.objs.size vs) v (.str b) as) vs L := rv.mono fun v x ⟨tk, e⟩ => by rw [e]; exact ⟨_, Reads.str x tk⟩
  have S : SortsAt X.prog X.w X.A.in1.in1 { s with heap := sortingHeap (s.heap.push (seqObj "list" vs.toArray 0)) s.heap.objs.size vs } (dataKind (sortingHeap (s.heap.push (seqObj "list" vs.toArray 0)) s.heap.objs.size vs) (L.map PyData.str)) vs :=
    SortsAt.data (s := { s with heap := sortingHeap (s.heap.push (seqObj "list" vs.toArray 0)) s.heap.objs.size vs }) (each_map (R := fun v d => ∃ as, Reads (sortingHeap (s.heap.push (seqObj "list" vs.toArray 0)) s.heap.objs.size vs) v d as) PyData.str er) al (.inr fun d hd => by
      obtain ⟨x, _, rfl⟩ := List.mem_map.mp hd
      exact ⟨(fun z => by cases z), fun xs z => by cases z⟩) fun d hd => by
      obtain ⟨x, _, rfl⟩ := List.mem_map.mp hd
      rw [PyData.depth]
      show X.A.units + 1 + 1 + 0 < cLine
      omega
  refine wpAny_call_entry slot_list_sort ⟨_, ho, rfl⟩ entry_list_sort (list_sort_vals (s := { s with heap := s.heap.push (seqObj "list" vs.toArray 0) }) ho S hz ⟨_, rfl, ?_⟩) (args_list_sort _)
  have out := sortVals_data (h' := sortingHeap (s.heap.push (seqObj "list" vs.toArray 0)) s.heap.objs.size vs) (enc := PyData.str) false rv er al
  rw [show dataLe false (PyData.str : Str → PyData) = fun a b => decide (a.cps.toList ≤ b.cps.toList) from dataLe_str (fun b : Str => b)] at out
  have rel : Vals ((srtX L).map V.str) (sortVals (dataKind (sortingHeap (s.heap.push (seqObj "list" vs.toArray 0)) s.heap.objs.size vs) (L.map PyData.str)) false vs vs) := str_vals out
  generalize sortVals (dataKind (sortingHeap (s.heap.push (seqObj "list" vs.toArray 0)) s.heap.objs.size vs) (L.map PyData.str)) false vs vs = os at rel ⊢
  have lo : ((srtX L).map V.str).length ≤ sizeLine := by
    rw [List.length_map, (srtX_perm L).length_eq, ← rv.length]
    exact hz
  obtain ⟨c, gc⟩ := sortedHeap_at (vs := vs) (out := os.toArray) ho
  refine q _ (I.laid (t' := s.toks) (fun b o e => ?_) (Nat.le_refl _) ⟨lo, os, c, rel, gc⟩)
  have lt := Heap.lt_size e
  rw [sortedHeap_old (Nat.ne_of_lt lt) (by rw [size_push']; exact Nat.lt_succ_of_lt lt)]
  exact up b o e
theorem Texts.each {w : World} : ∀ {es : List (Int × Value)} {L : List Str}, Texts w es L → EachIs (fun v x => ∃ tk, v = Value.str x tk) (es.map (·.2)) L
  | _, _, .nil => .nil
  | _, _, .cons g t => .cons g.1 t.each
theorem each_perm {α : Type} {R : Value → α → Prop} {vs vs' : List Value} (p : vs'.Perm vs) : ∀ {L : List α}, EachIs R vs L → ∃ L', EachIs R vs' L' ∧ L'.Perm L := by
  induction p with
  | nil => intro L h; exact ⟨L, h, .refl _⟩
  | cons x p ih =>
    intro L h
    cases h with
    | cons g t =>
      obtain ⟨L', h', p'⟩ := ih t
      exact ⟨_ :: L', .cons g h', p'.cons _⟩
  | swap x y l =>
    intro L h
    cases h with
    | cons g t =>
      cases t with
      | cons g2 t => exact ⟨_, .cons g2 (.cons g t), .swap _ _ _⟩
  | trans p q ih1 ih2 =>
    intro L h
    obtain ⟨L1, h1, p1⟩ := ih2 h
    obtain ⟨L2, h2, p2⟩ := ih1 h1
    exact ⟨L2, h2, p2.trans p1⟩
/-- sorted(set of texts) -/
def rSortX (w : World) : List V → Hp → VK → Prop := fun vs H Q => ∃ (a : Addr) (L : List Str), vs = [V.ref a] ∧ H a = some (SetXO w a L) ∧ L.length ≤ 1000 ∧ ∀ (ys : List Str) (p : Addr), ys.Perm L → ys.Nodup → ys.Pairwise (fun a b => a.cps.toList ≤ b.cps.toList) → H p = none → Q (.ref p) (upd H p (.lst (ys.map V.str)))
theorem cr_sortX (hc : X.calm = true) (hu : X.A.units + 64 < cLine) : CallR X (.builtin "sorted") (rSortX X.w) := by
  intro pins s σ H vs us Q I r h
  obtain ⟨a, L, rfl, ha, few, q⟩ := h
  rw [Vals.ref1 r]
  have Z : SetX X.w s.heap a L := (I.hok a _ ha).1
  obtain ⟨o, es, ep, t, g1, g2, g3, tx, ft, ri, ld⟩ := Z.ex
  refine Calls.call_function_entry kind_sorted plain_sorted entry_sorted (args_sorted1 _) ?_
  unfold Builtin.«sorted»
  refine wpAny_bind (m := checkCount "sorted" 1 1 _) (wpAny_pure (wpAny_bind (collect_set (A := X.A.in1) (I.ok.hd hc) ⟨o, g1, g2.1, g3⟩ ft (by rw [← Array.length_toList, tx.length]; exact Z.few) ri ld fun s1 vs k1 hz e1 e2 pm => ?_)))
  obtain ⟨L', ev, pL⟩ := each_perm pm tx.each
  have I1 : Inv X pins σ H s1 := I.call' (ch := []) e2 (Un.kept k1) (I.hok.kept k1) (by rw [e1]; exact I.bare) (fun _ z => nomatch z)
  have fresh := I1.hok.fresh (Nat.le_refl _)
  have lv : vs.length ≤ sizeLine := by rw [ev.length, pL.length_eq, sizeLine_eq]; omega
  refine wpAny_bind (wpAny_newList ?_ lv)
  refine wpAny_bind (wpAny_holding (sort_tailX (Q := fun v s' => wpAny (model X.prog X.w) X.A.in1 (ret v) _ _ s') I1 (by omega) ev lv _ rfl fun s' J => wpAny_pure ⟨_, rfl, .ref _, _, J, rfl, q (srtX L') _ ((srtX_perm L').trans pL) (((srtX_perm L').trans pL).nodup_iff.mpr Z.nd) (srtX_pw L') fresh⟩))
end
end My

set_option Elab.async false
set_option linter.all false
set_option maxRecDepth 100000
set_option maxHeartbeats 4000000
namespace L55
open PySem PySem.Spec PyProof.Rows L2 My
section
variable {P : Program} {w : World} {K : PySem.W.Frag} {mg : Str → Option Value} {base : Heap}
def spAskN : Sp := fun vs H Q _ => ∃ (B : Nat) (fz : Bool) (t : Addr) (v : V) (d : PyData), vs = [v] ∧ Dq fz t H v d ∧ ShT B d ∧ ∀ H', Same H H' → Q (.bl (nameD d)) H'
theorem ok_askN (T : Tx K mg) : FnOk P w K mg base CX0 1 T.f_w_is_name T.d_w_is_name ["_law_thing"] (spAskN) := by
  refine T.F_w_is_name.ok S_w_is_name (fun vs H Q E h => ?_) (fun cdv A outer s H vs Q E hr h => ?_)
  · obtain ⟨B0, fz, t, v, d, rfl, _⟩ := h
    rfl
  · obtain ⟨B0, fz, t, v, d, rfl, dq, sh, q⟩ := h
    obtain ⟨t1, y1, k1⟩ := dq_kind (K := K) (n := "str") (.inr (.inr (.inl rfl))) dq
    refine ⟨_, (pss_cons (ps_if (PW.pt (pw_or (pt_not (pt_val (pe_callB call_isi (by rfl) T.m_isinstance (by decide +kernel) (pa_cons (pv 0) (pa_cons (pe_bltn (v := .ty "str") (by rfl) T.m_str (by decide +kernel) rfl) pa_nil))))) (pw_or1 (pt_not (pt_chain op_le op_le pe_int (pe_callB call_len_str (by rfl) T.m_len PySem.boot_len (pa_cons (pv 0) pa_nil)) pe_int))))) (pss_one (ps_ret pe_bl)) pss_nil)
      (pss_one (ps_ret (pe_cmpR (op_eqD hr.units) (pe_lc (own := [("_law_sign", 1)]) (g := gName 1) (by rfl) S_w_is_name.nd (pi_str (pv 0)) (blkOk_by (own := [("_law_sign", 1)]) (N := N_w_is_name) (sc := defScope s_w_is_name) (by decide +kernel)) (fun _ _ _ _ _ => (pg_name (i := 1) S_w_is_name.nd rfl (.inl rfl))) (fun _ _ _ _ _ => (pts_one (pt_cmpR op_notIn_sign (pv 1) pe_str (by rfl)))) (fun _ _ _ _ _ => (pv 1))) (pe_lst pa_nil) (nomark _))))), ?_⟩
    refine ⟨v, rfl, v, _, t1, _, _, rfl, .ty _, y1, k1, _, rfl, ite2 (fun e => ?_) (fun e => ?_)⟩
    · refine iteT ?_
      have := q H (.refl _)
      rw [show nameD d = false by cases d <;> first | rfl | (simp [kindQ] at e)] at this
      exact this
    · obtain ⟨z, rfl⟩ : ∃ z, d = .str z := by
        cases d <;> first | exact ⟨_, rfl⟩ | (simp [kindQ] at e)
      cases dq
      obtain ⟨hlz, hc⟩ : Plain z := sh
      have q : ∀ H', Same H H' → Q (.bl (nameB (.str z))) H' := q
      have eN : nameB (.str z) = ((decide (1 ≤ z.length) && decide (z.length ≤ 8)) && z.cps.toList.all signOk) := rfl
      have fin : ¬ (1 ≤ z.length ∧ z.length ≤ 8) → Q (.bl false) H := fun hn => by
        have := q H (.refl _)
        have e0 : nameB (.str z) = false := by
          rw [eN]
          by_cases h1 : 1 ≤ z.length
          · have h2 : ¬ z.length ≤ 8 := fun h2 => hn ⟨h1, h2⟩
            simp [h2]
          · simp [h1]
        rw [e0] at this
        exact this
      refine ⟨_, rfl, z, rfl, sz (by omega), _, _, rfl, rfl, _, rfl, ite2 (fun e1 => ?_) (fun e1 => ?_)⟩
      · have e1 := of_decide_eq_true e1
        refine ⟨_, _, rfl, rfl, _, rfl, ite2 (fun e2 => ?_) (fun e2 => ?_)⟩
        · have e2 : ¬ (z.length : Int) ≤ 8 := by simpa using e2
          exact fin (by omega)
        · have e2 : (z.length : Int) ≤ 8 := by simpa using e2
          rw [eN, decide_eq_true (show 1 ≤ z.length by omega), decide_eq_true (show z.length ≤ 8 by omega), Bool.true_and, Bool.true_and] at q
          refine ⟨_, rfl, z, rfl, fun D nD => ?_⟩
          refine lc_it walk_str (fun i H' => H' = upd H D (.lst (((z.cps.toList.take i).filter fun c => !signOk c).map fun c => V.str (sg c)))) rfl (fun _ _ _ _ => trivial) ?_ ?_
          · rintro i x H3 H4 hi rfl ⟨rfl, c, hci, rfl⟩
            have hci : z.cps.toList[i]? = some c := by rw [Array.getElem?_toList]; exact hci
            refine ⟨rfl, _, rfl, c, _, rfl, rfl, _, rfl, ?_⟩
            have el := in_letters c
            have key : upd (upd H D (.lst (((z.cps.toList.take i).filter fun c => !signOk c).map fun c => V.str (sg c)))) D (.lst (((z.cps.toList.take i).filter fun c => !signOk c).map (fun c => V.str (sg c)) ++ [V.str (sg c)])) = upd H D (.lst ((((z.cps.toList.take i).filter fun c => !signOk c) ++ [c]).map fun c => V.str (sg c))) := by
              rw [upd_upd', List.map_append]
              rfl
            refine ite2 (fun f => ?_) (fun f => ?_)
            · have f : signOk c = false := by
                have f : (!decide (c ∈ (Str.ofString "abcdefghijklmnopqrstuvwxyz").cps.toList)) = true := f
                rw [el] at f
                simpa using f
              refine ⟨_, rfl, _, upd_same, ?_, ?_⟩
              · rw [List.length_map]
                refine small1000 (Nat.le_trans (List.length_filter_le _ _) ?_)
                rw [List.length_take]
                have : z.cps.toList.length ≤ 100 := by rw [Array.length_toList]; exact hlz
                omega
              · show upd (upd H D _) D _ = _
                refine key.trans ?_
                rw [take_filter _ hci, f]
                rfl
            · have f : signOk c = true := by
                have f : ¬ (!decide (c ∈ (Str.ofString "abcdefghijklmnopqrstuvwxyz").cps.toList)) = true := f
                rw [el] at f
                simpa using f
              rw [take_filter _ hci, f]
              simp
          · rintro H3 rfl
            have ez : z.cps.toList.take z.cps.size = z.cps.toList := List.take_of_length_le (by simp)
            rw [ez]
            have s1 := same_upd (o := .lst ((z.cps.toList.filter fun c => !signOk c).map fun c => V.str (sg c))) nD
            refine ⟨Nat.zero_le _, fun F nF => ?_⟩
            have s2 := same_upd (o := .lst []) nF
            refine ⟨_, _, .lst (.inl (.inl (s2 _ _ upd_same))) (dp_signs _), .lst (.inl (.inl upd_same)) .nil, shaped_signs fun c hcm => hc c (List.mem_filter.mp hcm).1, by decide, ?_⟩
            have := q _ (s1.trans s2)
            rw [← filter_empty] at this
            rw [eqv_signs]
            exact this
      · have e1 : ¬ (1 : Int) ≤ z.length := by simpa using e1
        exact ⟨_, rfl, fin (by omega)⟩
theorem eqvAll_ints : ∀ a b : List Int, PyData.eqvAll (a.map .int) (b.map .int) = decide (a = b)
  | [], [] => by simp [PyData.eqvAll]
  | [], _ :: _ => by simp [PyData.eqvAll]
  | _ :: _, [] => by simp [PyData.eqvAll]
  | x :: a, y :: b => by
    rw [List.map_cons, List.map_cons, PyData.eqvAll, eqvAll_ints a b, PyData.eqv]
    rw [Bool.eq_iff_iff]; simp
theorem eqv_intsL (a b : List Int) : PyData.eqv (.list (a.map .int)) (.list (b.map .int)) = decide (a = b) := by rw [PyData.eqv, eqvAll_ints]
theorem eqvAll_strs : ∀ a b : List Str, PyData.eqvAll (a.map .str) (b.map .str) = decide (a = b)
  | [], [] => by simp [PyData.eqvAll]
  | [], _ :: _ => by simp [PyData.eqvAll]
  | _ :: _, [] => by simp [PyData.eqvAll]
  | x :: a, y :: b => by
    rw [List.map_cons, List.map_cons, PyData.eqvAll, eqvAll_strs a b, PyData.eqv]
    rw [Bool.eq_iff_iff]; simp
theorem eqv_strsL (a b : List Str) : PyData.eqv (.list (a.map .str)) (.list (b.map .str)) = decide (a = b) := by rw [PyData.eqv, eqvAll_strs]
theorem dp_intsA {H : Hp} : ∀ ns : List Int, DpAll K H (ns.map V.int) (ns.map PyData.int)
  | [] => .nil
  | n :: ns => .cons (.int n) (dp_intsA ns)
theorem dp_strsA {H : Hp} : ∀ ns : List Str, DpAll K H (ns.map V.str) (ns.map PyData.str)
  | [] => .nil
  | n :: ns => .cons (.str n) (dp_strsA ns)
theorem shaped_intsL (ns : List Int) : SeqAt.shaped (.list (ns.map PyData.int)) = true := by
  have h1 := PySem.W.depthAll_ints ns
  unfold SeqAt.shaped
  rw [Bool.and_eq_true]
  refine ⟨by simp only [PyData.canLay0]; exact PySem.W.canLayAll0_ints ns, decide_eq_true ?_⟩
  simp only [PyData.depth]
  omega
theorem lay_strsL : ∀ {ns : List Str}, (∀ z ∈ ns, PyData.strOk z = true) → PyData.canLayAll0 (ns.map PyData.str) = true
  | [], _ => by simp [PyData.canLayAll0]
  | c :: r, h => by
    rw [List.map_cons, PyData.canLayAll0, lay_strsL fun d hd => h d (List.mem_cons_of_mem _ hd), PyData.canLay0, h c List.mem_cons_self]
    rfl
theorem depth_strsL : ∀ cs : List Str, PyData.depthAll (cs.map PyData.str) = 0
  | [] => by simp [PyData.depthAll]
  | c :: r => by
    rw [List.map_cons, PyData.depthAll, depth_strsL r]
    simp [PyData.depth]
theorem ok_plain {z : Str} (h : Plain z) : PyData.strOk z = true := by
  unfold PyData.strOk
  simp
  intro i hi
  have := h.2 (z.cps[i]) (by simp)
  omega
theorem shaped_strsL {ns : List Str} (h : ∀ z ∈ ns, Plain z) : SeqAt.shaped (.list (ns.map PyData.str)) = true := by
  unfold SeqAt.shaped
  rw [Bool.and_eq_true, PyData.canLay0, PyData.depth, depth_strsL]
  exact ⟨lay_strsL fun z hz => ok_plain (h z hz), by decide⟩
theorem nd_lenX {L M : List Str} : L.Nodup → (∀ b ∈ L, b ∈ M) → L.length ≤ M.length := by
  induction L generalizing M with
  | nil => exact fun _ _ => Nat.zero_le _
  | cons a L ih =>
    intro nd sub
    obtain ⟨n1, n2⟩ := List.nodup_cons.mp nd
    have ha := sub a (.head _)
    have := ih (M := M.erase a) n2 fun b hb => (List.mem_erase_of_ne (fun z => n1 (by rw [← z]; exact hb))).mpr (sub b (.tail _ hb))
    rw [List.length_erase_of_mem ha] at this
    have pos : 0 < M.length := List.length_pos_of_mem ha
    rw [List.length_cons]
    omega
theorem str_eqL {a b : Str} (h : a.cps.toList = b.cps.toList) : a = b := by
  cases a
  cases b
  congr
  exact Array.toList_inj.mp h
theorem lt_strs55 : ∀ {l : List Str}, (l.Pairwise fun a b => a.cps.toList ≤ b.cps.toList) → l.Nodup → l.Pairwise fun a b => a.cps.toList < b.cps.toList
  | [], _, _ => .nil
  | x :: l, h, n => by
    obtain ⟨h1, h2⟩ := List.pairwise_cons.mp h
    obtain ⟨n1, n2⟩ := List.nodup_cons.mp n
    refine List.pairwise_cons.mpr ⟨fun y hy => ?_, lt_strs55 h2 n2⟩
    by_cases c : x.cps.toList < y.cps.toList
    · exact c
    · have : x.cps.toList = y.cps.toList := List.le_antisymm (h1 y hy) c
      rw [str_eqL this] at n1
      exact absurd hy n1
theorem srt_setX {ws ys L : List Str} (mem : ∀ x, x ∈ L ↔ x ∈ ws) (pm : ys.Perm L) (nd : ys.Nodup) (pw : ys.Pairwise fun a b => a.cps.toList ≤ b.cps.toList) : ws = ys ↔ ws.Pairwise fun a b => a.cps.toList < b.cps.toList := by
  have lt : ys.Pairwise fun a b => a.cps.toList < b.cps.toList := lt_strs55 pw nd
  refine ⟨fun e => by rw [e]; exact lt, fun h => ?_⟩
  have pe : ws.Perm ys := (List.perm_ext_iff_of_nodup (h.imp fun {a b} h e => by rw [e] at h; exact List.lt_irrefl _ h) nd).mpr fun x => by rw [← mem, pm.mem_iff]
  exact pe.eq_of_pairwise (fun a b _ _ h1 h2 => absurd (List.lt_trans h1 h2) (List.lt_irrefl _)) h lt
theorem srt_setI {ws ys L : List Int} (mem : ∀ x, x ∈ L ↔ x ∈ ws) (pm : ys.Perm L) (nd : ys.Nodup) (pw : ys.Pairwise (· ≤ ·)) : ws = ys ↔ ws.Pairwise (· < ·) := by
  have lt := L2.lt_of_le_nodup ys pw nd
  refine ⟨fun e => by rw [e]; exact lt, fun h => ?_⟩
  have pe : ws.Perm ys := (List.perm_ext_iff_of_nodup (h.imp fun h => Int.ne_of_lt h) nd).mpr fun x => by rw [← mem, pm.mem_iff]
  exact pe.eq_of_pairwise (fun a b _ _ h1 h2 => absurd h1 (Int.not_lt.mpr (Int.le_of_lt h2))) h lt
/-- no day -/
def badD : PyData → Bool
  | .int i => decide (i < 0)
  | _ => true
def spAskD : Sp := fun vs H Q _ => ∃ (B : Nat) (fz : Bool) (t : Addr) (v : V) (d : PyData), vs = [v] ∧ Dq fz t H v d ∧ ShT B d ∧ Wid 1000 d ∧ ∀ b H', (b = true ↔ daysP d) → Same H H' → Q (.bl b) H'
theorem ok_askD (T : Tx K mg) : FnOk P w K mg base CX0 1 T.f_w_is_days T.d_w_is_days ["_law_thing"] (spAskD) := by
  refine T.F_w_is_days.ok S_w_is_days (fun vs H Q E h => ?_) (fun cdv A outer s H vs Q E hr h => ?_)
  · obtain ⟨B0, fz, t, v, d, rfl, _⟩ := h
    rfl
  · obtain ⟨B0, fz, t, v, d, rfl, dq, sh, wd, q⟩ := h
    refine ⟨_, (pss_cons (ps_if (pt_not (pt_val (pe_callB call_isi (by rfl) T.m_isinstance (by decide +kernel) (pa_cons (pv 0) (pa_cons (pe_bltn (v := .ty "tuple") (by rfl) T.m_tuple (by decide +kernel) rfl) pa_nil))))) (pss_one (ps_ret pe_bl)) pss_nil)
      (pss_cons (ps_if (pt_cmpR (r := rEqE K fun b => !b) (op_neE (hu_of hr)) (pe_lc (own := [("_law_one", 1)]) (g := gName 1) (by rfl) S_w_is_days.nd (pi_tup (pv 0)) (blkOk_by (own := [("_law_one", 1)]) (N := N_w_is_days) (sc := defScope s_w_is_days) (by decide +kernel)) (fun _ _ _ _ _ => (pg_name (i := 1) S_w_is_days.nd rfl (.inl rfl))) (fun _ _ _ _ _ => (pts_one (PW.pt (pw_or (pt_not (pt_val (pe_callB (r := rIsi K) call_isi (by rfl) T.m_isinstance (by decide +kernel) (pa_cons (pv 1) (pa_cons (pe_bltn (v := .ty "int") (by rfl) T.m_int (by decide +kernel) rfl) pa_nil))))) (pw_or (pt_val (pe_callB (r := rIsi K) call_isi (by rfl) T.m_isinstance (by decide +kernel) (pa_cons (pv 1) (pa_cons (pe_bltn (v := .ty "bool") (by rfl) T.m_bool (by decide +kernel) rfl) pa_nil)))) (pw_or1 (pt_cmpR op_lt (pv 1) pe_int (nomark _)))))))) (fun _ _ _ _ _ => (pv 1))) (pe_lst pa_nil) (nomark _)) (pss_one (ps_ret pe_bl)) pss_nil)
      (pss_one (ps_ret (pe_cmpR (op_eqD hr.units) (pe_callTy call_list_of (by rfl) T.m_list (by decide +kernel) (pa_cons (pv 0) pa_nil)) (pe_callB (cr_sortI (by rfl) (un64 hr)) (by rfl) T.m_sorted (by decide +kernel) (pa_cons (pe_callTy (cr_setIT (by rfl)) (by rfl) T.m_set (by decide +kernel) (pa_cons (pv 0) pa_nil)) pa_nil)) (nomark _)))))), ?_⟩
    obtain ⟨t1, y1, k1⟩ := dq_kind (K := K) (n := "tuple") (.inr (.inr (.inr rfl))) dq
    refine ⟨_, rfl, v, _, t1, _, _, rfl, .ty _, y1, k1, _, rfl, ite2 (fun e => ?_) (fun e => ?_)⟩
    · refine q false H ⟨fun z => (by cases z), fun ⟨ws, z, _⟩ => ?_⟩ (.refl _)
      rw [z] at e
      simp [kindQ] at e
    obtain ⟨ds, rfl⟩ := kind_tuple (show kindQ "tuple" d = true by simpa using e)
    obtain ⟨a, xs, rfl, an, ha, da⟩ := dq_tuple_at dq
    have ld := da.length
    obtain ⟨l1000, _⟩ := wd.items
    refine ⟨_, rfl, a, rfl, ⟨xs, .inl ha.rd⟩, fun D nD => ?_⟩
    have sD : ∀ {o H'}, Same H H' → Same H (upd H' D o) := fun m => same_freshA nD m
    refine lc_tup (xs := xs) (fun i H' => ∃ us : List V, Same H H' ∧ H' D = some (.lst us) ∧ us.length ≤ i ∧ (us = [] ↔ ∀ (k : Nat) (d : PyData), k < i → ds[k]? = some d → badD d = false)) ⟨[], same_upd nD, upd_same, Nat.le_refl _, ⟨fun _ k d hk => by omega, fun _ => rfl⟩⟩ (fun i H' _ ⟨_, m, _⟩ => .inl (rd_same ha m).rd) ?_ ?_
    · rintro i x Hx hi ⟨us, m, hD, lu, iff⟩
      obtain ⟨dx, hdx, qx⟩ := (da.same m).get hi
      have li : i < xs.length := (List.getElem?_eq_some_iff.mp hi).1
      obtain ⟨u1, ty1, ki1⟩ := dq_kind (K := K) (n := "int") (.inl rfl) qx
      obtain ⟨u2, ty2, ki2⟩ := dq_kind (K := K) (n := "bool") (.inr (.inl rfl)) qx
      have keep : badD dx = false → ∃ us : List V, Same H Hx ∧ Hx D = some (.lst us) ∧ us.length ≤ i + 1 ∧ (us = [] ↔ ∀ (k : Nat) (d : PyData), k < i + 1 → ds[k]? = some d → badD d = false) := fun b => ⟨us, m, hD, by omega, iff.trans ⟨fun h k d hk hd => by
        by_cases z : k = i
        · subst z
          rw [hdx] at hd
          cases hd
          exact b
        · exact h k d (by omega) hd, fun h k d hk hd => h k d (by omega) hd⟩⟩
      have put : badD dx = true → ∃ us' : List V, Same H (upd Hx D (.lst (us ++ [x]))) ∧ (upd Hx D (.lst (us ++ [x]))) D = some (.lst us') ∧ us'.length ≤ i + 1 ∧ (us' = [] ↔ ∀ (k : Nat) (d : PyData), k < i + 1 → ds[k]? = some d → badD d = false) := fun b => ⟨us ++ [x], sD m, upd_same, by rw [List.length_append]; exact Nat.succ_le_succ lu, ⟨fun z => absurd z (by simp), fun h => by
        have := h i dx (Nat.lt_succ_self i) hdx
        rw [b] at this
        cases this⟩⟩
      have hl : us.length < sizeLine := small1000 (by omega)
      refine ⟨rfl, _, rfl, x, _, u1, _, _, rfl, .ty _, ty1, ki1, _, rfl, ite2 (fun e => iteT ⟨_, rfl, _, hD, hl, put ?_⟩) (fun e => ?_)⟩
      · cases dx <;> first | rfl | (simp [kindQ] at e)
      refine ⟨_, rfl, x, _, u2, _, _, rfl, .ty _, ty2, ki2, _, rfl, ite2 (fun e2 => iteT ⟨_, rfl, _, hD, hl, put ?_⟩) (fun e2 => ?_)⟩
      · cases dx <;> first | rfl | (simp [kindQ] at e2)
      obtain ⟨j, rfl⟩ := numD_iff.mp (show numD dx = true by unfold numD; simp at e e2; rw [e, e2]; rfl)
      cases qx
      refine ⟨_, rfl, _, _, rfl, rfl, _, rfl, ite2 (fun e3 => ⟨_, rfl, _, hD, hl, put ?_⟩) (fun e3 => keep ?_)⟩
      · exact e3
      · exact Bool.eq_false_iff.mpr e3
    · rintro H3 ⟨us, m, hD, lu, iff⟩
      refine ⟨Nat.zero_le _, fun F nF => ⟨D, F, us, rfl, rfl, .inl (.inl (same_upd nF _ _ hD)), .inl (.inl upd_same), _, rfl, ?_⟩⟩
      have mF := m.trans (same_upd (o := .lst []) nF)
      refine ite2 (fun e => ?_) (fun e => ?_)
      · refine q false _ ⟨fun z => (by cases z), fun ⟨ws, z, h0, _⟩ => ?_⟩ mF
        have : us = [] := iff.mpr fun k d hk hd => by
          injection z with z
          rw [z, List.getElem?_map] at hd
          obtain ⟨j, hj, rfl⟩ := Option.map_eq_some_iff.mp hd
          exact decide_eq_false (by have := h0 j (List.mem_of_getElem? hj); omega)
        rw [this] at e
        cases e
      · have e : us = [] := by cases us with | nil => rfl | cons _ _ => exact absurd rfl e
        have hp := iff.mp e
        obtain ⟨ws, rfl, h0⟩ := ints_of55 (ds := ds) fun d hd => by
          obtain ⟨k, hk⟩ := List.mem_iff_getElem?.mp hd
          have := (List.getElem?_eq_some_iff.mp hk).1
          have b := hp k d (by omega) hk
          cases d <;> first | (cases b; done) | exact ⟨_, rfl, by have := of_decide_eq_false b; omega⟩
        have ha3 := rd_same ha mF
        have ex := dqs_int55 da
        subst ex
        rw [List.length_map] at l1000
        refine ⟨_, rfl, a, _, rfl, .inr (.inl ha3.rd), fun g ng => ?_⟩
        have sg := same_upd (o := .lst (ws.map V.int)) ng
        refine ⟨_, rfl, a, ws, rfl, .inl (rd_same ha3 sg).rd, by omega, fun S L nS mem nd => ?_⟩
        have sS := same_upd (o := SetIO w S L) nS
        refine ⟨S, L, rfl, upd_same, by have := nd_lenA nd fun b hb => (mem b).mp hb; omega, fun ys p pm nd2 pw np => ?_⟩
        have sp := same_upd (o := .lst (ys.map V.int)) np
        refine ⟨_, _, .lst (.inl (.inl (sp _ _ (sS _ _ upd_same)))) (dp_intsA ws), .lst (.inl (.inl upd_same)) (dp_intsA ys), shaped_intsL ws, shaped_intsL ys, ?_⟩
        rw [eqv_intsL]
        refine q _ _ ?_ (((mF.trans sg).trans sS).trans sp)
        rw [decide_eq_true_iff, srt_setI mem pm nd2 pw]
        exact ⟨fun h => ⟨ws, rfl, h0, h⟩, fun ⟨us, z, _, h⟩ => by
          injection z with z
          have : us = ws := int_inj z.symm
          rw [← this]; exact h⟩
def spAskW : Sp := fun vs H Q _ => ∃ (B : Nat) (fz : Bool) (t : Addr) (v : V) (d : PyData), vs = [v] ∧ Dq fz t H v d ∧ ShT B d ∧ Wid 1000 d ∧ ∀ b H', (b = true ↔ wantsP d) → Same H H' → Q (.bl b) H'
theorem ok_askW (T : Tx K mg) : FnOk P w K mg base CX0 2 T.f_w_is_wants T.d_w_is_wants ["_law_thing"] (spAskW) := by
  have G_w_is_name : FnOk P w K mg base CX0 1 T.f_w_is_name T.d_w_is_name ["_law_thing"] (spAskN) := ok_askN T
  have G_w_is_days : FnOk P w K mg base CX0 1 T.f_w_is_days T.d_w_is_days ["_law_thing"] (spAskD) := ok_askD T
  refine T.F_w_is_wants.ok S_w_is_wants (fun vs H Q E h => ?_) (fun cdv A outer s H vs Q E hr h => ?_)
  · obtain ⟨B0, fz, t, v, d, rfl, _⟩ := h
    rfl
  · obtain ⟨B0, fz, t, v, d, rfl, dq, sh, wd, q⟩ := h
    refine ⟨_, (pss_cons (ps_if (pt_not (pt_val (pe_callB call_isi (by rfl) T.m_isinstance (by decide +kernel) (pa_cons (pv 0) (pa_cons (pe_bltn (v := .ty "tuple") (by rfl) T.m_tuple (by decide +kernel) rfl) pa_nil))))) (pss_one (ps_ret pe_bl)) pss_nil)
      (pss_cons (ps_set (i := 1) S_w_is_wants.nd rfl (.inl rfl) (pe_lst pa_nil))
      (pss_cons (ps_for PassesOwn.never rfl (pi_tup (pv 0)) (pg_name (i := 2) S_w_is_wants.nd rfl (.inl rfl))
      (pss_cons (ps_if (PW.pt (pw_or (pt_not (pt_val (pe_callB call_isi (by rfl) T.m_isinstance (by decide +kernel) (pa_cons (pv 2) (pa_cons (pe_bltn (v := .ty "tuple") (by rfl) T.m_tuple (by decide +kernel) rfl) pa_nil))))) (pw_or (pt_cmpR op_ne (pe_callB call_len_seq (by rfl) T.m_len PySem.boot_len (pa_cons (pv 2) pa_nil)) pe_int (nomark _)) (pw_or (pt_not (pt_val (pe_call G_w_is_name hr (by rfl) T.g_w_is_name T.F_w_is_name.kp T.b_w_is_name .nil pass0 (pa_cons (pe_ix (r := rIxT K) ix_tup (pv 2) pe_int (fun _ _ => rfl)) pa_nil)))) (pw_or1 (pt_not (pt_val (pe_call G_w_is_days hr (by rfl) T.g_w_is_days T.F_w_is_days.kp T.b_w_is_days .nil pass0 (pa_cons (pe_ix (r := rIxT K) ix_tup (pv 2) pe_int (fun _ _ => rfl)) pa_nil))))))))) (pss_one (ps_ret pe_bl)) pss_nil)
      (pss_one (ps_expr (pe_bm PySem.F.plainAttrs_list PySem.F.slot_list_append PySem.F.type_list_append mt_append (pv 1) (pa_cons (pe_ix (r := rIxT K) ix_tup (pv 2) pe_int (fun _ _ => rfl)) pa_nil))))))
      (pss_one (ps_ret (pe_cmpR (op_eqD hr.units) (pv 1) (pe_callB (cr_sortX (by rfl) (un64 hr)) (by rfl) T.m_sorted (by decide +kernel) (pa_cons (pe_callTy (cr_setX (by rfl)) (by rfl) T.m_set (by decide +kernel) (pa_cons (pv 1) pa_nil)) pa_nil)) (nomark _))))))), ?_⟩
    obtain ⟨t1, y1, k1⟩ := dq_kind (K := K) (n := "tuple") (.inr (.inr (.inr rfl))) dq
    refine ⟨_, rfl, v, _, t1, _, _, rfl, .ty _, y1, k1, _, rfl, ite2 (fun e => ?_) (fun e => ?_)⟩
    · refine q false H ⟨fun z => (by cases z), fun ⟨W, z, _⟩ => ?_⟩ (.refl _)
      rw [z] at e
      simp [kindQ] at e
    obtain ⟨ds, rfl⟩ := kind_tuple (show kindQ "tuple" d = true by simpa using e)
    obtain ⟨a, xs, rfl, an, ha, da⟩ := dq_tuple_at dq
    have ld := da.length
    obtain ⟨l1000, wds⟩ := wd.items
    have shd : ∀ d ∈ ds, ShT B0 d := shts_mem.mp sh
    have no : ∀ {H' : Hp}, Same H H' → (¬ ∀ d ∈ ds, wantP d) → Q (.bl false) H' := fun tk n => q false _ ⟨fun z => (by cases z), fun ⟨W, z, g, _⟩ => absurd (fun d hd => by
      injection z with z
      rw [z] at hd
      obtain ⟨w, hw, rfl⟩ := List.mem_map.mp hd
      exact wantP_iff.mpr ⟨w, rfl, g w hw⟩) n⟩ tk
    refine ⟨Nat.zero_le _, fun D nD => ?_⟩
    refine name_as (σ' := [some (.ref a), some (.ref D), none]) rfl ?_
    have sD : ∀ {o H'}, Same H H' → Same H (upd H' D o) := fun m => same_freshA nD m
    refine ⟨_, rfl, a, rfl, ⟨xs, .inl (rd_same ha (same_upd nD)).rd⟩, ?_⟩
    refine for_tup (xs := xs) (fun i σ Hx => ∃ (y2 : Option V) (W : List (Str × List Int)), σ = [some (.ref a), some (.ref D), y2] ∧ Same H Hx ∧ Hx D = some (.lst ((W.map (·.1)).map V.str)) ∧ ds.take i = W.map wD ∧ ∀ w ∈ W, nameB (.str w.1) = true ∧ (∀ x ∈ w.2, 0 ≤ x) ∧ w.2.Pairwise (· < ·)) ⟨none, [], rfl, same_upd nD, upd_same, rfl, fun w h => by cases h⟩ (fun i σ Hx _ ⟨_, _, _, m, _⟩ => .inl (rd_same ha m).rd) ?_ ?_
    · rintro i x σ Hx hi ⟨y2, W, rfl, m, hD, eW, gW⟩
      refine name_as (σ' := [some (.ref a), some (.ref D), some x]) rfl ?_
      obtain ⟨dx, hdx, qx⟩ := (da.same m).get hi
      have hm := List.mem_of_getElem? hdx
      have li : i < xs.length := (List.getElem?_eq_some_iff.mp hi).1
      obtain ⟨u1, ty1, ki1⟩ := dq_kind (K := K) (n := "tuple") (.inr (.inr (.inr rfl))) qx
      refine ⟨_, rfl, x, _, u1, _, _, rfl, .ty _, ty1, ki1, _, rfl, ite2 (fun e => iteT (no m fun z => ?_)) (fun e => ?_)⟩
      · obtain ⟨_, _, z, _⟩ := z dx hm
        rw [z] at e
        simp [kindQ] at e
      obtain ⟨es, rfl⟩ := kind_tuple (show kindQ "tuple" dx = true by simpa using e)
      obtain ⟨b, ys, rfl, bn, hb, db⟩ := dq_tuple_at qx
      have lb := db.length
      refine ⟨_, rfl, b, ys, rfl, .inr (.inl hb.rd), rfl, _, rfl, ite2 (fun e2 => iteT (no m fun z => ?_)) (fun e2 => ?_)⟩
      · obtain ⟨_, _, z, _⟩ := z _ hm
        injection z with z
        rw [z] at lb
        rw [show ys.length = 2 from lb] at e2
        cases e2
      have l2 : ys.length = 2 := by
        have : ¬ (!decide (V.int ((ys.length : Nat) : Int) = V.int 2)) = true := e2
        simp at this
        omega
      obtain ⟨y1, y3, d1, d2, rfl, rfl, q1, q2⟩ := dqs_pair db l2
      have shx := shd _ hm
      obtain ⟨_, wdx⟩ := (wds _ hm).items
      refine ⟨_, rfl, b, _, 0, y1, rfl, rfl, .inl hb.rd, rfl, B0, fz, t, y1, d1, rfl, q1, shx.1, fun H2 m2 => ⟨_, rfl, ite2 (fun e3 => iteT (no (m.trans m2) fun z => ?_)) (fun e3 => ?_)⟩⟩
      · obtain ⟨_, _, z, n1, _⟩ := z _ hm
        cases z
        rw [n1] at e3
        cases e3
      have n1 : nameD d1 = true := by simpa using e3
      refine ⟨_, rfl, b, _, 1, y3, rfl, rfl, .inl (rd_same hb m2).rd, rfl, B0, fz, t, y3, d2, rfl, q2.same m2, shx.2.1, wdx d2 (.tail _ (.head _)), fun c H3 hc m3 => ⟨_, rfl, ite2 (fun e4 => no ((m.trans m2).trans m3) fun z => ?_) (fun e4 => ?_)⟩⟩
      · obtain ⟨_, _, z, _, n2⟩ := z _ hm
        cases z
        rw [hc.mpr n2] at e4
        cases e4
      obtain ⟨w0, ew, g⟩ := wantP_iff.mp (show wantP (.tuple [d1, d2]) from ⟨d1, d2, rfl, n1, hc.mp (by simpa using e4)⟩)
      have ed : d1 = .str w0.1 := by unfold wD at ew; cases ew; rfl
      subst ed
      cases q1
      have hD3 := m3 _ _ (m2 _ _ hD)
      refine ⟨_, rfl, .inl ⟨rfl, _, .inl (.inl hD3)⟩, _, rfl, b, _, 0, _, rfl, rfl, .inl (rd_same (rd_same hb m2) m3).rd, rfl, D, _, _, rfl, rfl, hD3, ?_, _, W ++ [w0], rfl, sD ((m.trans m2).trans m3), ?_, ?_, fun x hx => ?_⟩
      · have := congrArg List.length eW
        rw [List.length_map, List.length_take] at this
        rw [List.length_map, List.length_map]
        exact small1000 (by omega)
      · rw [upd_same, List.map_append, List.map_append]; rfl
      · rw [List.take_add_one, hdx, eW, List.map_append, ew]; rfl
      · exact (List.mem_append.mp hx).elim (gW x) fun h => by rw [List.mem_singleton.mp h]; exact g
    · rintro σ Hx ⟨y2, W, rfl, m, hD, eW, gW⟩
      rw [List.take_of_length_le (by omega)] at eW
      subst eW
      have lW : W.length ≤ 1000 := by rw [List.length_map] at l1000; exact l1000
      have pl : ∀ z ∈ W.map (·.1), Plain z := fun z hz => by
        obtain ⟨w1, hw, rfl⟩ := List.mem_map.mp hz
        exact (shd _ (List.mem_map_of_mem hw)).1
      refine ⟨_, rfl, _, rfl, D, _, rfl, .inl (.inl hD), by rw [List.length_map]; exact lW, fun S L nS mem nd => ?_⟩
      have sS := same_upd (o := SetXO w S L) nS
      refine ⟨S, L, rfl, upd_same, ?_, fun ys p pm nd2 pw np => ?_⟩
      · have := nd_lenX nd fun b hb => (mem b).mp hb
        rw [List.length_map] at this
        omega
      have sp := same_upd (o := .lst (ys.map V.str)) np
      refine ⟨_, _, .lst (.inl (.inl (sp _ _ (sS _ _ hD)))) (dp_strsA _), .lst (.inl (.inl upd_same)) (dp_strsA ys), shaped_strsL pl, shaped_strsL fun z hz => pl z ((mem z).mp (pm.mem_iff.mp hz)), ?_⟩
      rw [eqv_strsL]
      refine q _ _ ?_ ((m.trans sS).trans sp)
      rw [decide_eq_true_iff, srt_setX mem pm nd2 pw]
      exact ⟨fun h => ⟨W, rfl, gW, h⟩, fun ⟨U, z, _, h⟩ => by
        injection z with z
        rw [wDs_inj z]
        exact h⟩
end
end L55

set_option Elab.async false
set_option linter.all false
set_option maxRecDepth 100000
set_option maxHeartbeats 4000000
namespace L55
open PySem PySem.Spec PyProof.Rows L2 My
section
variable {P : Program} {w : World} {K : PySem.W.Frag} {mg : Str → Option Value} {base : Heap}
/-- a want as a key -/
def keyW (w : Str × List Int) : NestedKey := .tup [.text w.1, .tup (w.2.map .num)]
theorem ints_nk {H : Hp} : ∀ ds : List Int, NkAll H (ds.map V.int) (ds.map NestedKey.num)
  | [] => .nil
  | d :: ds => .cons (.int d) (ints_nk ds)
theorem nk_ints {H : Hp} : ∀ {ds : List Int} {vs : List V}, NkAll H vs (ds.map NestedKey.num) → vs = ds.map V.int
  | [], _, .nil => rfl
  | d :: ds, _, .cons (.int _) h => by rw [nk_ints h]; rfl
theorem ws_nk {H : Hp} : ∀ {ps : List Addr} {W : List (Str × List Int)}, WsAt H ps W → NkAll H (ps.map V.ref) (W.map keyW)
  | _, _, .nil => .nil
  | _, _, .cons a b c => .cons (.tup a (.cons (.str _) (.cons (.tup b (ints_nk _)) .nil))) (ws_nk c)
theorem nk_ws {H : Hp} : ∀ {W : List (Str × List Int)} {vs : List V}, NkAll H vs (W.map keyW) → ∃ ps, vs = ps.map V.ref ∧ WsAt H ps W
  | [], _, .nil => ⟨[], rfl, .nil⟩
  | w :: W, _, .cons a h => by
    obtain ⟨ps, rfl, ws⟩ := nk_ws h
    cases a with
    | tup e1 n1 =>
      cases n1 with
      | cons a1 n1 =>
        cases n1 with
        | cons a2 n1 =>
          cases n1
          cases a1
          cases a2 with
          | tup e2 n2 =>
            rw [nk_ints n2] at e2
            exact ⟨_ :: ps, rfl, .cons e1 e2 ws⟩
theorem numsW_depth : ∀ ws : List Int, NestedKey.depthAll (ws.map .num) = 0
  | [] => by rw [List.map_nil, NestedKey.depthAll]
  | a :: l => by rw [List.map_cons, NestedKey.depthAll, numsW_depth l, NestedKey.depth]; rfl
theorem wants_sbl (W : List (Str × List Int)) : Sbl (W.map keyW) := by
  refine ⟨.inl fun k hk => ?_, fun k hk k' hk' => ?_, fun k hk => ?_⟩
  · obtain ⟨w, _, rfl⟩ := List.mem_map.mp hk
    exact ⟨_, _, rfl⟩
  · obtain ⟨w, _, rfl⟩ := List.mem_map.mp hk
    obtain ⟨w', _, rfl⟩ := List.mem_map.mp hk'
    unfold keyW
    rw [ltK]
    exact lt_step (lt_text _ _) (lt_step (lt_home _ _) ⟨false, by rw [ltAll]⟩)
  · obtain ⟨w, _, rfl⟩ := List.mem_map.mp hk
    have := numsW_depth w.2
    unfold keyW
    simp only [NestedKey.depth, NestedKey.depthAll]
    omega
def leKW (a b : NestedKey) : Bool := !lexT (toks b) (toks a)
/-- wants, sorted -/
def sortW (W : List (Str × List Int)) : List (Str × List Int) := W.mergeSort fun a b => leKW (keyW a) (keyW b)
theorem sortW_perm (W : List (Str × List Int)) : (sortW W).Perm W := List.mergeSort_perm _ _
theorem srt_sndW {xs : List V} {ks : List NestedKey} (l : xs.length = ks.length) : (srt xs ks).map Prod.snd = ks.mergeSort leKW := by
  unfold srt
  rw [List.map_mergeSort (r := leF id) (f := Prod.snd) (l := xs.zip ks) (s := leKW) (fun a _ b _ => rfl)]
  rw [List.map_snd_zip (by rw [l]; exact Nat.le_refl _)]
theorem keys_sorted (W : List (Str × List Int)) : (W.map keyW).mergeSort leKW = (sortW W).map keyW := by
  unfold sortW
  exact (List.map_mergeSort (r := fun a b => leKW (keyW a) (keyW b)) (f := keyW) (s := leKW) fun _ _ _ _ => rfl).symm
theorem nk_zipW {H : Hp} : ∀ {xs : List V} {ks : List NestedKey}, NkAll H xs ks → ∀ b ∈ xs.zip ks, Nk H b.1 b.2
  | _, _, .nil, b, hb => by cases hb
  | _, _, .cons a h, b, hb => by
    rcases List.mem_cons.mp hb with rfl | hb
    · exact a
    · exact nk_zipW h b hb
theorem nk_pairsW {H : Hp} : ∀ {l : List (V × NestedKey)}, (∀ b ∈ l, Nk H b.1 b.2) → NkAll H (l.map Prod.fst) (l.map Prod.snd)
  | [], _ => .nil
  | x :: l, h => .cons (h x (.head _)) (nk_pairsW fun b hb => h b (.tail _ hb))
theorem srt_wants {H : Hp} {ps : List Addr} {W : List (Str × List Int)} (ws : WsAt H ps W) : ∃ qs, (srt (ps.map V.ref) (W.map keyW)).map Prod.fst = qs.map V.ref ∧ WsAt H qs (sortW W) := by
  have nk := ws_nk ws
  have pm : (srt (ps.map V.ref) (W.map keyW)).Perm ((ps.map V.ref).zip (W.map keyW)) := List.mergeSort_perm _ _
  have n1 := nk_pairsW (l := srt (ps.map V.ref) (W.map keyW)) fun b hb => nk_zipW nk b (pm.mem_iff.mp hb)
  rw [srt_sndW nk.length, keys_sorted] at n1
  exact nk_ws n1
/-- without the want of this name -/
def offW (n : Str) (W : List (Str × List Int)) : List (Str × List Int) := W.filter fun w => !decide (w.1 = n)
theorem offW_take {n : Str} {W : List (Str × List Int)} {i : Nat} {w : Str × List Int} (h : W[i]? = some w) : offW n (W.take (i + 1)) = if w.1 = n then offW n (W.take i) else offW n (W.take i) ++ [w] := by
  unfold offW
  rw [List.take_add_one, h, List.filter_append]
  by_cases c : w.1 = n <;> simp [c]
theorem offW_len (n : Str) (W : List (Str × List Int)) : (offW n W).length ≤ W.length := List.length_filter_le _ _
theorem WsAt.rd {H H' : Hp} {a : Addr} {xs : List V} (h : Rd H a (.tup xs)) (g : ∀ b o, H b = some o → (∀ ps, o ≠ .tbl ps) → H' b = some o) : Rd H' a (.tup xs) := h.imp (fun e => g _ _ e fun ps z => by cases z) fun ⟨o, e⟩ => ⟨o, g _ _ e fun ps z => by cases z⟩
def spWithout (T : Tx K mg) : Sp := fun vs H Q _ => ∃ (a : Addr) (n : Str) (ps : List Addr) (W : List (Str × List Int)), vs = [.ref a, .str n] ∧ Rd H a (.tup (ps.map V.ref)) ∧ WsAt H ps W ∧ W.length ≤ 900 ∧ Tbs (tbs T) H ∧
  ∀ (r : Addr) (qs : List Addr) (H' : Hp), Gk (tbs T) H H' → H' r = some (.tup (qs.map V.ref)) → WsAt H' qs (offW n W) → Q (.ref r) H'
theorem ok_without (T : Tx K mg) (B : Tb T base) : FnOk P w K mg base CX0 2 T.f_without_want T.d_without_want ["wants", "name"] (spWithout T) := by
  refine T.F_without_want.ok S_without_want (fun vs H Q E h => ?_) (fun A outer s H vs Q E hr h => ?_)
  · obtain ⟨a, n, ps, W, rfl, _⟩ := h
    rfl
  · obtain ⟨a, n, ps, W, rfl, ha, ws, few, hb, q⟩ := h
    refine ⟨_, (pss_one (ps_ret (GE.pe_tupleG (own := [("want", 2)]) (g := gName 2) (by rfl) S_without_want.nd hr (by rfl) T.m_tuple B.b_without_want rfl ⟨blkOk_by (own := [("want", 2)]) (N := N_without_want) (sc := defScope s_without_want) (by decide +kernel), rfl, (by decide +kernel), (by decide +kernel)⟩ (pi_tup (pv 0)) (fun _ _ _ _ _ _ hr => (pg_name (i := 2) S_without_want.nd rfl (.inl rfl))) (fun _ _ _ _ _ _ hr => (pts_one (pt_cmpR op_ne (pe_ix (r := rIxT K) ix_tup (pv 2) pe_int (fun _ _ => rfl)) (pv 1) (nomark _)))) (fun _ _ _ _ _ _ hr => (pv 2))))), ?_⟩
    refine ⟨_, rfl, a, rfl, ⟨_, .inl ha⟩, hb _ (by simp [tbs]), fun H2 tab => ?_⟩
    have g2 := (Tk.of hb (by simp [tbs]) tab).gk hb
    refine GE.tg_it (walk_tup (xs := ps.map V.ref)) (fun i us Hx => Gk (tbs T) H Hx ∧ ∃ qs : List Addr, us = qs.map V.ref ∧ WsAt Hx qs (offW n (W.take i))) ⟨g2, [], rfl, .nil⟩ (fun i us Hx _ h => .inl (WsAt.rd ha h.1.1)) ?_ ?_
    · rintro i v us H3 H4 hi ⟨g3, qs, rfl, wq⟩ ⟨rfl, hx⟩
      rw [List.getElem?_map] at hx
      obtain ⟨p, hp, rfl⟩ := Option.map_eq_some_iff.mp hx
      obtain ⟨m, ds, b, hw, hp2, hb2⟩ := (ws.at (Tups.gk g3)).get hp
      have tk := offW_take (n := n) hw
      refine ⟨rfl, _, rfl, p, _, 0, .str m, rfl, rfl, .inl (.inl hp2), rfl, _, rfl, rfl, _, rfl, ite2 (fun e => ?_) (fun e => ?_)⟩
      · have e : ¬ m = n := by simpa using e
        rw [if_neg e] at tk
        refine ⟨_, rfl, ?_, g3, qs ++ [p], by rw [List.map_append]; rfl, by rw [tk]; exact wq.snoc hp2 hb2⟩
        have := offW_len n (W.take i)
        rw [List.length_take] at this
        rw [List.length_map, wq.len]
        exact small1000 (by omega)
      · have e : m = n := by simpa using e
        rw [if_pos e] at tk
        exact ⟨g3, qs, rfl, by rw [tk]; exact wq⟩
    · rintro us Hx ⟨g3, qs, rfl, wq⟩
      have lp := ws.len
      rw [List.length_map, lp, List.take_of_length_le (Nat.le_refl _)] at wq
      have := offW_len n W
      refine ⟨by rw [List.length_map, wq.len, sizeLine_eq]; omega, fun r nr => ?_⟩
      exact q r qs _ (g3.trans (.new g3.2 nr)) upd_same (wq.at (.same (same_upd nr)))
theorem uniq_name : ∀ {W : List (Str × List Int)} {n : Str} {a b : List Int}, (W.map (·.1)).Nodup → (n, a) ∈ W → (n, b) ∈ W → a = b
  | w :: W, n, a, b, nd, ha, hb => by
    rw [List.map_cons] at nd
    obtain ⟨n1, n2⟩ := List.nodup_cons.mp nd
    rcases List.mem_cons.mp ha with ea | ha <;> rcases List.mem_cons.mp hb with eb | hb
    · rw [← eb] at ea; exact (Prod.mk.inj ea).2
    · exact absurd (List.mem_map.mpr ⟨_, hb, by rw [← ea]⟩) n1
    · exact absurd (List.mem_map.mpr ⟨_, ha, by rw [← eb]⟩) n1
    · exact uniq_name n2 ha hb
def spOfName : Sp := fun vs H Q _ => ∃ (a : Addr) (n : Str) (ps : List Addr) (W : List (Str × List Int)) (ds : List Int), vs = [.ref a, .str n] ∧ Rd H a (.tup (ps.map V.ref)) ∧ WsAt H ps W ∧ W.length ≤ 900 ∧ (W.map (·.1)).Nodup ∧ (n, ds) ∈ W ∧
  ∀ (r : Addr) (H' : Hp), Same H H' → H' r = some (.tup (ds.map V.int)) → Q (.ref r) H'
theorem ok_ofname (T : Tx K mg) : FnOk P w K mg base CX0 1 T.f_days_of_name T.d_days_of_name ["wants", "name"] (spOfName) := by
  refine T.F_days_of_name.ok S_days_of_name (fun vs H Q E h => ?_) (fun cdv A outer s H vs Q E hr h => ?_)
  · obtain ⟨a, n, ps, W, ds, rfl, _⟩ := h
    rfl
  · obtain ⟨a, n, ps, W, ds, rfl, ha, ws, few, nd, hm, q⟩ := h
    refine ⟨_, (pss_one (ps_ret (pe_ix ix_list (pe_lc (own := [("other", 2), ("days", 3)]) (g := gTup K 2 (gCons (gName 2) (gCons (gName 3) gNil))) (by rfl) S_days_of_name.nd (pi_tup (pv 0)) (blkOk_by (own := [("other", 2), ("days", 3)]) (N := N_days_of_name) (sc := defScope s_days_of_name) (by decide +kernel)) (fun _ _ _ _ _ => (pg_tup rfl (pgs_cons (pg_name (i := 2) S_days_of_name.nd rfl (.inl rfl)) (pgs_cons (pg_name (i := 3) S_days_of_name.nd rfl (.inl rfl)) pgs_nil)))) (fun _ _ _ _ _ => (pts_one (pt_cmpR op_eq (pv 2) (pv 1) (nomark _)))) (fun _ _ _ _ _ => (pv 3))) pe_int (fun _ _ => rfl)))), ?_⟩
    refine ⟨_, rfl, a, rfl, ⟨_, .inl ha⟩, fun D nD => ?_⟩
    have uq : ∀ es, (n, es) ∈ W → es = ds := fun es he => uniq_name nd he hm
    refine lc_tup (xs := ps.map V.ref) (fun i Hx => ∃ us : List Addr, Same H Hx ∧ Hx D = some (.lst (us.map V.ref)) ∧ us.length ≤ i ∧ (∀ u ∈ us, H u = some (.tup (ds.map V.int))) ∧ (us = [] → ∀ w ∈ W.take i, w.1 ≠ n)) ⟨[], same_upd nD, upd_same, Nat.le_refl _, (fun u h => by cases h), fun _ w h => by cases h⟩ (fun i Hx _ ⟨_, m, _⟩ => .inl (ha.imp (fun e => m _ _ e) fun ⟨o, e⟩ => ⟨o, m _ _ e⟩)) ?_ ?_
    · rintro i x Hx hi ⟨us, m, hD, lu, al, no⟩
      rw [List.getElem?_map] at hi
      obtain ⟨p, hp, rfl⟩ := Option.map_eq_some_iff.mp hi
      obtain ⟨k, es, b, hw, hp2, hb2⟩ := ws.get hp
      have li : i < W.length := (List.getElem?_eq_some_iff.mp hw).1
      refine ⟨p, _, rfl, .inl (.inl (m _ _ hp2)), rfl, _, _, rfl, _, _, rfl, rfl, rfl, _, rfl, _, rfl, rfl, _, rfl, ite2 (fun e => ?_) (fun e => ?_)⟩
      · have e : k = n := by simpa using e
        subst e
        have := uq es (List.mem_of_getElem? hw)
        subst this
        refine ⟨_, rfl, _, hD, ?_, us ++ [b], same_freshA nD m, by rw [upd_same, List.map_append]; rfl, by rw [List.length_append]; exact Nat.succ_le_succ lu, fun u hu => ?_, fun z => absurd z (by simp)⟩
        · rw [List.length_map]; exact small1000 (by omega)
        · exact (List.mem_append.mp hu).elim (al u) fun h => by rw [List.mem_singleton.mp h]; exact hb2
      · have e : ¬ k = n := by simpa using e
        refine ⟨us, m, hD, by omega, al, fun z w hw2 => ?_⟩
        rw [List.take_add_one, hw] at hw2
        exact (List.mem_append.mp hw2).elim (no z w) fun h => by rw [List.mem_singleton.mp h]; exact e
    · rintro Hx ⟨us, m, hD, lu, al, no⟩
      rw [List.length_map, ws.len, List.take_of_length_le (Nat.le_refl _)] at no
      cases us with
      | nil => exact absurd rfl (no rfl _ hm)
      | cons u us => exact ⟨D, _, 0, .ref u, rfl, rfl, .inl (.inl hD), at_of (j := 0) (by omega) rfl, q u Hx m (m _ _ (al u (.head _)))⟩
def putW (n : Str) (ds : List Int) (W : List (Str × List Int)) : List (Str × List Int) := sortW (offW n W ++ [(n, ds)])
theorem catW {H : Hp} {a b : Addr} {xs ys : List V} {Q : VK} (ha : H a = some (.tup xs)) (hb : H b = some (.tup ys)) (ln : xs.length + ys.length ≤ sizeLine) (q : ∀ N H', Same H H' → H' N = some (.tup (xs ++ ys)) → Q (.ref N) H') : rCatA K (.ref a) (.ref b) H Q :=
  ⟨a, b, xs, ys, rfl, rfl, .inl (.inl ha), .inl (.inl hb), ln, fun e => q b H (.refl _) (by rw [e]; exact hb), fun _ e => q a H (.refl _) (by rw [e, List.append_nil]; exact ha), fun _ _ p np => q p _ (same_upd np) upd_same⟩
def spPut : Sp := fun vs H Q _ => ∃ (a d : Addr) (n : Str) (ps : List Addr) (W : List (Str × List Int)) (ds : List Int), vs = [.ref a, .str n, .ref d] ∧ Rd H a (.tup (ps.map V.ref)) ∧ WsAt H ps W ∧ W.length ≤ 900 ∧ H d = some (.tup (ds.map V.int)) ∧
  ∀ (r : Addr) (qs : List Addr) (H' : Hp), Same H H' → H' r = some (.tup (qs.map V.ref)) → WsAt H' qs (putW n ds W) → Q (.ref r) H'
theorem ok_put (T : Tx K mg) : FnOk P w K mg base CX0 1 T.f_w_put T.d_w_put ["_law_wants_here", "_law_name", "_law_days_here"] (spPut) := by
  refine T.F_w_put.ok S_w_put (fun vs H Q E h => ?_) (fun cdv A outer s H vs Q E hr h => ?_)
  · obtain ⟨a, d, n, ps, W, ds, rfl, _⟩ := h
    rfl
  · obtain ⟨a, d, n, ps, W, ds, rfl, ha, ws, few, hd, q⟩ := h
    refine ⟨_, (pss_cons (ps_setLc (i := 3) (own := [("_law_one", 4)]) (g := gName 4) (by rfl) S_w_put.nd rfl rfl (sw_true rfl rfl rfl (by decide +kernel)) (pi_tup (pv 0)) (blkOk_by (own := [("_law_one", 4)]) (N := N_w_put) (sc := defScope s_w_put) (by decide +kernel)) (fun _ _ _ _ _ => (pg_name (i := 4) S_w_put.nd rfl (.inl rfl))) (fun _ _ _ _ _ => (pts_one (pt_cmpR op_ne (pe_ix (r := rIxT K) ix_tup (pv 4) pe_int (fun _ _ => rfl)) (pv 1) (nomark _)))) (fun _ _ _ _ _ => (pv 4)))
      (pss_one (ps_ret (pe_callTy call_tuple_of (by rfl) T.m_tuple (by decide +kernel) (pa_cons (pe_callB (cr_sortL (un64 hr)) (by rfl) T.m_sorted (by decide +kernel) (pa_cons (pe_op op_cat (pv 3) (pe_lst (pa_cons (pe_tup (pa_cons (pv 1) (pa_cons (pv 2) pa_nil))) pa_nil))) pa_nil)) pa_nil))))), ?_⟩
    refine ⟨_, rfl, a, rfl, ⟨_, .inl ha⟩, fun D nD => ?_⟩
    refine lc_tup (xs := ps.map V.ref) (fun i Hx => ∃ qs : List Addr, Same H Hx ∧ Hx D = some (.lst (qs.map V.ref)) ∧ WsAt Hx qs (offW n (W.take i))) ⟨[], same_upd nD, upd_same, .nil⟩ (fun i Hx _ ⟨_, m, _⟩ => .inl (ha.imp (fun e => m _ _ e) fun ⟨o, e⟩ => ⟨o, m _ _ e⟩)) ?_ ?_
    · rintro i x Hx hi ⟨qs, m, hD, wq⟩
      rw [List.getElem?_map] at hi
      obtain ⟨p, hp, rfl⟩ := Option.map_eq_some_iff.mp hi
      obtain ⟨k, es, b, hw, hp2, hb2⟩ := (ws.at (.same m)).get hp
      have tk := offW_take (n := n) hw
      refine ⟨rfl, _, rfl, p, _, 0, .str k, rfl, rfl, .inl (.inl hp2), rfl, _, rfl, rfl, _, rfl, ite2 (fun e => ?_) (fun e => ?_)⟩
      · have e : ¬ k = n := by simpa using e
        rw [if_neg e] at tk
        have tD : Tups Hx (upd Hx D (.lst (qs.map V.ref ++ [.ref p]))) := fun b xs e => by rw [upd_ne (fun u => by rw [u, hD] at e; cases e)]; exact e
        refine ⟨_, rfl, _, hD, ?_, qs ++ [p], same_freshA nD m, by rw [upd_same, List.map_append]; rfl, by rw [tk]; exact (wq.at tD).snoc (tD _ _ hp2) (tD _ _ hb2)⟩
        have := offW_len n (W.take i)
        rw [List.length_take] at this
        rw [List.length_map, wq.len]
        exact small1000 (by omega)
      · have e : k = n := by simpa using e
        rw [if_pos e] at tk
        exact ⟨qs, m, hD, by rw [tk]; exact wq⟩
    · rintro Hx ⟨qs, m, hD, wq⟩
      rw [List.length_map, ws.len, List.take_of_length_le (Nat.le_refl _)] at wq
      refine name_as (σ' := [some (.ref a), some (.str n), some (.ref d), some (.ref D), none]) rfl ?_
      have lq := offW_len n W
      refine ⟨_, rfl, _, rfl, _, rfl, sz (by show 2 ≤ 1000; decide), fun p np => ⟨sz (by show 1 ≤ 1000; decide), fun M nM => ?_⟩⟩
      have sp := same_upd (o := .tup [.str n, .ref d]) np
      have sM := same_upd (o := .lst [.ref p]) nM
      have hM := upd_same (H := upd Hx p (.tup [.str n, .ref d])) (a := M) (o := .lst [.ref p])
      have wq2 := ((wq.at (.same sp)).at (.same sM)).snoc (sM _ _ upd_same) (sM _ _ (sp _ _ (m _ _ hd)))
      have m2 := (m.trans sp).trans sM
      have hD2 := sM _ _ (sp _ _ hD)
      have lq2 := wq2.len
      refine ⟨D, M, _, _, rfl, rfl, hD2, hM, by rw [List.length_map, wq.len, sizeLine_eq]; show _ + 1 ≤ _; omega, fun N nN => ?_⟩
      have sN := same_upd (o := .lst (qs.map V.ref ++ [.ref p])) nN
      have wq3 := wq2.at (.same sN)
      refine ⟨N, (qs ++ [p]).map V.ref, (offW n W ++ [(n, ds)]).map keyW, rfl, .inl (.inl (by rw [upd_same, List.map_append]; rfl)), ws_nk wq3, wants_sbl _, ?_, fun l nl => ?_⟩
      · rw [List.length_map, lq2, List.length_append]
        show _ + 1 ≤ _
        omega
      have sl := same_upd (o := .lst ((srt ((qs ++ [p]).map V.ref) ((offW n W ++ [(n, ds)]).map keyW)).map Prod.fst)) nl
      obtain ⟨rs, er, wr⟩ := srt_wants wq3
      refine ⟨l, _, rfl, .inl ⟨.inl (.inl upd_same), fun r nr => ?_⟩⟩
      have sr := same_upd (o := .tup ((srt ((qs ++ [p]).map V.ref) ((offW n W ++ [(n, ds)]).map keyW)).map Prod.fst)) nr
      exact q r rs _ (((m2.trans sN).trans sl).trans sr) (by rw [upd_same, er]) ((wr.at (.same sl)).at (.same sr))
def spWithW (T : Tx K mg) : Sp := fun vs H Q _ => ∃ (a d : Addr) (n : Str) (ps : List Addr) (W : List (Str × List Int)) (ds : List Int), vs = [.ref a, .str n, .ref d] ∧ Rd H a (.tup (ps.map V.ref)) ∧ WsAt H ps W ∧ W.length ≤ 900 ∧ H d = some (.tup (ds.map V.int)) ∧ Tbs (tbs T) H ∧
  ∀ (r : Addr) (qs : List Addr) (H' : Hp), Gk (tbs T) H H' → H' r = some (.tup (qs.map V.ref)) → WsAt H' qs (putW n ds W) → Q (.ref r) H'
theorem ok_withW (T : Tx K mg) (B : Tb T base) : FnOk P w K mg base CX0 3 T.f_with_want T.d_with_want ["wants", "name", "days"] (spWithW T) := by
  have G_without_want : FnOk P w K mg base CX0 2 T.f_without_want T.d_without_want ["wants", "name"] (spWithout T) := ok_without T B
  refine T.F_with_want.ok S_with_want (fun vs H Q E h => ?_) (fun cdv A outer s H vs Q E hr h => ?_)
  · obtain ⟨a, d, n, ps, W, ds, rfl, _⟩ := h
    rfl
  · obtain ⟨a, d, n, ps, W, ds, rfl, ha, ws, few, hd, hb, q⟩ := h
    refine ⟨_, (pss_one (ps_ret (pe_callTy call_tuple_of (by rfl) T.m_tuple (by decide +kernel) (pa_cons (pe_callB (cr_sortTL (un64 hr)) (by rfl) T.m_sorted (by decide +kernel) (pa_cons (pe_op (r := rCatA K) op_catA (pe_call G_without_want hr (by rfl) T.g_without_want T.F_without_want.kp T.b_without_want .nil pass0 (pa_cons (pv 0) (pa_cons (pv 1) pa_nil))) (pe_tup (pa_cons (pe_tup (pa_cons (pv 1) (pa_cons (pv 2) pa_nil))) pa_nil))) pa_nil)) pa_nil)))), ?_⟩
    refine ⟨_, rfl, _, rfl, a, n, ps, W, rfl, ha, ws, few, hb, fun r qs H2 g2 hr2 wq => ?_⟩
    have lq := offW_len n W
    refine ⟨_, rfl, _, rfl, sz (by show 2 ≤ 1000; decide), fun p np => ⟨sz (by show 1 ≤ 1000; decide), fun M nM => ?_⟩⟩
    have sp := same_upd (o := .tup [.str n, .ref d]) np
    have sM := same_upd (o := .tup [.ref p]) nM
    have hM := upd_same (H := upd H2 p (.tup [.str n, .ref d])) (a := M) (o := .tup [.ref p])
    have wq2 := ((wq.at (.same sp)).at (.same sM)).snoc (sM _ _ upd_same) (sM _ _ (sp _ _ (g2.tup hd)))
    have g3 := g2.trans (.of_same (sp.trans sM) g2.2)
    have hr3 := sM _ _ (sp _ _ hr2)
    have lq2 := wq2.len
    refine catW hr3 hM (by rw [List.length_map, wq.len, sizeLine_eq]; show _ + 1 ≤ _; omega) fun N H5 s5 hN => ?_
    have wq3 := wq2.at (.same s5)
    refine ⟨N, (qs ++ [p]).map V.ref, (offW n W ++ [(n, ds)]).map keyW, rfl, .inl (.inl (by rw [hN, List.map_append]; rfl)), ws_nk wq3, wants_sbl _, ?_, fun l nl => ?_⟩
    · rw [List.length_map, lq2, List.length_append]
      show _ + 1 ≤ _
      omega
    have sl := same_upd (o := .lst ((srt ((qs ++ [p]).map V.ref) ((offW n W ++ [(n, ds)]).map keyW)).map Prod.fst)) nl
    obtain ⟨rs, er, wr⟩ := srt_wants wq3
    refine ⟨l, _, rfl, .inl ⟨.inl (.inl upd_same), fun r nr => ?_⟩⟩
    have sr := same_upd (o := .tup ((srt ((qs ++ [p]).map V.ref) ((offW n W ++ [(n, ds)]).map keyW)).map Prod.fst)) nr
    exact q r rs _ (g3.trans (.of_same ((s5.trans sl).trans sr) g3.2)) (by rw [upd_same, er]) ((wr.at (.same sl)).at (.same sr))
def spWithD (T : Tx K mg) : Sp := fun vs H Q _ => ∃ (a : Addr) (n : Str) (ps : List Addr) (W : List (Str × List Int)) (ds : List Int) (day : Int), vs = [.ref a, .str n, .int day] ∧ Rd H a (.tup (ps.map V.ref)) ∧ WsAt H ps W ∧ W.length ≤ 900 ∧ (W.map (·.1)).Nodup ∧ (n, ds) ∈ W ∧ ds.length ≤ 900 ∧ Tbs (tbs T) H ∧
  ∀ (r : Addr) (qs : List Addr) (es : List Int) (H' : Hp), Gk (tbs T) H H' → H' r = some (.tup (qs.map V.ref)) → es.Pairwise (· < ·) → (∀ x, x ∈ es ↔ x ∈ ds ++ [day]) → WsAt H' qs (putW n es W) → Q (.ref r) H'
theorem ok_withD (T : Tx K mg) (B : Tb T base) : FnOk P w K mg base CX0 4 T.f_with_day T.d_with_day ["wants", "name", "day"] (spWithD T) := by
  have G_with_want : FnOk P w K mg base CX0 3 T.f_with_want T.d_with_want ["wants", "name", "days"] (spWithW T) := ok_withW T B
  have G_days_of_name : FnOk P w K mg base CX0 1 T.f_days_of_name T.d_days_of_name ["wants", "name"] (spOfName) := ok_ofname T
  refine T.F_with_day.ok S_with_day (fun vs H Q E h => ?_) (fun cdv A outer s H vs Q E hr h => ?_)
  · obtain ⟨a, n, ps, W, ds, day, rfl, _⟩ := h
    rfl
  · obtain ⟨a, n, ps, W, ds, day, rfl, ha, ws, few, nd, hm, fd, hb, q⟩ := h
    refine ⟨_, (pss_one (ps_ret (pe_call G_with_want hr (by rfl) T.g_with_want T.F_with_want.kp T.b_with_want .nil pass0 (pa_cons (pv 0) (pa_cons (pv 1) (pa_cons (pe_callTy call_tuple_of (by rfl) T.m_tuple (by decide +kernel) (pa_cons (pe_callB (cr_sortI (by rfl) (un64 hr)) (by rfl) T.m_sorted (by decide +kernel) (pa_cons (pe_callTy (cr_setIT (by rfl)) (by rfl) T.m_set (by decide +kernel) (pa_cons (pe_op (r := rCatA K) op_catA (pe_call G_days_of_name (hr.mono (by decide)) (by rfl) T.g_days_of_name T.F_days_of_name.kp T.b_days_of_name .nil pass0 (pa_cons (pv 0) (pa_cons (pv 1) pa_nil))) (pe_tup (pa_cons (pv 2) pa_nil))) pa_nil)) pa_nil)) pa_nil)) pa_nil)))))), ?_⟩
    refine ⟨_, rfl, _, rfl, _, rfl, _, rfl, a, n, ps, W, ds, rfl, ha, ws, few, nd, hm, fun d H1 m1 hd => ?_⟩
    refine ⟨_, rfl, sz (by show 1 ≤ 1000; decide), fun M nM => ?_⟩
    have sM := same_upd (o := .tup [.int day]) nM
    refine catW (sM _ _ hd) upd_same (by rw [List.length_map, sizeLine_eq]; show _ + 1 ≤ _; omega) fun N H5 s5 hN => ?_
    have ed : ds.map V.int ++ [V.int day] = (ds ++ [day]).map V.int := by rw [List.map_append]; rfl
    rw [ed] at hN
    have m5 := (m1.trans sM).trans s5
    refine ⟨N, ds ++ [day], rfl, .inl (.inl hN), by rw [List.length_append]; show _ + 1 ≤ _; omega, fun S L nS mem ndL => ?_⟩
    have sS := same_upd (o := SetIO w S L) nS
    refine ⟨S, L, rfl, upd_same, ?_, fun es p pm nd2 pw np => ?_⟩
    · have := nd_lenA ndL fun b hb => (mem b).mp hb
      rw [List.length_append] at this
      have : L.length ≤ ds.length + 1 := this
      omega
    have sp := same_upd (o := .lst (es.map V.int)) np
    refine ⟨p, _, rfl, .inl ⟨.inl (.inl upd_same), fun l nl => ?_⟩⟩
    have sl := same_upd (o := .tup (es.map V.int)) nl
    have m6 := ((m5.trans sS).trans sp).trans sl
    refine ⟨a, l, n, ps, W, es, rfl, ha.imp (fun e => m6 _ _ e) fun ⟨o, e⟩ => ⟨o, m6 _ _ e⟩, ws.at (.same m6), few, upd_same, hb.same m6, fun r qs H7 g7 hr7 wq => ?_⟩
    exact q r qs es H7 ((Gk.of_same m6 hb).trans g7) hr7 (L2.lt_of_le_nodup es pw nd2) (fun x => by rw [pm.mem_iff, mem]) wq
end
end L55

set_option Elab.async false
set_option linter.all false
set_option maxRecDepth 100000
set_option maxHeartbeats 4000000
namespace L55
open PySem PySem.Spec PyProof.Rows L2 My
section
variable {P : Program} {w : World} {K : PySem.W.Frag} {mg : Str → Option Value} {base : Heap}
theorem tb_kp' {Ts : List Addr} {t c : Addr} {n : Nat} {H H' : Hp} (tb : Tbs Ts H) (h : FeedC H t c n) (k : Kp t H H') : Tbs Ts H' := fun b hb => by
  obtain ⟨ps, e, q⟩ := tb b hb
  obtain ⟨ns, sp, re, ca, e1, _⟩ := h
  exact ⟨ps, k _ _ (fun z => by rw [z, e1] at e; cases e) e, q⟩
theorem FeedC.ne' {H : Hp} {t c b : Addr} {n : Nat} {xs : List V} (h : FeedC H t c n) (e : H b = some (.tup xs)) : b ≠ t := fun z => by
  obtain ⟨ns, sp, re, ca, e1, _⟩ := h
  rw [z, e1] at e
  cases e
/-- all but the feed stays, the tables stand -/
def KG (Ts : List Addr) (t : Addr) (H H' : Hp) : Prop := (∀ b o, b ≠ t → H b = some o → (∀ ps, o ≠ .tbl ps) → H' b = some o) ∧ Tbs Ts H'
theorem KG.trans {Ts : List Addr} {t : Addr} {H H1 H2 : Hp} (a : KG Ts t H H1) (b : KG Ts t H1 H2) : KG Ts t H H2 := ⟨fun x o n e z => b.1 x o n (a.1 x o n e z) z, b.2⟩
theorem KG.gk {Ts : List Addr} {t : Addr} {H H1 : Hp} (g : Gk Ts H H1) : KG Ts t H H1 := ⟨fun x o _ e z => g.1 x o e z, g.2⟩
theorem KG.same {Ts : List Addr} {t : Addr} {H H1 : Hp} (s : Same H H1) (tb : Tbs Ts H) : KG Ts t H H1 := .gk (.of_same s tb)
theorem KG.kp {Ts : List Addr} {t c : Addr} {n : Nat} {H H1 : Hp} (k : Kp t H H1) (tb : Tbs Ts H) (f : FeedC H t c n) : KG Ts t H H1 := ⟨fun x o n e _ => k x o n e, tb_kp' tb f k⟩
theorem KG.tups {Ts : List Addr} {t c : Addr} {n : Nat} {H H1 : Hp} (k : KG Ts t H H1) (f : FeedC H t c n) : Tups H H1 := fun b xs e => k.1 b _ (fun z => by
  obtain ⟨ns, sp, re, ca, e1, _⟩ := f
  rw [z, e1] at e
  cases e) e (fun ps z => by cases z)
theorem KG.rd {Ts : List Addr} {t c a : Addr} {n : Nat} {H H1 : Hp} {xs : List V} (k : KG Ts t H H1) (f : FeedC H t c n) (h : Rd H a (.tup xs)) : Rd H1 a (.tup xs) := h.imp (fun e => k.tups f _ _ e) fun ⟨o, e⟩ => ⟨o, k.1 _ _ (fun z => by
  obtain ⟨ns, sp, re, ca, e1, _⟩ := f
  rw [z, e1] at e
  cases e) e fun ps z => by cases z⟩
theorem FeedC.rdNe {H : Hp} {t c b : Addr} {n : Nat} {xs : List V} (f : FeedC H t c n) (h : Rd H b (.tup xs)) : b ≠ t := fun z => by
  obtain ⟨ns, sp, re, ca, e1, _⟩ := f
  rcases h with e | ⟨o, e⟩ <;> (rw [z, e1] at e; cases e)
/-- wants that are told soon enough -/
structure WB (W : List (Str × List Int)) : Prop where
  ln : W.length ≤ 30
  ok : ∀ w ∈ W, Plain w.1 ∧ w.2.length ≤ 200 ∧ ∀ d ∈ w.2, 0 ≤ d ∧ d ≤ 10 ^ 31
theorem ints_dqs {fz : Bool} {t : Addr} {H : Hp} : ∀ ds : List Int, DqAll fz t H (ds.map V.int) (ds.map PyData.int)
  | [] => .nil
  | d :: ds => .cons (.int d) (ints_dqs ds)
theorem ws_dqs {fz : Bool} {t c : Addr} {n : Nat} {H : Hp} (f : FeedC H t c n) : ∀ {ps : List Addr} {W : List (Str × List Int)}, WsAt H ps W → DqAll fz t H (ps.map V.ref) (W.map wD)
  | _, _, .nil => .nil
  | _, _, .cons a b h => .cons (.tup (f.ne' a) a (.cons (.str _) (.cons (.tup (f.ne' b) b (ints_dqs _)) .nil))) (ws_dqs f h)
theorem rd_dq {t c r : Addr} {n : Nat} {H : Hp} {xs : List V} {ds : List PyData} (f : FeedC H t c n) (h : Rd H r (.tup xs)) (q : DqAll true t H xs ds) : Dq true t H (.ref r) (.tuple ds) := dq_rd (f.rdNe h) (h.imp id fun ⟨o, e⟩ => ⟨rfl, o, e⟩) q
theorem sht_ints : ∀ {ds : List Int}, (∀ d ∈ ds, 0 ≤ d ∧ d ≤ 10 ^ 31) → ShTs (10 ^ 31) (ds.map .int)
  | [], _ => trivial
  | d :: ds, h => ⟨by have := h d (.head _); show d.natAbs ≤ 10 ^ 31; omega, sht_ints fun d hd => h d (.tail _ hd)⟩
theorem tls_ints : ∀ ds : List Int, tls (ds.map .int) = 72 * ds.length
  | [] => rfl
  | d :: ds => by rw [List.map_cons, tls, tls_ints ds, tl, List.length_cons]; omega
theorem dep_ints : ∀ ds : List Int, PyData.depthAll (ds.map .int) = 0
  | [] => by rw [List.map_nil, PyData.depthAll]
  | d :: ds => by rw [List.map_cons, PyData.depthAll, dep_ints ds, PyData.depth]; rfl
theorem fit_want {w : Str × List Int} (h : Plain w.1 ∧ w.2.length ≤ 200 ∧ ∀ d ∈ w.2, 0 ≤ d ∧ d ≤ 10 ^ 31) : FitT (10 ^ 31) (wD w) 15500 2 := by
  obtain ⟨h1, h2, h3⟩ := h
  have l := h1.1
  refine ⟨⟨h1, sht_ints h3, trivial⟩, ?_, ?_⟩
  · have := tls_ints w.2
    show tls [PyData.str w.1, .tuple (w.2.map .int)] + 3 ≤ 15500
    rw [tls, tls, tls, tl, tl, this]
    omega
  · have := dep_ints w.2
    unfold wD
    simp only [PyData.depth, PyData.depthAll]
    omega
theorem fit_wants : ∀ {W : List (Str × List Int)}, (∀ w ∈ W, Plain w.1 ∧ w.2.length ≤ 200 ∧ ∀ d ∈ w.2, 0 ≤ d ∧ d ≤ 10 ^ 31) → FitTs (10 ^ 31) (W.map wD) (15502 * W.length) 2
  | [], _ => ⟨trivial, Nat.zero_le _, by rw [List.map_nil, PyData.depthAll]; exact Nat.zero_le _⟩
  | w :: W, h => by
    have a := (fit_want (h w (.head _))).one
    have b := fit_wants fun w hw => h w (.tail _ hw)
    exact (a.app b).mono (by rw [List.length_cons]; omega) (Nat.le_refl _)
theorem fit_ws {t c r : Addr} {n : Nat} {ps : List Addr} {W : List (Str × List Int)} {H : Hp} (f : FeedC H t c n) (hr : Rd H r (.tup (ps.map V.ref))) (ws : WsAt H ps W) (wb : WB W) : Dq true t H (.ref r) (.tuple (W.map wD)) ∧ ShT (10 ^ 31) (.tuple (W.map wD)) ∧ (PyData.tuple (W.map wD)).depth ≤ 50 ∧ tl (.tuple (W.map wD)) ≤ sizeLine := by
  have g := (fit_wants wb.ok).tup
  have := wb.ln
  exact ⟨rd_dq f hr (ws_dqs f ws), g.sh, Nat.le_trans g.dp (by decide), Nat.le_trans g.tl (by rw [sizeLine_eq]; omega)⟩
theorem fit_ints {t c r : Addr} {n : Nat} {ds : List Int} {H : Hp} (f : FeedC H t c n) (hr : Rd H r (.tup (ds.map V.int))) (l : ds.length ≤ 1000) (rg : ∀ d ∈ ds, 0 ≤ d ∧ d ≤ 10 ^ 31) : Dq true t H (.ref r) (.tuple (ds.map .int)) ∧ ShT (10 ^ 31) (.tuple (ds.map .int)) ∧ (PyData.tuple (ds.map .int)).depth ≤ 50 ∧ tl (.tuple (ds.map .int)) ≤ sizeLine :=
  ⟨rd_dq f hr (ints_dqs ds), sht_ints rg, by rw [PyData.depth, dep_ints]; decide, by show tls _ + 3 ≤ _; rw [tls_ints, sizeLine_eq]; omega⟩
theorem name_join2 {i : Nat} {v : V} {σ σ' : L2.St} {H : Hp} {a b : TS} {D : Ends} {rt : VK} {bk ct : L2.St → Hp → Prop} (R : L2.St → Hp → Prop) (e : σ.set i (some v) = σ') (h : ∀ nx' : L2.St → Hp → Prop, (∀ σ2 H2, R σ2 H2 → nx' σ2 H2) → a { D with nx := nx' } σ' H) (k : ∀ σ2 H2, R σ2 H2 → b D σ2 H2) : gName i v σ H (Ends.mk (tSeq a b D) rt bk ct).nx := by
  unfold gName
  rw [e]
  exact h _ k
theorem name_asg {i j : Nat} {v : V} {σ σ' : L2.St} {H : Hp} {te : TE} {b : TS} {D : Ends} {rt : VK} {bk ct : L2.St → Hp → Prop} (R : V → Hp → Prop) (e : σ.set j (some v) = σ') (h : ∀ Q' : VK, (∀ v H', R v H' → Q' v H') → te σ' H Q') (k : ∀ v H', R v H' → gName i v σ' H' (b D)) : gName j v σ H (Ends.mk (tSeq (tAsg te (gName i)) b D) rt bk ct).nx := by
  unfold gName
  rw [e]
  exact h _ k
theorem nes2 : ∀ z : Str, ¬ (!decide (V.str z = V.str z)) = true := fun z => by rw [decide_eq_true rfl]; decide
theorem rising_eq {a b : List Int} (ha : a.Pairwise (· < ·)) (hb : b.Pairwise (· < ·)) (h : ∀ x, x ∈ a ↔ x ∈ b) : a = b := by
  have pe : a.Perm b := (List.perm_ext_iff_of_nodup (ha.imp fun h => Int.ne_of_lt h) (hb.imp fun h => Int.ne_of_lt h)).mpr h
  exact pe.eq_of_pairwise (fun a b _ _ h1 h2 => absurd h1 (Int.not_lt.mpr (Int.le_of_lt h2))) ha hb
theorem wb_put {n : Str} {ds : List Int} {L : List (Str × List Int)} (ln : L.length ≤ 8) (ok : ∀ w ∈ L, Plain w.1 ∧ w.2.length ≤ 28 ∧ ∀ d ∈ w.2, 0 ≤ d ∧ d ≤ 10 ^ 30 + 28) (hn : Plain n) (hl : ds.length ≤ 200) (hd : ∀ d ∈ ds, 0 ≤ d ∧ d ≤ 10 ^ 31) : WB (putW n ds L) := by
  refine ⟨?_, fun w hw => ?_⟩
  · have := offW_len n L
    unfold putW
    rw [(sortW_perm _).length_eq, List.length_append]
    show _ + 1 ≤ _
    omega
  · rcases List.mem_append.mp ((sortW_perm _).mem_iff.mp hw) with h | h
    · obtain ⟨h1, h2, h3⟩ := ok w (List.mem_filter.mp h).1
      exact ⟨h1, by omega, fun d hd => by have := h3 d hd; omega⟩
    · rw [List.mem_singleton.mp h]
      exact ⟨hn, hl, hd⟩
theorem wb_off {n : Str} {L : List (Str × List Int)} (ln : L.length ≤ 8) (ok : ∀ w ∈ L, Plain w.1 ∧ w.2.length ≤ 28 ∧ ∀ d ∈ w.2, 0 ≤ d ∧ d ≤ 10 ^ 30 + 28) : WB (offW n L) := by
  refine ⟨by have := offW_len n L; omega, fun w hw => ?_⟩
  obtain ⟨h1, h2, h3⟩ := ok w (List.mem_filter.mp hw).1
  exact ⟨h1, by omega, fun d hd => by have := h3 d hd; omega⟩
abbrev sM (t a f : V) (n o d l y u e k : Option V) : L2.St := [some t, some a, some f, n, o, d, l, y, u, e, k]
theorem sl_takeW {H : Hp} {a : Addr} {xs : List V} {k : Nat} {Q : VK} (h : Rd H a (.tup xs)) (q : ∀ r H', Same H H' → Rd H' r (.tup (xs.take k)) → Q (.ref r) H') : rSlA K (.ref a) none (some (k : Int)) H Q :=
  ⟨a, xs, rfl, .inl h, fun e => q a H (.refl _) (by
    rw [HT.sIx_nat] at e
    rw [List.take_of_length_le (by omega)]
    exact h), fun _ p np => q p _ (same_upd np) (by rw [cut_tkQ]; exact .inl upd_same)⟩
theorem sl_takeT {H : Hp} {a : Addr} {xs : List V} {k : Nat} {Q : VK} (h : H a = some (.tup xs)) (q : ∀ r H', Same H H' → H' r = some (.tup (xs.take k)) → Q (.ref r) H') : rSlA K (.ref a) none (some (k : Int)) H Q :=
  ⟨a, xs, rfl, .inl (.inl h), fun e => q a H (.refl _) (by
    rw [HT.sIx_nat] at e
    rw [List.take_of_length_le (by omega)]
    exact h), fun _ p np => q p _ (same_upd np) (by rw [cut_tkQ]; exact upd_same)⟩
theorem allW_len {m : Nat} : ∀ {W : List (Str × List Int)}, (∀ w ∈ W, w.2.length ≤ m) → (allW W).length ≤ m * W.length
  | [], _ => Nat.zero_le _
  | w :: W, h => by
    have a := h w (.head _)
    have b := allW_len fun w hw => h w (.tail _ hw)
    show (w.2 ++ allW W).length ≤ m * (W.length + 1)
    rw [List.length_append, Nat.mul_succ]
    omega
theorem WsAt.take {H : Hp} : ∀ {ps : List Addr} {W : List (Str × List Int)} (k : Nat), WsAt H ps W → WsAt H (ps.take k) (W.take k)
  | _, _, 0, _ => .nil
  | _, _, _ + 1, .nil => .nil
  | _, _, k + 1, .cons a b c => .cons a b (c.take k)
/-- a few wants -/
structure Few (H : Hp) (f : Addr) (ps : List Addr) (F : List (Str × List Int)) : Prop where
  rd : Rd H f (.tup (ps.map V.ref))
  ws : WsAt H ps F
  ln : F.length ≤ 8
  nd : (F.map (·.1)).Nodup
  ok : ∀ w ∈ F, Plain w.1 ∧ w.2.length ≤ 28 ∧ ∀ d ∈ w.2, 0 ≤ d ∧ d ≤ 10 ^ 30 + 28
theorem Few.same {H H' : Hp} {f : Addr} {ps : List Addr} {F : List (Str × List Int)} (h : Few H f ps F) (s : Same H H') : Few H' f ps F := ⟨h.rd.imp (fun e => s _ _ e) fun ⟨o, e⟩ => ⟨o, s _ _ e⟩, h.ws.at (.same s), h.ln, h.nd, h.ok⟩
theorem Few.kg {Ts : List Addr} {t c : Addr} {n : Nat} {H H' : Hp} {f : Addr} {ps : List Addr} {F : List (Str × List Int)} (h : Few H f ps F) (g : KG Ts t H H') (hT : FeedC H t c n) : Few H' f ps F := ⟨g.rd hT h.rd, h.ws.at (g.tups hT), h.ln, h.nd, h.ok⟩
theorem nodup_lt {W : List (Str × List Int)} (h : (W.map (·.1)).Pairwise fun x y => x.cps.toList < y.cps.toList) : (W.map (·.1)).Nodup := h.imp fun {a b} h e => by rw [e] at h; exact List.lt_irrefl _ h
theorem few_of {H : Hp} {a : Addr} {ps : List Addr} {W : List (Str × List Int)} (ha : Rd H a (.tup (ps.map V.ref))) (ws : WsAt H ps W) (wok : WOk W 8 28) : Few H a ps W := by
  obtain ⟨b, b0, b1, rg⟩ := wok.rg
  exact ⟨ha, ws, wok.ln, nodup_lt wok.pw, fun w hw => ⟨(wok.nm w hw).2, wok.l28 w hw, fun d hd => by have := rg w hw d hd; omega⟩⟩
def spMade (T : Tx K mg) : Sp := fun vs H Q _ => ∃ (t c a : Addr) (k : Nat) (ps : List Addr) (W : List (Str × List Int)), vs = [.ref t, .ref a] ∧ FeedC H t c k ∧ k < 800000 ∧ Rd H a (.tup (ps.map V.ref)) ∧ WsAt H ps W ∧ WOk W 8 28 ∧ Tbs (tbs T) H ∧
  ∀ H', KG (tbs T) t H H' → FeedC H' t c (k + 200) → Q (.bl true) H'
theorem ok_made (T : Tx K mg) (B : Tb T base) : GU.FnG P w K mg base CX0 5 T.f_w_made_right T.d_w_made_right ["_law_feed_here", "_law_wants_here"] (spMade T) := by
  have G_all_days : FnOk P w K mg base CX0 1 T.f_all_days T.d_all_days ["wants"] (spAllD) := ok_alldays T
  have G_with_want : FnOk P w K mg base CX0 3 T.f_with_want T.d_with_want ["wants", "name", "days"] (spWithW T) := ok_withW T B
  have G_with_day : FnOk P w K mg base CX0 4 T.f_with_day T.d_with_day ["wants", "name", "day"] (spWithD T) := ok_withD T B
  have G_without_want : FnOk P w K mg base CX0 2 T.f_without_want T.d_without_want ["wants", "name"] (spWithout T) := ok_without T B
  have G_w_draw : FnOk P w K mg base CX0 1 T.f_w_draw T.d_w_draw ["_law_feed_here", "_law_many"] (spDraw) := ok_draw T
  have G_w_days : FnOk P w K mg base CX0 2 T.f_w_days T.d_w_days ["_law_feed_here", "_law_base", "_law_span", "_law_way"] (spDays) := ok_days T
  have G_w_put : FnOk P w K mg base CX0 1 T.f_w_put T.d_w_put ["_law_wants_here", "_law_name", "_law_days_here"] (spPut) := ok_put T
  refine GU.okG T.F_w_made_right S_w_made_right (fun vs H Q E h => ?_) (fun cdv A outer s H vs Q E gd hr h => ?_)
  · obtain ⟨t, c, a, k, ps, W, rfl, _⟩ := h
    rfl
  · obtain ⟨t, c, a, k, ps, W, rfl, hT, hk, ha, ws, wok, hb, q⟩ := h
    refine ⟨_, (pss_cons (ps_set (i := 2) S_w_made_right.nd rfl (.inl rfl) (pv 1))
      (pss_cons (ps_if (pt_cmpR op_gt (pe_callB call_len_seq (by rfl) T.m_len PySem.boot_len (pa_cons (pe_call G_all_days (hr.mono (by decide)) (by rfl) T.g_all_days T.F_all_days.kp T.b_all_days .nil pass0 (pa_cons (pv 1) pa_nil)) pa_nil)) pe_int (nomark _)) (pss_one (ps_set (i := 2) S_w_made_right.nd rfl (.inl rfl) (pe_callTy call_tuple_of (by rfl) T.m_tuple (by decide +kernel) (pa_cons (pe_lc (own := [("_law_name", 3), ("_law_own", 4)]) (g := gTup K 2 (gCons (gName 3) (gCons (gName 4) gNil))) (tt := tYes) (by rfl) S_w_made_right.nd (pi_tup (pe_slice (r := rSlA K) sl_tupA (pv 1) po_none (po_some pe_int))) (blkOk_by (own := [("_law_name", 3), ("_law_own", 4)]) (N := N_w_made_right) (sc := defScope s_w_made_right) (by decide +kernel)) (fun _ _ _ _ _ => (pg_tup rfl (pgs_cons (pg_name (i := 3) S_w_made_right.nd rfl (.inl rfl)) (pgs_cons (pg_name (i := 4) S_w_made_right.nd rfl (.inl rfl)) pgs_nil)))) (fun _ _ _ _ _ => pts_nil) (fun _ _ _ _ _ => (pe_tup (pa_cons (pv 3) (pa_cons (pe_slice (r := rSlA K) sl_tupA (pv 4) po_none (po_some pe_int)) pa_nil))))) pa_nil)))) pss_nil)
      (pss_cons (ps_set (i := 3) S_w_made_right.nd rfl (.inr rfl) (pe_ix (r := rIxL K) ix_list (pe_lst (pa_cons pe_str (pa_cons pe_str (pa_cons pe_str (pa_cons pe_str pa_nil))))) (pe_call G_w_draw (hr.mono (by decide)) (by rfl) T.g_w_draw T.F_w_draw.kp T.b_w_draw .nil pass0 (pa_cons (pv 0) (pa_cons pe_int pa_nil))) (fun _ _ => rfl)))
      (pss_cons (ps_set (i := 5) S_w_made_right.nd rfl (.inl rfl) (pe_call G_w_days (hr.mono (by decide)) (by rfl) T.g_w_days T.F_w_days.kp T.b_w_days .nil pass0 (pa_cons (pv 0) (pa_cons pe_int (pa_cons pe_int (pa_cons (pe_call G_w_draw (hr.mono (by decide)) (by rfl) T.g_w_draw T.F_w_draw.kp T.b_w_draw .nil pass0 (pa_cons (pv 0) (pa_cons pe_int pa_nil))) pa_nil))))))
      (pss_cons (ps_set (i := 6) S_w_made_right.nd rfl (.inl rfl) (pe_ifExp (PW.pt (pw_or (pt_cmpR op_lt (pe_callB call_len_seq (by rfl) T.m_len PySem.boot_len (pa_cons (pv 2) pa_nil)) pe_int (nomark _)) (pw_or1 (pt_cmpR op_in_seq (pv 3) (pe_lc (own := [("_law_one", 10)]) (g := gName 10) (tt := tYes) (by rfl) S_w_made_right.nd (pi_tup (pv 2)) (blkOk_by (own := [("_law_one", 10)]) (N := N_w_made_right) (sc := defScope s_w_made_right) (by decide +kernel)) (fun _ _ _ _ _ => (pg_name (i := 10) S_w_made_right.nd rfl (.inl rfl))) (fun _ _ _ _ _ => pts_nil) (fun _ _ _ _ _ => (pe_ix (r := rIxT K) ix_tup (pv 10) pe_int (fun _ _ => rfl)))) (by rfl))))) (pv 2) (pe_slice (r := rSlA K) sl_tupA (pv 2) po_none (po_some pe_int))))
      (pss_cons (ps_if (pt_cmpR op_ne (pe_callB (call_reprT gd hr) (by rfl) T.m_repr (by decide +kernel) (pa_cons (pe_call G_with_want (hr.mono (by decide)) (by rfl) T.g_with_want T.F_with_want.kp T.b_with_want .nil pass0 (pa_cons (pv 6) (pa_cons (pv 3) (pa_cons (pv 5) pa_nil)))) pa_nil)) (pe_callB (call_reprT gd hr) (by rfl) T.m_repr (by decide +kernel) (pa_cons (pe_call G_w_put (hr.mono (by decide)) (by rfl) T.g_w_put T.F_w_put.kp T.b_w_put .nil pass0 (pa_cons (pv 6) (pa_cons (pv 3) (pa_cons (pv 5) pa_nil)))) pa_nil)) (nomark _)) (pss_one (ps_ret pe_bl)) pss_nil)
      (pss_cons (ps_for PassesOwn.never rfl (pi_tup (pv 2)) (pg_tup rfl (pgs_cons (pg_name (i := 3) S_w_made_right.nd rfl (.inr rfl)) (pgs_cons (pg_name (i := 4) S_w_made_right.nd rfl (.inl rfl)) pgs_nil)))
      (pss_cons (ps_set (i := 7) S_w_made_right.nd rfl (.inl rfl) (pe_ix (r := rIxL K) ix_list (pe_lst (pa_cons pe_int (pa_cons pe_int (pa_cons pe_int pa_nil)))) (pe_call G_w_draw (hr.mono (by decide)) (by rfl) T.g_w_draw T.F_w_draw.kp T.b_w_draw .nil pass0 (pa_cons (pv 0) (pa_cons pe_int pa_nil))) (fun _ _ => rfl)))
      (pss_cons (ps_set (i := 8) S_w_made_right.nd rfl (.inl rfl) (pe_call G_w_put (hr.mono (by decide)) (by rfl) T.g_w_put T.F_w_put.kp T.b_w_put .nil pass0 (pa_cons (pv 2) (pa_cons (pv 3) (pa_cons (pe_callTy call_tuple_of (by rfl) T.m_tuple (by decide +kernel) (pa_cons (pe_callB (cr_sortI (by rfl) (un64 hr)) (by rfl) T.m_sorted (by decide +kernel) (pa_cons (pe_callTy (cr_setIT (by rfl)) (by rfl) T.m_set (by decide +kernel) (pa_cons (pe_op (r := rCatA K) op_catA (pv 4) (pe_tup (pa_cons (pv 7) pa_nil))) pa_nil)) pa_nil)) pa_nil)) pa_nil)))))
      (pss_one (ps_if (pt_cmpR op_ne (pe_callB (call_reprT gd hr) (by rfl) T.m_repr (by decide +kernel) (pa_cons (pe_call G_with_day hr (by rfl) T.g_with_day T.F_with_day.kp T.b_with_day .nil pass0 (pa_cons (pv 2) (pa_cons (pv 3) (pa_cons (pv 7) pa_nil)))) pa_nil)) (pe_callB (call_reprT gd hr) (by rfl) T.m_repr (by decide +kernel) (pa_cons (pv 8) pa_nil)) (nomark _)) (pss_one (ps_ret pe_bl)) pss_nil)))))
      (pss_cons (ps_for PassesOwn.never rfl (pi_tup (pv 1)) (pg_tup rfl (pgs_cons (pg_name (i := 3) S_w_made_right.nd rfl (.inr rfl)) (pgs_cons (pg_name (i := 4) S_w_made_right.nd rfl (.inl rfl)) pgs_nil)))
      (pss_one (ps_if (pt_cmpR op_ne (pe_callB (call_reprT gd hr) (by rfl) T.m_repr (by decide +kernel) (pa_cons (pe_call G_without_want (hr.mono (by decide)) (by rfl) T.g_without_want T.F_without_want.kp T.b_without_want .nil pass0 (pa_cons (pv 1) (pa_cons (pv 3) pa_nil))) pa_nil)) (pe_callB (call_reprT gd hr) (by rfl) T.m_repr (by decide +kernel) (pa_cons (pe_callTy call_tuple_of (by rfl) T.m_tuple (by decide +kernel) (pa_cons (pe_lc (own := [("_law_one", 10)]) (g := gName 10) (by rfl) S_w_made_right.nd (pi_tup (pv 1)) (blkOk_by (own := [("_law_one", 10)]) (N := N_w_made_right) (sc := defScope s_w_made_right) (by decide +kernel)) (fun _ _ _ _ _ => (pg_name (i := 10) S_w_made_right.nd rfl (.inl rfl))) (fun _ _ _ _ _ => (pts_one (pt_cmpR op_ne (pe_ix (r := rIxT K) ix_tup (pv 10) pe_int (fun _ _ => rfl)) (pv 3) (nomark _)))) (fun _ _ _ _ _ => (pv 10))) pa_nil)) pa_nil)) (nomark _)) (pss_one (ps_ret pe_bl)) pss_nil)))
      (pss_cons (ps_set (i := 9) S_w_made_right.nd rfl (.inl rfl) (pe_lst pa_nil))
      (pss_cons (ps_for PassesOwn.never rfl (pi_tup (pv 1)) (pg_tup rfl (pgs_cons (pg_name (i := 3) S_w_made_right.nd rfl (.inr rfl)) (pgs_cons (pg_name (i := 4) S_w_made_right.nd rfl (.inl rfl)) pgs_nil)))
      (pss_one (ps_set (i := 9) S_w_made_right.nd rfl (.inl rfl) (pe_op op_cat (pv 9) (pe_callTy call_list_of (by rfl) T.m_list (by decide +kernel) (pa_cons (pv 4) pa_nil))))))
      (pss_one (ps_ret (pe_cmpR op_eq (pe_callB (call_reprT gd hr) (by rfl) T.m_repr (by decide +kernel) (pa_cons (pe_call G_all_days (hr.mono (by decide)) (by rfl) T.g_all_days T.F_all_days.kp T.b_all_days .nil pass0 (pa_cons (pv 1) pa_nil)) pa_nil)) (pe_callB (call_reprT gd hr) (by rfl) T.m_repr (by decide +kernel) (pa_cons (pe_callTy call_tuple_of (by rfl) T.m_tuple (by decide +kernel) (pa_cons (pe_callB (cr_sortI (by rfl) (un64 hr)) (by rfl) T.m_sorted (by decide +kernel) (pa_cons (pe_callTy (cr_setI (by rfl)) (by rfl) T.m_set (by decide +kernel) (pa_cons (pv 9) pa_nil)) pa_nil)) pa_nil)) pa_nil)) (nomark _)))))))))))))), ?_⟩
    have fw := few_of ha ws wok
    refine ⟨_, rfl, name_join2 (σ' := sM (.ref t) (.ref a) (.ref a) none none none none none none none none) (fun σ' H' => ∃ (f : Addr) (qs : List Addr) (F : List (Str × List Int)) (y3 y4 : Option V), σ' = sM (.ref t) (.ref a) (.ref f) y3 y4 none none none none none none ∧ Same H H' ∧ Few H' f qs F) rfl (fun nx' hn => ?_) ?_⟩
    · have l9 := allW_len wok.l28
      have l8 := wok.ln
      refine ⟨_, rfl, a, ps, W, rfl, ha, ws, by omega, fun r o ds H1 m1 hr1 td pw mem => ⟨r, _, rfl, .inr (.inl (.inr ⟨o, hr1⟩)), _, _, rfl, rfl, _, rfl, ite2 (fun e => ?_) (fun e => ?_)⟩⟩
      · have fw1 := fw.same m1
        refine ⟨_, rfl, np_in ⟨3, rfl, sl_takeW (k := 3) fw1.rd fun r1 H2 m2 hr2 => ⟨r1, rfl, ⟨_, .inl hr2⟩, fun D nD => ?_⟩⟩⟩
        rw [← List.map_take] at hr2
        have ws2 := (fw1.ws.at (.same m2)).take 3
        have lw3 : (W.take 3).length ≤ 3 := by rw [List.length_take]; omega
        have lp3 := ws2.len
        refine lc_tup (xs := (ps.take 3).map V.ref) (fun i Hx => ∃ (qs : List Addr), Same H2 Hx ∧ Hx D = some (.lst (qs.map V.ref)) ∧ WsAt Hx qs (((W.take 3).take i).map fun w => (w.1, w.2.take 6))) ⟨[], same_upd nD, upd_same, .nil⟩ (fun i Hx _ ⟨_, m, _⟩ => .inl (hr2.imp (fun e => m _ _ e) fun ⟨o, e⟩ => ⟨o, m _ _ e⟩)) ?_ ?_
        · rintro i x Hx hi ⟨qs, m, hD, wq⟩
          rw [List.getElem?_map] at hi
          obtain ⟨p, hp, rfl⟩ := Option.map_eq_some_iff.mp hi
          obtain ⟨n, ds, b, hw, hp2, hb2⟩ := (ws2.at (.same m)).get hp
          have li : i < (W.take 3).length := (List.getElem?_eq_some_iff.mp hw).1
          refine ⟨p, _, rfl, .inl (.inl hp2), rfl, _, _, rfl, _, _, rfl, rfl, rfl, tYesT ?_⟩
          refine ⟨_, rfl, _, rfl, np_in ⟨6, rfl, sl_takeT (k := 6) hb2 fun r2 H3 m3 h3 => ⟨sz (by show 2 ≤ 1000; decide), fun p2 np2 => ?_⟩⟩⟩
          have s2 := same_upd (o := .tup [.str n, .ref r2]) np2
          have m4 := (m.trans m3).trans s2
          have hD4 := s2 _ _ (m3 _ _ hD)
          refine ⟨_, hD4, by rw [List.length_map, wq.len, List.length_map, List.length_take]; exact small1000 (by omega), qs ++ [p2], same_freshA nD m4, by rw [upd_same, List.map_append]; rfl, ?_⟩
          have tD : Tups (upd H3 p2 (.tup [.str n, .ref r2])) (upd (upd H3 p2 (.tup [.str n, .ref r2])) D (.lst (qs.map V.ref ++ [.ref p2]))) := fun b xs e => by rw [upd_ne (fun u => by rw [u, hD4] at e; cases e)]; exact e
          rw [List.take_add_one, hw, List.map_append]
          rw [← List.map_take] at h3
          exact ((wq.at (.same (m3.trans s2))).at tD).snoc (tD _ _ upd_same) (tD _ _ (s2 _ _ h3))
        · rintro Hx ⟨qs, m, hD, wq⟩
          rw [List.length_map, lp3, List.take_of_length_le (Nat.le_refl _)] at wq
          refine ⟨D, _, rfl, .inl ⟨.inl (.inl hD), fun l nl => ?_⟩⟩
          have sl := same_upd (o := .tup (qs.map V.ref)) nl
          refine hn _ _ ⟨l, qs, _, _, _, rfl, ((m1.trans m2).trans m).trans sl, .inl upd_same, wq.at (.same sl), by rw [List.length_map]; omega, ?_, fun w hw => ?_⟩
          · rw [List.map_map]
            have : ((fun w : Str × List Int => w.1) ∘ fun w : Str × List Int => (w.1, w.2.take 6)) = fun w => w.1 := rfl
            rw [this, List.map_take]
            exact (List.take_sublist _ _).nodup fw.nd
          · obtain ⟨v, hv, rfl⟩ := List.mem_map.mp hw
            obtain ⟨h1, h2, h3⟩ := fw.ok v (List.mem_of_mem_take hv)
            exact ⟨h1, by show (v.2.take 6).length ≤ 28; rw [List.length_take]; omega, fun d hd => h3 d (List.mem_of_mem_take hd)⟩
      · exact hn _ _ ⟨a, ps, W, none, none, rfl, m1, fw.same m1⟩
    rintro σ1 H1 ⟨f, fs, F, y3, y4, rfl, m1, few⟩
    have k1 : KG (tbs T) t H H1 := .same m1 hb
    have hT1 := hT.same m1
    refine ⟨sz (by show 4 ≤ 1000; decide), fun p0 np0 => ?_⟩
    have hT2 := hT1.new (o := .lst [.str "a", .str "bb", .str "hall", .str "zzzzzzzz"]) np0
    have hp2 := upd_same (H := H1) (a := p0) (o := .lst [.str "a", .str "bb", .str "hall", .str "zzzzzzzz"])
    have k2 := k1.trans (.same (same_upd (o := .lst [.str "a", .str "bb", .str "hall", .str "zzzzzzzz"]) np0) k1.2)
    have few2 := few.same (same_upd (o := .lst [.str "a", .str "bb", .str "hall", .str "zzzzzzzz"]) np0)
    have p0t := (hT1.ne np0).1
    refine ⟨_, rfl, t, 4, k, c, rfl, by decide, by decide, hT2, by omega, fun v0 H3 u0 u1 hT3 hK3 => ?_⟩
    have hp3 := hK3 _ _ p0t hp2
    have k3 := k2.trans (.kp hK3 k2.2 hT2)
    have few3 := few2.kg (.kp hK3 k2.2 hT2) hT2
    obtain ⟨nm, pnm, hnm⟩ : ∃ nm : Str, Plain nm ∧ atI [V.str "a", V.str "bb", V.str "hall", V.str "zzzzzzzz"] v0 = some (.str nm) := by
      have : v0 = 0 ∨ v0 = 1 ∨ v0 = 2 ∨ v0 = 3 := by omega
      rcases this with rfl | rfl | rfl | rfl
      · exact ⟨"a", ⟨by decide +kernel, by decide +kernel⟩, rfl⟩
      · exact ⟨"bb", ⟨by decide +kernel, by decide +kernel⟩, rfl⟩
      · exact ⟨"hall", ⟨by decide +kernel, by decide +kernel⟩, rfl⟩
      · exact ⟨"zzzzzzzz", ⟨by decide +kernel, by decide +kernel⟩, rfl⟩
    refine ⟨p0, _, v0, .str nm, rfl, rfl, .inl (.inl hp3), hnm, ?_⟩
    refine name_as (σ' := sM (.ref t) (.ref a) (.ref f) (some (.str nm)) y4 none none none none none none) rfl ?_
    refine ⟨_, rfl, _, rfl, t, 4, k + 1, c, rfl, by decide, by decide, hT3, by omega, fun v1 H4 w0 w1 hT4 hK4 => ?_⟩
    have k4 := k3.trans (.kp hK4 k3.2 hT3)
    have few4 := few3.kg (.kp hK4 k3.2 hT3) hT3
    refine ⟨t, c, k + 2, 5, 6, v1, rfl, hT4, by omega, by decide, by decide, by decide, w0, w1, fun dd ds H5 hT5 hK5 ndd ddt hdd pwd rgd l28d => ?_⟩
    have k5 := k4.trans (.kp hK5 k4.2 hT4)
    have few5 := few4.kg (.kp hK5 k4.2 hT4) hT4
    have okd : ∀ d ∈ ds, 0 ≤ d ∧ d ≤ (10 : Int) ^ 31 := fun d hd => by have := rgd d hd; omega
    refine name_asg (σ' := sM (.ref t) (.ref a) (.ref f) (some (.str nm)) y4 (some (.ref dd)) none none none none none) (fun v H' => ∃ (l : Addr) (ls : List Addr) (L : List (Str × List Int)), v = .ref l ∧ Same H5 H' ∧ Few H' l ls L) rfl (fun Q' hq => ?_) ?_
    · refine ⟨_, rfl, f, _, rfl, .inr (.inl few5.rd), _, _, rfl, rfl, _, rfl, ite2 (fun e => ?_) (fun e => ?_)⟩
      · exact iteT ⟨_, rfl, hq _ _ ⟨f, fs, F, rfl, .refl _, few5⟩⟩
      · refine ⟨_, rfl, _, rfl, f, rfl, ⟨_, .inl few5.rd⟩, fun D nD => ?_⟩
        refine lc_tup (xs := fs.map V.ref) (fun i Hx => ∃ zs : List Str, Same H5 Hx ∧ Hx D = some (.lst (zs.map V.str)) ∧ zs.length = i) ⟨[], same_upd nD, upd_same, rfl⟩ (fun i Hx _ ⟨_, m, _⟩ => .inl (few5.same m).rd) ?_ ?_
        · rintro i x Hx hi ⟨zs, m, hD, lz⟩
          rw [List.getElem?_map] at hi
          obtain ⟨p, hp, rfl⟩ := Option.map_eq_some_iff.mp hi
          obtain ⟨n, es, b, hw, hp2, hb2⟩ := (few5.same m).ws.get hp
          have li : i < F.length := (List.getElem?_eq_some_iff.mp hw).1
          have := few5.ln
          refine ⟨rfl, tYesT ⟨_, rfl, p, _, 0, .str n, rfl, rfl, .inl (.inl hp2), rfl, _, hD, ?_, zs ++ [n], same_freshA nD m, by rw [upd_same, List.map_append]; rfl, by rw [List.length_append, lz]; rfl⟩⟩
          rw [List.length_map, lz]
          exact small1000 (by omega)
        · rintro Hx ⟨zs, m, hD, lz⟩
          refine ⟨D, _, rfl, .inl (.inl (.inl hD)), rfl, ?_, _, rfl, ite2 (fun e => ?_) (fun e => ?_)⟩
          · rw [List.all_eq_true]
            intro v hv
            obtain ⟨z, _, rfl⟩ := List.mem_map.mp hv
            rfl
          · exact ⟨_, rfl, hq _ _ ⟨f, fs, F, rfl, m, few5.same m⟩⟩
          · have fx := few5.same m
            refine ⟨_, rfl, np_in ⟨7, rfl, sl_takeW (k := 7) fx.rd fun r1 H2 m2 hr2 => hq _ _ ⟨r1, fs.take 7, F.take 7, rfl, m.trans m2, by rw [List.map_take]; exact hr2, (fx.ws.at (.same m2)).take 7, by rw [List.length_take]; have := fx.ln; omega, ?_, fun w hw => fx.ok w (List.mem_of_mem_take hw)⟩⟩⟩
            rw [List.map_take]
            exact (List.take_sublist _ _).nodup fx.nd
    rintro _ H6 ⟨l, ls, L, rfl, m6, fewL⟩
    have k6 := k5.trans (.same m6 k5.2)
    have hT6 := hT5.same m6
    have few6 := few5.same m6
    have hdd6 := m6 _ _ hdd
    refine name_as (σ' := sM (.ref t) (.ref a) (.ref f) (some (.str nm)) y4 (some (.ref dd)) (some (.ref l)) none none none none) rfl ?_
    have wbp := wb_put (n := nm) (ds := ds) fewL.ln fewL.ok pnm (by omega) okd
    refine ⟨_, rfl, _, rfl, _, rfl, l, dd, nm, ls, L, ds, rfl, fewL.rd, fewL.ws, by have := fewL.ln; omega, hdd6, k6.2, fun r1 qs1 H7 g7 hr7 wq7 => ?_⟩
    have k67 : KG (tbs T) t H6 H7 := .gk g7
    have k7 := k6.trans k67
    have hT7 := hT6.gk g7
    have fewL7 := fewL.kg k67 hT6
    have hdd7 := k67.tups hT6 _ _ hdd6
    have few7 := few6.kg k67 hT6
    obtain ⟨x1, x2, x3, x4⟩ := fit_ws hT7 (.inl hr7) wq7 wbp
    refine ⟨true, t, _, _, 10 ^ 31, by decide, rfl, x1, x2, x3, x4, ?_⟩
    refine ⟨_, rfl, _, rfl, _, rfl, l, dd, nm, ls, L, ds, rfl, fewL7.rd, fewL7.ws, by have := fewL.ln; omega, hdd7, fun r2 qs2 H8 m8 hr8 wq8 => ?_⟩
    obtain ⟨x1, x2, x3, x4⟩ := fit_ws (hT7.same m8) (.inl hr8) wq8 wbp
    refine ⟨true, t, _, _, 10 ^ 31, by decide, rfl, x1, x2, x3, x4, rfl, _, rfl, ite2 (fun e => absurd e (nes2 _)) (fun _ => ?_)⟩
    have k8 := k7.trans (.same m8 k7.2)
    have hT8 := hT7.same m8
    have few8 := few7.same m8
    refine ⟨_, rfl, f, rfl, ⟨_, .inl few8.rd⟩, ?_⟩
    refine for_tup (xs := fs.map V.ref) (fun i σ Hx => ∃ y3 y4 y7 y8, σ = sM (.ref t) (.ref a) (.ref f) y3 y4 (some (.ref dd)) (some (.ref l)) y7 y8 none none ∧ KG (tbs T) t H8 Hx ∧ FeedC Hx t c (k + 32 + i)) ⟨_, _, none, none, rfl, ⟨fun _ _ _ e _ => e, k8.2⟩, hT8.mono (by omega)⟩ (fun i σ Hx _ ⟨_, _, _, _, _, kx, _⟩ => .inl (few8.kg kx hT8).rd) ?_ ?_
    · rintro i x σ Hx hi ⟨y3, y4', y7, y8, rfl, kx, hTx⟩
      have fx := few8.kg kx hT8
      rw [List.getElem?_map] at hi
      obtain ⟨p, hp, rfl⟩ := Option.map_eq_some_iff.mp hi
      obtain ⟨n, es, b, hw, hp2, hb2⟩ := fx.ws.get hp
      have li : i < F.length := (List.getElem?_eq_some_iff.mp hw).1
      have l8 := fx.ln
      obtain ⟨pn, le28, rge⟩ := fx.ok _ (List.mem_of_getElem? hw)
      have le28 : es.length ≤ 28 := le28
      have pn : Plain n := pn
      have rge : ∀ d ∈ es, 0 ≤ d ∧ d ≤ (10 : Int) ^ 30 + 28 := rge
      refine ⟨p, _, rfl, .inl (.inl hp2), rfl, _, _, rfl, _, _, rfl, rfl, ?_⟩
      refine ⟨sz (by show 3 ≤ 1000; decide), fun q0 nq0 => ?_⟩
      have sq := same_upd (o := .lst [.int 3, .int 9992, .int 0]) nq0
      have kq := kx.trans (.same sq kx.2)
      have hTq := hTx.same sq
      have hq := upd_same (H := Hx) (a := q0) (o := .lst [.int 3, .int 9992, .int 0])
      have q0t := (hTx.ne nq0).1
      refine ⟨_, rfl, t, 3, k + 32 + i, c, rfl, by decide, by decide, hTq, by omega, fun v Ha u0 u1 hTa hKa => ?_⟩
      have ka := kq.trans (.kp hKa kq.2 hTq)
      obtain ⟨dy, d0, d1, hdy⟩ : ∃ dy : Int, 0 ≤ dy ∧ dy ≤ 9992 ∧ atI [V.int 3, V.int 9992, V.int 0] v = some (.int dy) := by
        have : v = 0 ∨ v = 1 ∨ v = 2 := by omega
        rcases this with rfl | rfl | rfl
        · exact ⟨3, by decide, by decide, rfl⟩
        · exact ⟨9992, by decide, by decide, rfl⟩
        · exact ⟨0, by decide, by decide, rfl⟩
      refine ⟨q0, _, v, .int dy, rfl, rfl, .inl (.inl (hKa _ _ q0t hq)), hdy, ?_⟩
      refine name_as (σ' := sM (.ref t) (.ref a) (.ref f) (some (.str n)) (some (.ref b)) (some (.ref dd)) (some (.ref l)) (some (.int dy)) y8 none none) rfl ?_
      have fa := few8.kg ka hT8
      have hba := (KG.trans (.same sq kx.2) (.kp hKa kq.2 hTq)).tups hTx _ _ hb2
      refine ⟨_, rfl, _, rfl, _, rfl, _, rfl, sz (by show 1 ≤ 1000; decide), fun M nM => ?_⟩
      have sM' := same_upd (o := .tup [.int dy]) nM
      refine catW (sM' _ _ hba) upd_same (by rw [List.length_map, sizeLine_eq]; show _ + 1 ≤ _; omega) fun N Hb sb hN => ?_
      have ed : es.map V.int ++ [V.int dy] = (es ++ [dy]).map V.int := by rw [List.map_append]; rfl
      rw [ed] at hN
      refine ⟨N, es ++ [dy], rfl, .inl (.inl hN), by rw [List.length_append]; show _ + 1 ≤ _; omega, fun S L' nS mem ndL => ?_⟩
      have sS := same_upd (o := SetIO w S L') nS
      have lL := nd_lenA ndL fun b hb => (mem b).mp hb
      rw [List.length_append] at lL
      have lL : L'.length ≤ es.length + 1 := lL
      refine ⟨S, L', rfl, upd_same, by omega, fun gs p' pm nd2 pw np => ?_⟩
      have sp := same_upd (o := .lst (gs.map V.int)) np
      refine ⟨p', _, rfl, .inl ⟨.inl (.inl upd_same), fun l' nl => ?_⟩⟩
      have sl := same_upd (o := .tup (gs.map V.int)) nl
      have mm := (((sM'.trans sb).trans sS).trans sp).trans sl
      have fm := fa.same mm
      have pwg := L2.lt_of_le_nodup gs pw nd2
      have memg : ∀ x, x ∈ gs ↔ x ∈ es ++ [dy] := fun x => by rw [pm.mem_iff, mem]
      have lg : gs.length ≤ 29 := by rw [pm.length_eq]; omega
      have okg : ∀ d ∈ gs, 0 ≤ d ∧ d ≤ (10 : Int) ^ 31 := fun d hd => by
        rcases List.mem_append.mp ((memg d).mp hd) with h | h
        · have := rge d h; omega
        · rw [List.mem_singleton.mp h]; omega
      refine ⟨f, l', n, fs, F, gs, rfl, fm.rd, fm.ws, by omega, upd_same, fun r qs Hc mc hrc wqc => ?_⟩
      refine name_as (σ' := sM (.ref t) (.ref a) (.ref f) (some (.str n)) (some (.ref b)) (some (.ref dd)) (some (.ref l)) (some (.int dy)) (some (.ref r)) none none) rfl ?_
      have fc := fm.same mc
      have kc := ka.trans (.same (mm.trans mc) ka.2)
      have hTc := (hTa.same mm).same mc
      refine ⟨_, rfl, _, rfl, _, rfl, f, n, fs, F, es, dy, rfl, fc.rd, fc.ws, by omega, fc.nd, List.mem_of_getElem? hw, by omega, kc.2, fun r2 qs2 gs2 Hd gd' hr2 pw2 mem2 wq2 => ?_⟩
      have eg : gs2 = gs := rising_eq pw2 pwg fun x => by rw [mem2, memg]
      subst eg
      have wbp := wb_put (n := n) (ds := gs2) fc.ln fc.ok pn (by omega) okg
      have kcd : KG (tbs T) t Hc Hd := .gk gd'
      obtain ⟨x1, x2, x3, x4⟩ := fit_ws (hTc.gk gd') (.inl hr2) wq2 wbp
      refine ⟨true, t, _, _, 10 ^ 31, by decide, rfl, x1, x2, x3, x4, ?_⟩
      obtain ⟨x1, x2, x3, x4⟩ := fit_ws (hTc.gk gd') (.inl (kcd.tups hTc _ _ hrc)) (wqc.at (kcd.tups hTc)) wbp
      refine ⟨_, rfl, true, t, _, _, 10 ^ 31, by decide, rfl, x1, x2, x3, x4, rfl, _, rfl, ite2 (fun e => absurd e (nes2 _)) (fun _ => ?_)⟩
      exact ⟨_, _, _, _, rfl, kc.trans kcd, (hTc.gk gd').mono (by omega)⟩
    rintro σ9 H9 ⟨y3, y4', y7, y8, rfl, k89, hT9⟩
    rw [List.length_map, few8.ws.len] at hT9
    have k9 := k8.trans k89
    have lF := few8.ln
    have fw9 := fw.kg k9 hT
    have hT9 : FeedC H9 t c (k + 40) := hT9.mono (by omega)
    have lW := wok.ln
    refine ⟨_, rfl, a, rfl, ⟨_, .inl fw9.rd⟩, ?_⟩
    refine for_tup (xs := ps.map V.ref) (fun i σ Hx => ∃ y3 y4, σ = sM (.ref t) (.ref a) (.ref f) y3 y4 (some (.ref dd)) (some (.ref l)) y7 y8 none none ∧ KG (tbs T) t H9 Hx ∧ FeedC Hx t c (k + 40)) ⟨_, _, rfl, ⟨fun _ _ _ e _ => e, k9.2⟩, hT9⟩ (fun i σ Hx _ ⟨_, _, _, kx, _⟩ => .inl (fw9.kg kx hT9).rd) ?_ ?_
    · rintro i x σ Hx hi ⟨y3, y4', rfl, kx, hTx⟩
      have fx := fw9.kg kx hT9
      rw [List.getElem?_map] at hi
      obtain ⟨p, hp, rfl⟩ := Option.map_eq_some_iff.mp hi
      obtain ⟨n, es, b, hw, hp2, hb2⟩ := fx.ws.get hp
      refine ⟨p, _, rfl, .inl (.inl hp2), rfl, _, _, rfl, _, _, rfl, rfl, ?_⟩
      refine ⟨_, rfl, _, rfl, a, n, ps, W, rfl, fx.rd, fx.ws, by omega, kx.2, fun r qs Ha ga hra wqa => ?_⟩
      have ka : KG (tbs T) t Hx Ha := .gk ga
      have hTa := hTx.gk ga
      have wbo := wb_off (n := n) fx.ln fx.ok
      obtain ⟨x1, x2, x3, x4⟩ := fit_ws hTa (.inl hra) wqa wbo
      refine ⟨true, t, _, _, 10 ^ 31, by decide, rfl, x1, x2, x3, x4, ?_⟩
      have fa := fx.kg ka hTx
      refine ⟨_, rfl, a, rfl, ⟨_, .inl fa.rd⟩, fun D nD => ?_⟩
      refine lc_tup (xs := ps.map V.ref) (fun i Hy => ∃ qs : List Addr, Same Ha Hy ∧ Hy D = some (.lst (qs.map V.ref)) ∧ WsAt Hy qs (offW n (W.take i))) ⟨[], same_upd nD, upd_same, .nil⟩ (fun i Hy _ ⟨_, m, _⟩ => .inl (fa.same m).rd) ?_ ?_
      · rintro j x Hy hj ⟨qs, m, hD, wq⟩
        rw [List.getElem?_map] at hj
        obtain ⟨p, hp, rfl⟩ := Option.map_eq_some_iff.mp hj
        obtain ⟨u, es, b, hw, hp2, hb2⟩ := (fa.same m).ws.get hp
        have tk := offW_take (n := n) hw
        refine ⟨rfl, _, rfl, p, _, 0, .str u, rfl, rfl, .inl (.inl hp2), rfl, _, rfl, rfl, _, rfl, ite2 (fun e => ?_) (fun e => ?_)⟩
        · have e : ¬ u = n := by simpa using e
          rw [if_neg e] at tk
          have tD : Tups Hy (upd Hy D (.lst (qs.map V.ref ++ [.ref p]))) := fun b xs e => by rw [upd_ne (fun u => by rw [u, hD] at e; cases e)]; exact e
          refine ⟨_, rfl, _, hD, ?_, qs ++ [p], same_freshA nD m, by rw [upd_same, List.map_append]; rfl, by rw [tk]; exact (wq.at tD).snoc (tD _ _ hp2) (tD _ _ hb2)⟩
          have := offW_len n (W.take j)
          rw [List.length_take] at this
          rw [List.length_map, wq.len]
          exact small1000 (by omega)
        · have e : u = n := by simpa using e
          rw [if_pos e] at tk
          exact ⟨qs, m, hD, by rw [tk]; exact wq⟩
      · rintro Hy ⟨qs, m, hD, wq⟩
        rw [List.length_map, fa.ws.len, List.take_of_length_le (Nat.le_refl _)] at wq
        refine ⟨D, _, rfl, .inl ⟨.inl (.inl hD), fun l nl => ?_⟩⟩
        have sl := same_upd (o := .tup (qs.map V.ref)) nl
        obtain ⟨x1, x2, x3, x4⟩ := fit_ws ((hTa.same m).same sl) (.inl upd_same) (wq.at (.same sl)) wbo
        refine ⟨true, t, _, _, 10 ^ 31, by decide, rfl, x1, x2, x3, x4, rfl, _, rfl, ite2 (fun e => absurd e (nes2 _)) (fun _ => ?_)⟩
        exact ⟨_, _, rfl, (kx.trans ka).trans (.same (m.trans sl) ka.2), (hTa.same m).same sl⟩
    rintro σA HA ⟨y3, y4', rfl, k9A, hTA⟩
    have kA := k9.trans k9A
    have fwA := fw9.kg k9A hT9
    refine ⟨Nat.zero_le _, fun e0 ne0 => ?_⟩
    have se := same_upd (o := .lst []) ne0
    have kB := kA.trans (.same se kA.2)
    have hTB := hTA.same se
    have fwB := fwA.same se
    have he0 := upd_same (H := HA) (a := e0) (o := .lst [])
    refine name_as (σ' := sM (.ref t) (.ref a) (.ref f) y3 y4' (some (.ref dd)) (some (.ref l)) y7 y8 (some (.ref e0)) none) rfl ?_
    generalize upd HA e0 (.lst []) = HB at kB hTB fwB he0 ⊢
    have al := allW_len wok.l28
    refine ⟨_, rfl, a, rfl, ⟨_, .inl fwB.rd⟩, ?_⟩
    refine for_tup (xs := ps.map V.ref) (fun i σ Hx => ∃ y3 y4 e, σ = sM (.ref t) (.ref a) (.ref f) y3 y4 (some (.ref dd)) (some (.ref l)) y7 y8 (some (.ref e)) none ∧ Same HB Hx ∧ Hx e = some (.lst ((allW (W.take i)).map V.int))) ⟨_, _, e0, rfl, .refl _, he0⟩ (fun i σ Hx _ ⟨_, _, _, _, m, _⟩ => .inl (fwB.same m).rd) ?_ ?_
    · rintro i x σ Hx hi ⟨y3, y4, e, rfl, m, hE⟩
      have fx := fwB.same m
      rw [List.getElem?_map] at hi
      obtain ⟨p, hp, rfl⟩ := Option.map_eq_some_iff.mp hi
      obtain ⟨n, es, b, hw, hp2, hb2⟩ := fx.ws.get hp
      have tk := all_take hw
      have le := all_len W (i + 1)
      rw [tk, List.length_append] at le
      have le : (allW (W.take i)).length + es.length ≤ (allW W).length := le
      refine ⟨p, _, rfl, .inl (.inl hp2), rfl, _, _, rfl, _, _, rfl, rfl, ?_⟩
      refine ⟨_, rfl, _, rfl, b, _, rfl, .inr (.inl (.inl hb2)), fun M nM => ?_⟩
      have sM' := same_upd (o := .lst (es.map V.int)) nM
      refine ⟨e, M, _, _, rfl, rfl, sM' _ _ hE, upd_same, by rw [List.length_map, List.length_map, sizeLine_eq]; omega, fun N nN => ?_⟩
      have sN := same_upd (o := .lst ((allW (W.take i)).map V.int ++ es.map V.int)) nN
      exact ⟨_, _, N, rfl, (m.trans sM').trans sN, by rw [upd_same, tk, List.map_append]⟩
    rintro σC HC ⟨y3, y4, e, rfl, mC, hE⟩
    rw [List.length_map, fwB.ws.len, List.take_of_length_le (Nat.le_refl _)] at hE
    have fwC := fwB.same mC
    have hTC := hTB.same mC
    refine ⟨_, rfl, a, ps, W, rfl, fwC.rd, fwC.ws, by omega, fun r o ds HD mD hr td pw mem => ?_⟩
    have ld : ds.length ≤ (allW W).length := nd_lenA (pw.imp fun h => Int.ne_of_lt h) fun d hd => (mem d).mp hd
    have okD : ∀ d ∈ ds, 0 ≤ d ∧ d ≤ (10 : Int) ^ 31 := fun d hd => by
      obtain ⟨w, hw, hdw⟩ := mem_allW.mp ((mem d).mp hd)
      have := (fw.ok w hw).2.2 d hdw
      omega
    have hTD := hTC.same mD
    obtain ⟨x1, x2, x3, x4⟩ := fit_ints hTD (.inr ⟨o, hr⟩) (by omega) okD
    refine ⟨true, t, _, _, 10 ^ 31, by decide, rfl, x1, x2, x3, x4, ?_⟩
    refine ⟨_, rfl, e, allW W, rfl, .inl (.inl (mD _ _ hE)), by omega, fun S L' nS memS ndL => ?_⟩
    have sS := same_upd (o := SetIO w S L') nS
    have lL := nd_lenA ndL fun b hb => (memS b).mp hb
    refine ⟨S, L', rfl, upd_same, by omega, fun gs p pm nd2 pw2 np => ?_⟩
    have sp := same_upd (o := .lst (gs.map V.int)) np
    have eg : gs = ds := rising_eq (L2.lt_of_le_nodup gs pw2 nd2) pw fun x => by rw [pm.mem_iff, memS, mem]
    subst eg
    refine ⟨p, _, rfl, .inl ⟨.inl (.inl upd_same), fun l' nl => ?_⟩⟩
    have sl := same_upd (o := .tup (gs.map V.int)) nl
    have m3 := (sS.trans sp).trans sl
    obtain ⟨x1, x2, x3, x4⟩ := fit_ints (hTD.same m3) (.inl upd_same) (by omega) okD
    refine ⟨true, t, _, _, 10 ^ 31, by decide, rfl, x1, x2, x3, x4, rfl, ?_⟩
    rw [decide_eq_true rfl]
    have kC := kB.trans (.same mC kB.2)
    exact q _ (kC.trans (.same (mD.trans m3) kC.2)) ((hTD.same m3).mono (by omega))
end
end L55

set_option Elab.async false
set_option linter.all false
set_option maxRecDepth 100000
set_option maxHeartbeats 4000000
namespace L55
open PySem PySem.Spec PyProof.Rows L2 My
section
variable {P : Program} {w : World} {K : PySem.W.Frag} {mg : Str → Option Value} {base : Heap}
mutual
theorem Dq.fn {fz : Bool} {t : Addr} {H : Hp} : ∀ {d e : PyData} {v : V}, Dq fz t H v d → Dq fz t H v e → d = e
  | .none, _, _, .non, g => by cases g; rfl
  | .bool _, _, _, .bl b, g => by cases g; rfl
  | .int _, _, _, .int i, g => by cases g; rfl
  | .str _, _, _, .str x, g => by cases g; rfl
  | .list _, _, _, .lst n e h, g => by
    cases g with
    | lst _ e2 h2 => rw [e] at e2; cases e2; rw [DqAll.fn h h2]
    | tup _ e2 _ => rw [e] at e2; cases e2
    | frz _ _ e2 _ => rw [e] at e2; cases e2
    | dct _ e2 => rw [e] at e2; cases e2
  | .tuple _, _, _, .tup n e h, g => by
    cases g with
    | lst _ e2 _ => rw [e] at e2; cases e2
    | tup _ e2 h2 => rw [e] at e2; cases e2; rw [DqAll.fn h h2]
    | frz _ _ e2 _ => rw [e] at e2; cases e2
    | dct _ e2 => rw [e] at e2; cases e2
  | .tuple _, _, _, .frz f n e h, g => by
    cases g with
    | lst _ e2 _ => rw [e] at e2; cases e2
    | tup _ e2 _ => rw [e] at e2; cases e2
    | frz _ _ e2 h2 => rw [e] at e2; cases e2; rw [DqAll.fn h h2]
    | dct _ e2 => rw [e] at e2; cases e2
  | .dict _, _, _, .dct n e, g => by
    cases g with
    | lst _ e2 _ => rw [e] at e2; cases e2
    | tup _ e2 _ => rw [e] at e2; cases e2
    | frz _ _ e2 _ => rw [e] at e2; cases e2
    | dct _ _ => rfl
theorem DqAll.fn {fz : Bool} {t : Addr} {H : Hp} : ∀ {ds es : List PyData} {vs : List V}, DqAll fz t H vs ds → DqAll fz t H vs es → ds = es
  | [], _, _, .nil, g => by cases g; rfl
  | _ :: _, _, _, .cons a h, g => by
    cases g with
    | cons a2 h2 => rw [Dq.fn a a2, DqAll.fn h h2]
end
mutual
/-- what is no part of the list of things stays when it grows -/
theorem Dq.grow {t L : Addr} {H : Hp} {vs : List V} {ds : List PyData} {o : HO} {k l : Nat} (hL : H L = some (.lst vs)) (da : DqAll true t H vs ds) (lk : k < tls ds + 3) : ∀ {d : PyData} {v : V}, Dq true t H v d → WK k l d → Dq true t (upd H L o) v d
  | .none, _, .non, _ => .non
  | .bool _, _, .bl b, _ => .bl b
  | .int _, _, .int i, _ => .int i
  | .str _, _, .str x, _ => .str x
  | .list es, _, .lst (a := a) n e h, w => by
    by_cases z : a = L
    · subst z
      rw [hL] at e
      cases e
      rw [DqAll.fn da h] at lk
      exact absurd w.1 (by omega)
    · exact .lst n (by rw [upd_ne z]; exact e) (DqAll.grow hL da lk h w.2)
  | .tuple _, _, .tup n e h, w => .tup n (by rw [upd_ne (fun z => by rw [z, hL] at e; cases e)]; exact e) (DqAll.grow hL da lk h w.2)
  | .tuple _, _, .frz f n e h, w => .frz f n (by rw [upd_ne (fun z => by rw [z, hL] at e; cases e)]; exact e) (DqAll.grow hL da lk h w.2)
  | .dict _, _, .dct n e, _ => .dct n (by rw [upd_ne (fun z => by rw [z, hL] at e; cases e)]; exact e)
theorem DqAll.grow {t L : Addr} {H : Hp} {vs : List V} {ds : List PyData} {o : HO} {k l : Nat} (hL : H L = some (.lst vs)) (da : DqAll true t H vs ds) (lk : k < tls ds + 3) : ∀ {es : List PyData} {us : List V}, DqAll true t H us es → WKs k l es → DqAll true t (upd H L o) us es
  | [], _, .nil, _ => .nil
  | _ :: _, _, .cons a h, w => .cons (Dq.grow hL da lk a w.1) (DqAll.grow hL da lk h w.2)
end
def LitE (t : Addr) (te : TE) (d : PyData) : Prop := ∀ (σ : L2.St) (H : Hp) (Q : VK), (∃ o, H t = some o) → (∀ v H', Same H H' → Dq true t H' v d → Q v H') → te σ H Q
def LitA (t : Addr) (ta : TA) (ds : List PyData) : Prop := ∀ (σ : L2.St) (H : Hp) (Q : List V → Hp → Prop), (∃ o, H t = some o) → (∀ vs H', Same H H' → DqAll true t H' vs ds → Q vs H') → ta σ H Q
theorem lit_i {t : Addr} {i : Int} : LitE t (tC (.int i)) (.int i) := fun σ H Q _ q => q _ _ (.refl _) (.int i)
theorem lit_s {t : Addr} {z : Str} : LitE t (tC (.str z)) (.str z) := fun σ H Q _ q => q _ _ (.refl _) (.str z)
theorem lit_b {t : Addr} {b : Bool} : LitE t (tC (.bl b)) (.bool b) := fun σ H Q _ q => q _ _ (.refl _) (.bl b)
theorem lit_n {t : Addr} : LitE t (tC .non) .none := fun σ H Q _ q => q _ _ (.refl _) .non
theorem lit_nil {t : Addr} : LitA t tNil [] := fun σ H Q _ q => q _ _ (.refl _) .nil
theorem lit_cons {t : Addr} {te : TE} {ta : TA} {d : PyData} {ds : List PyData} (a : LitE t te d) (b : LitA t ta ds) : LitA t (tCons te ta) (d :: ds) := fun σ H Q ht q => a σ H _ ht fun v H1 m1 dq => b σ H1 _ (ht.imp fun o e => m1 _ _ e) fun vs H2 m2 dqs => q (v :: vs) H2 (m1.trans m2) (.cons (dq.same m2) dqs)
theorem ne_some {H : Hp} {t p : Addr} (ht : ∃ o, H t = some o) (np : H p = none) : p ≠ t := fun z => by
  obtain ⟨o, e⟩ := ht
  rw [z, e] at np
  cases np
theorem lit_tup {t : Addr} {ta : TA} {ds : List PyData} (a : LitA t ta ds) (l : ds.length ≤ 1000) : LitE t (tTup ta) (.tuple ds) := fun σ H Q ht q => a σ H _ ht fun vs H1 m1 dqs => ⟨by rw [dqs.length, sizeLine_eq]; omega, fun p np => q _ _ (m1.trans (same_upd np)) (.tup (ne_some (ht.imp fun o e => m1 _ _ e) np) upd_same (dqs.same (same_upd np)))⟩
theorem lit_lst {t : Addr} {ta : TA} {ds : List PyData} (a : LitA t ta ds) (l : ds.length ≤ 1000) : LitE t (tLst ta) (.list ds) := fun σ H Q ht q => a σ H _ ht fun vs H1 m1 dqs => ⟨by rw [dqs.length, sizeLine_eq]; omega, fun p np => q _ _ (m1.trans (same_upd np)) (.lst (ne_some (ht.imp fun o e => m1 _ _ e) np) upd_same (dqs.same (same_upd np)))⟩
/-- the numbers from 0 -/
def upTo (n : Nat) : List Int := (List.range n).map fun (i : Nat) => (i : Int)
theorem rgV_upTo (n : Nat) : rgV 0 (n : Int) = (upTo n).map V.int := by
  unfold rgV upTo
  rw [List.map_map, Int.sub_zero, Int.toNat_natCast]
  exact List.map_congr_left fun i _ => by show V.int (0 + (i : Int)) = V.int i; rw [Int.zero_add]
theorem lit_rg {t : Addr} {n : Nat} (h : n ≤ 1000) : LitE t (tTupRg (tRg1 (tC (.int (n : Int))))) (.tuple ((upTo n).map .int)) := fun σ H Q ht q => ⟨n, rfl, .of_le (by omega) (by omega) (by omega) (by omega), fun p np => by
  rw [rgV_upTo]
  exact q _ _ (same_upd np) (.tup (ne_some ht np) upd_same (ints_dqs _))⟩
theorem lit_cat {t : Addr} {K : PySem.W.Frag} {n : Nat} {ta : TA} {es : List PyData} (h : n ≤ 1000) (a : LitA t ta es) (l : es.length ≤ 1000) : LitE t (tOp (rCatA K) (tTupRg (tRg1 (tC (.int (n : Int))))) (tTup ta)) (.tuple ((upTo n).map .int ++ es)) := fun σ H Q ht q => ⟨n, rfl, .of_le (by omega) (by omega) (by omega) (by omega), fun p np => by
  rw [rgV_upTo]
  have s1 := same_upd (o := .tup ((upTo n).map V.int)) np
  have ht1 := ht.imp fun o e => s1 _ _ e
  refine a σ _ _ ht1 fun vs H1 m1 dqs => ⟨by rw [dqs.length, sizeLine_eq]; omega, fun p2 np2 => ?_⟩
  have s2 := same_upd (o := .tup vs) np2
  have p2t := ne_some (ht1.imp fun o e => m1 _ _ e) np2
  have h1 := s2 _ _ (m1 _ _ upd_same)
  have mm := (s1.trans m1).trans s2
  refine ⟨p, p2, _, _, rfl, rfl, .inl (.inl h1), .inl (.inl upd_same), ?_, fun e => ?_, fun _ e => ?_, fun _ _ p3 np3 => ?_⟩
  · rw [List.length_map, dqs.length, show (upTo n).length = n by unfold upTo; rw [List.length_map, List.length_range], sizeLine_eq]; omega
  · have e0 : (upTo n) = [] := List.map_eq_nil_iff.mp e
    exact q _ _ mm (by rw [e0]; exact .tup p2t upd_same (dqs.same s2))
  · have : es = [] := by
      have := dqs.length
      rw [e] at this
      exact List.length_eq_zero_iff.mp this.symm
    exact q _ _ mm (by rw [this, List.append_nil]; exact .tup (ne_some ht np) h1 (ints_dqs _))
  · exact q _ _ (mm.trans (same_upd np3)) (.tup (ne_some (ht.imp fun o e => mm _ _ e) np3) upd_same (((ints_dqs _).app ((dqs.same s2))).same (same_upd np3)))⟩
/-- things put behind things -/
theorem cat_lits {t L : Addr} {i : Nat} {vs : List V} {ds es : List PyData} {ta : TA} {σ : L2.St} {H : Hp} {Q : VK} (hv : σ[i]? = some (some (V.ref L))) (ht : ∃ o, H t = some o) (hL : H L = some (.lst vs)) (dq : DqAll true t H vs ds) (lit : LitA t ta es) (n : ds.length + es.length ≤ 1000)
    (q : ∀ N us H', Same H H' → H N = none → H' N = some (.lst us) → DqAll true t H' us (ds ++ es) → Q (.ref N) H') : tOp rCat (tVar i) (tLst ta) σ H Q := by
  refine ⟨_, hv, ?_⟩
  refine lit σ H _ ht fun us H1 m1 dqs => ⟨by rw [dqs.length, sizeLine_eq]; omega, fun M nM => ?_⟩
  have sM := same_upd (o := .lst us) nM
  refine ⟨L, M, _, _, rfl, rfl, sM _ _ (m1 _ _ hL), upd_same, by rw [dqs.length, dq.length, sizeLine_eq]; omega, fun N nN => ?_⟩
  have mm := (m1.trans sM).trans (same_upd (o := .lst (vs ++ us)) nN)
  have nN0 : H N = none := by
    cases e : H N with
    | none => rfl
    | some o => have := (m1.trans sM) _ _ e; rw [nN] at this; cases this
  exact q N _ _ mm nN0 upd_same ((dq.same mm).app (dqs.same (sM.trans (same_upd nN))))
end
end L55

set_option Elab.async false
set_option linter.all false
set_option maxRecDepth 100000
set_option maxHeartbeats 4000000
namespace L55
open PySem PySem.Spec PyProof.Rows L2 My
section
variable {P : Program} {w : World} {K : PySem.W.Frag} {mg : Str → Option Value} {base : Heap}
abbrev sW (a t w kp th k po se lap n m x : Option V) : L2.St := [a, t, w, kp, th, k, po, se, lap, n, m, x]
theorem fit_want28 {w : Str × List Int} (h0 : nameB (.str w.1) = true) (h : Plain w.1 ∧ w.2.length ≤ 28 ∧ ∀ d ∈ w.2, 0 ≤ d ∧ d ≤ 10 ^ 31) : FitT (10 ^ 31) (wD w) 2110 2 := by
  obtain ⟨h1, h2, h3⟩ := h
  have l : w.1.length ≤ 8 := by
    have e : ((decide (1 ≤ w.1.length) && decide (w.1.length ≤ 8)) && w.1.cps.toList.all signOk) = true := h0
    rw [Bool.and_eq_true, Bool.and_eq_true] at e
    exact of_decide_eq_true e.1.2
  refine ⟨⟨h1, sht_ints h3, trivial⟩, ?_, ?_⟩
  · have := tls_ints w.2
    show tls [PyData.str w.1, .tuple (w.2.map .int)] + 3 ≤ 2110
    rw [tls, tls, tls, tl, tl, this]
    omega
  · have := dep_ints w.2
    unfold wD
    simp only [PyData.depth, PyData.depthAll]
    omega
theorem fit_wants28 : ∀ {W : List (Str × List Int)}, (∀ w ∈ W, nameB (.str w.1) = true) → (∀ w ∈ W, Plain w.1 ∧ w.2.length ≤ 28 ∧ ∀ d ∈ w.2, 0 ≤ d ∧ d ≤ 10 ^ 31) → FitTs (10 ^ 31) (W.map wD) (2112 * W.length) 2
  | [], _, _ => ⟨trivial, Nat.zero_le _, by rw [List.map_nil, PyData.depthAll]; exact Nat.zero_le _⟩
  | w :: W, g, h => by
    have a := (fit_want28 (g w (.head _)) (h w (.head _))).one
    have b := fit_wants28 (fun w hw => g w (.tail _ hw)) fun w hw => h w (.tail _ hw)
    exact (a.app b).mono (by rw [List.length_cons]; omega) (Nat.le_refl _)
theorem wid_wants {W : List (Str × List Int)} (l : W.length ≤ 28) (h : ∀ w ∈ W, w.2.length ≤ 28) : Wid 28 (.tuple (W.map wD)) := by
  refine wid_tup (by rw [List.length_map]; exact l) fun d hd => ?_
  obtain ⟨w, hw, rfl⟩ := List.mem_map.mp hd
  refine wid_tup (by show 2 ≤ 28; decide) fun d hd => ?_
  rcases List.mem_cons.mp hd with rfl | hd
  · exact (WK.wid (k := 0) trivial : Wid 28 (PyData.str w.1))
  · rw [List.mem_singleton.mp hd]
    refine wid_tup (by rw [List.length_map]; exact h w hw) fun d hd => ?_
    obtain ⟨j, _, rfl⟩ := List.mem_map.mp hd
    exact (WK.wid (k := 0) trivial : Wid 28 (PyData.int j))
/-- the bent things so far -/
structure Bents (i : Nat) (ds : List PyData) : Prop where
  ln : ds.length = i + 1
  sm : FitTs (10 ^ 31 + i) ds (17100 * 2 ^ (i + 1)) 3
  each : ∀ d ∈ ds, FitT (10 ^ 31 + i) d (17100 * 2 ^ i - 200) 3
  wd : ∀ d ∈ ds, Wid (28 + i) d
theorem Bents.snoc {i : Nat} {ds : List PyData} {d : PyData} (b : Bents i ds) (f : FitT (10 ^ 31 + i + 1) d (2 * (17100 * 2 ^ i - 200) + 200) 3) (w : Wid (28 + i + 1) d) : Bents (i + 1) (ds ++ [d]) := by
  have p : (2 : Nat) ^ (i + 1) = 2 * 2 ^ i := by rw [Nat.pow_succ]; omega
  have p2 : (2 : Nat) ^ (i + 1 + 1) = 4 * 2 ^ i := by rw [Nat.pow_succ, Nat.pow_succ]; omega
  have pos : 1 ≤ 2 ^ i := Nat.one_le_two_pow
  have f' : FitT (10 ^ 31 + (i + 1)) d (17100 * 2 ^ (i + 1) - 200) 3 := f.mono (by rw [p]; omega) (Nat.le_refl _)
  have up : (10 : Nat) ^ 31 + i ≤ 10 ^ 31 + (i + 1) := Nat.le_succ _
  refine ⟨by rw [List.length_append, b.ln]; rfl, ((b.sm.up up).app f'.one).mono (by rw [p2, p]; omega) (Nat.le_refl _), fun e he => ?_, fun e he => ?_⟩
  · rcases List.mem_append.mp he with h | h
    · exact ((b.each e h).up up).mono (by rw [p]; omega) (Nat.le_refl _)
    · rw [List.mem_singleton.mp h]; exact f'
  · rcases List.mem_append.mp he with h | h
    · exact (b.wd e h).mono (Nat.le_succ _)
    · rw [List.mem_singleton.mp h]; exact w
theorem pi_enumK {X : Cx} {K : PySem.W.Frag} (hK : X.K = K) {e : Expr} {ta : TA} {p pos tpos : Pos} {elts : List Expr} {kk : Nat} (hg : Gl X "enumerate") (hm : X.mg "enumerate" = none) (ha : PA X [e] ta) (hs : starEach [e] X.env = [(false, eval e X.env)] := by rfl) :
    PI X (.Tuple elts kk tpos) (.Call (.Name "enumerate" p) [e] [] pos) (iEnum K ta) := by
  subst hK
  exact pi_enum hg hm ha hs
def rCatT : R2 := fun x y H Q => ∃ i j, x = .str i ∧ y = .str j ∧ i.length + j.length ≤ sizeLine ∧ Q (.str (i ++ j)) H
def rTupOf (K : PySem.W.Frag) : List V → Hp → VK → Prop := fun xs H Q => ∃ p ys, xs = [.ref p] ∧ ((SqL K H p ys ∧ ∀ l, H l = none → Q (.ref l) (upd H l (.tup ys))) ∨ (SqT K H p ys ∧ Q (.ref p) H))
mutual
def okC : PyData → Bool
  | .none => true
  | .bool _ => true
  | .int i => decide (i.natAbs ≤ 1000)
  | .str x => decide (x.length ≤ 100) && x.cps.toList.all fun c => decide (c < 128)
  | .list xs => okCs xs
  | .tuple xs => decide (xs.length ≤ 100) && okCs xs
  | .dict _ => false
def okCs : List PyData → Bool
  | [] => true
  | x :: xs => okC x && okCs xs
end
mutual
theorem okC_ok : ∀ {d : PyData}, okC d = true → ShT 1000 d ∧ Wid 100 d
  | .none, _ => ⟨trivial, (WK.wid (k := 0) trivial : Wid 100 PyData.none)⟩
  | .bool b, _ => ⟨trivial, (WK.wid (k := 0) trivial : Wid 100 (PyData.bool b))⟩
  | .int i, h => ⟨(of_decide_eq_true (show decide (i.natAbs ≤ 1000) = true from h) : i.natAbs ≤ 1000), (WK.wid (k := 0) trivial : Wid 100 (PyData.int i))⟩
  | .str x, h => by
    have h : (decide (x.length ≤ 100) && x.cps.toList.all fun c => decide (c < 128)) = true := h
    rw [Bool.and_eq_true, List.all_eq_true] at h
    exact ⟨⟨of_decide_eq_true h.1, fun c hc => of_decide_eq_true (h.2 c hc)⟩, (WK.wid (k := 0) trivial : Wid 100 (PyData.str x))⟩
  | .list xs, h => by
    have := okCs_ok (show okCs xs = true from h)
    exact ⟨this.1, by rw [Wid]; exact this.2⟩
  | .tuple xs, h => by
    have h : (decide (xs.length ≤ 100) && okCs xs) = true := h
    rw [Bool.and_eq_true] at h
    have := okCs_ok h.2
    exact ⟨this.1, by rw [Wid]; exact ⟨of_decide_eq_true h.1, this.2⟩⟩
  | .dict _, h => by cases h
theorem okCs_ok : ∀ {ds : List PyData}, okCs ds = true → ShTs 1000 ds ∧ Wids 100 ds
  | [], _ => ⟨trivial, trivial⟩
  | x :: xs, h => by
    have h : (okC x && okCs xs) = true := h
    rw [Bool.and_eq_true] at h
    have a := okC_ok h.1
    have b := okCs_ok h.2
    exact ⟨⟨a.1, b.1⟩, ⟨a.2, b.2⟩⟩
end
def c1 : List PyData := [.none, .bool true, .tuple [], .list [], .str "a", .tuple [.tuple [.str "a", .tuple [.int 1, .int 1]]], .tuple [.tuple [.str "a", .tuple [.bool true]]], .tuple [.tuple [.str "b", .tuple []], .tuple [.str "a", .tuple []]]]
def c2 : List PyData := [.tuple [.tuple [.str "abcdefghi", .tuple [.int 1]]], .tuple [.tuple [.str "abcdefgh", .tuple [.int 1]]], .tuple [.tuple [.str "a", .tuple [.int 1]], .tuple [.str "abcdefghi", .tuple [.int 2]]]]
def c4 : List PyData := [.tuple [.tuple [.str "a", .tuple ((upTo 40).map .int)]], .tuple [.tuple [.str "a", .tuple ((upTo 29).map .int)], .tuple [.str "b", .tuple ((upTo 29).map .int ++ [.int 28])]]]
/-- things that are soon told, of tuples not too wide -/
structure Ts (ds : List PyData) (m : Nat) : Prop where
  sh : ShTs (10 ^ 31 + 1000) ds
  tl : tls ds ≤ m
  dp : PyData.depthAll ds ≤ 3
  wd : ∀ d ∈ ds, Wid 1000 d
theorem Ts.app {ds es : List PyData} {m k : Nat} (a : Ts ds m) (b : Ts es k) : Ts (ds ++ es) (m + k) := by
  have f := FitTs.app (⟨a.sh, a.tl, a.dp⟩ : FitTs _ ds m 3) ⟨b.sh, b.tl, b.dp⟩
  exact ⟨f.sh, f.tl, f.dp, fun d hd => (List.mem_append.mp hd).elim (a.wd d) (b.wd d)⟩
theorem ts_const {ds : List PyData} {m : Nat} (h : okCs ds = true) (h2 : tls ds ≤ m) (h3 : PyData.depthAll ds ≤ 3) : Ts ds m := by
  have := okCs_ok h
  exact ⟨this.1.mono (by decide), h2, h3, fun d hd => (wids_mem.mp this.2 d hd).mono (by decide)⟩
theorem ts1 : Ts c1 5000 := ts_const (by decide +kernel) (by decide +kernel) (by decide +kernel)
theorem ts2 : Ts c2 5000 := ts_const (by decide +kernel) (by decide +kernel) (by decide +kernel)
theorem ts4 : Ts c4 20000 := ts_const (by decide +kernel) (by decide +kernel) (by decide +kernel)
def Small (e : PyData) : Prop := ∃ (z : Str) (k : Int), e = .tuple [.str z, .tuple [.int k]] ∧ Plain z ∧ z.length ≤ 10 ∧ 0 ≤ k ∧ k ≤ 20
theorem Small.wk {e : PyData} (h : Small e) : WK 0 1000 e := by
  obtain ⟨z, k, rfl, _⟩ := h
  exact ⟨by show 2 ≤ 1000; decide, trivial, ⟨by show 1 ≤ 1000; decide, trivial, trivial⟩, trivial⟩
theorem Small.fit {e : PyData} (h : Small e) : FitT (10 ^ 31 + 1000) e 250 2 := by
  obtain ⟨z, k, rfl, h1, h2, h3, h4⟩ := h
  refine ⟨⟨h1, ⟨by show k.natAbs ≤ 10 ^ 31 + 1000; omega, trivial⟩, trivial⟩, ?_, ?_⟩
  · show tls [PyData.str z, .tuple [.int k]] + 3 ≤ 250
    rw [tls, tls, tls, tl, tl, tls, tls, tl]
    omega
  · simp only [PyData.depth, PyData.depthAll]
    omega
theorem smalls_fit : ∀ {fs : List PyData}, (∀ f ∈ fs, Small f) → FitTs (10 ^ 31 + 1000) fs (252 * fs.length) 2
  | [], _ => ⟨trivial, Nat.zero_le _, by rw [PyData.depthAll]; exact Nat.zero_le _⟩
  | f :: fs, h => ((h f (.head _)).fit.one.app (smalls_fit fun g hg => h g (.tail _ hg))).mono (by rw [List.length_cons]; omega) (Nat.le_refl _)
def Big (e : PyData) : Prop := ∃ fs, e = .tuple fs ∧ fs.length ≤ 20 ∧ ∀ f ∈ fs, Small f
theorem Big.wk {e : PyData} (h : Big e) : WK 0 1000 e := by
  obtain ⟨fs, rfl, h1, h2⟩ := h
  exact ⟨by omega, wks_mem.mpr fun f hf => (h2 f hf).wk⟩
theorem ts_big : ∀ {es : List PyData}, (∀ e ∈ es, Big e) → Ts es (5100 * es.length)
  | [], _ => ⟨trivial, Nat.zero_le _, by rw [PyData.depthAll]; exact Nat.zero_le _, fun d h => by cases h⟩
  | e :: es, h => by
    obtain ⟨fs, rfl, h1, h2⟩ := h e (.head _)
    have f := (smalls_fit h2).tup.one
    have a : Ts [.tuple fs] 5100 := ⟨f.sh, Nat.le_trans f.tl (by omega), f.dp, fun d hd => by rw [List.mem_singleton.mp hd]; exact (Big.wk ⟨fs, rfl, h1, h2⟩).wid⟩
    have b := a.app (ts_big fun g hg => h g (.tail _ hg))
    exact ⟨b.sh, by have := b.tl; rw [List.length_cons]; show tls ([.tuple fs] ++ es) ≤ _; omega, b.dp, b.wd⟩
theorem cellE {i : Nat} (h : i < 20) : ∃ c, atI (Str.ofString "abcde").cps.toList ((0 + (i : Int)) / 4) = some c ∧ c < 128 := by
  have : ∀ i : Nat, i < 20 → ((atI (Str.ofString "abcde").cps.toList ((0 + (i : Int)) / 4)).any fun c => decide (c < 128)) = true := by decide +kernel
  have := this i h
  rw [Option.any_eq_true] at this
  obtain ⟨c, h1, h2⟩ := this
  exact ⟨c, h1, of_decide_eq_true h2⟩
theorem cellW {i : Nat} (h : i < 20) : ∃ c, atI (Str.ofString "wxyz").cps.toList ((0 + (i : Int)) % 4) = some c ∧ c < 128 := by
  have : ∀ i : Nat, i < 20 → ((atI (Str.ofString "wxyz").cps.toList ((0 + (i : Int)) % 4)).any fun c => decide (c < 128)) = true := by decide +kernel
  have := this i h
  rw [Option.any_eq_true] at this
  obtain ⟨c, h1, h2⟩ := this
  exact ⟨c, h1, of_decide_eq_true h2⟩
theorem two_plain {c d : Nat} (hc : c < 128) (hd : d < 128) : Plain ((⟨#[c]⟩ : Str) ++ (⟨#[d]⟩ : Str)) ∧ ((⟨#[c]⟩ : Str) ++ (⟨#[d]⟩ : Str)).length ≤ 10 := by
  have e : ((⟨#[c]⟩ : Str) ++ (⟨#[d]⟩ : Str)).cps.toList = [c, d] := rfl
  have l : ((⟨#[c]⟩ : Str) ++ (⟨#[d]⟩ : Str)).length = 2 := rfl
  refine ⟨⟨by rw [l]; decide, fun x hx => ?_⟩, by rw [l]; decide⟩
  rw [e] at hx
  rcases List.mem_cons.mp hx with rfl | hx
  · exact hc
  · rw [List.mem_singleton.mp hx]; exact hd
def spLaw {K : PySem.W.Frag} {mg : Str → Option Value} (T : Tx K mg) : Sp := fun vs H Q _ => ∃ (a : Addr) (ns : List Int), vs = [.ref a] ∧ SqL K H a (ns.map V.int) ∧ ns.length ≤ 63 ∧ (∀ P ∈ tbs T, GxR.TabG H P) ∧ ∀ H', Q (.bl true) H'
theorem ok_law (T : Tx K mg) (B : Tb T base) : GU.FnG P w K mg base CX0 11 T.f_law T.d_law ["_law_script"] (spLaw T) := by
  have G_is_wants : FnOk P w K mg base CX0 7 T.f_is_wants T.d_is_wants ["thing"] (spWantsQ T) := ok_wantsQ T B
  have G_w_feed : FnOk P w K mg base CX0 1 T.f_w_feed T.d_w_feed ["_law_script"] (spFeed K) := ok_feed T
  have G_w_draw : FnOk P w K mg base CX0 1 T.f_w_draw T.d_w_draw ["_law_feed_here", "_law_many"] (spDraw) := ok_draw T
  have G_w_wants : FnOk P w K mg base CX0 3 T.f_w_wants T.d_w_wants ["_law_feed_here", "_law_many", "_law_span"] (spWants) := ok_wants T
  have G_w_bent : FnOk P w K mg base CX0 10 T.f_w_bent T.d_w_bent ["_law_feed_here", "_law_thing"] ((spBent 3)) := ok_bent T
  have G_w_is_wants : FnOk P w K mg base CX0 2 T.f_w_is_wants T.d_w_is_wants ["_law_thing"] (spAskW) := ok_askW T
  have G_w_made_right : GU.FnG P w K mg base CX0 5 T.f_w_made_right T.d_w_made_right ["_law_feed_here", "_law_wants_here"] (spMade T) := ok_made T B
  refine GU.okG T.F_law S_law (fun vs H Q E h => ?_) (fun cdv A outer s H vs Q E gd hr h => ?_)
  · obtain ⟨a, ns, rfl, _⟩ := h
    rfl
  · obtain ⟨a, ns, rfl, hS, hl, hb0, q⟩ := h
    refine ⟨_, (pss_cons (ps_set (i := 1) S_law.nd rfl (.inl rfl) (pe_call G_w_feed (hr.mono (by decide)) (by rfl) T.g_w_feed T.F_w_feed.kp T.b_w_feed .nil pass0 (pa_cons (pv 0) pa_nil)))
      (pss_cons (ps_set (i := 2) S_law.nd rfl (.inl rfl) (pe_call G_w_wants (hr.mono (by decide)) (by rfl) T.g_w_wants T.F_w_wants.kp T.b_w_wants .nil pass0 (pa_cons (pv 1) (pa_cons pe_int (pa_cons (pe_ix (r := rIxL K) ix_list (pe_lst (pa_cons pe_int (pa_cons pe_int pa_nil))) (pe_call G_w_draw (hr.mono (by decide)) (by rfl) T.g_w_draw T.F_w_draw.kp T.b_w_draw .nil pass0 (pa_cons (pv 1) (pa_cons pe_int pa_nil))) (fun _ _ => rfl)) pa_nil)))))
      (pss_cons (ps_set (i := 3) S_law.nd rfl (.inl rfl) (pe_callB (call_reprT gd hr) (by rfl) T.m_repr (by decide +kernel) (pa_cons (pv 2) pa_nil)))
      (pss_cons (ps_set (i := 4) S_law.nd rfl (.inl rfl) (pe_lst (pa_cons (pv 2) pa_nil)))
      (pss_cons (ps_for PassesOwn.never rfl (pi_range1 (by rfl) T.m_range (pa_cons pe_int pa_nil)) (pg_name (i := 5) S_law.nd rfl (.inl rfl))
      (pss_one (ps_expr (pe_bm PySem.F.plainAttrs_list PySem.F.slot_list_append PySem.F.type_list_append mt_append (pv 4) (pa_cons (pe_call G_w_bent hr (by rfl) T.g_w_bent T.F_w_bent.kp T.b_w_bent .nil pass0 (pa_cons (pv 1) (pa_cons (pe_ix (r := rIxL K) ix_list (pv 4) (pe_call G_w_draw (hr.mono (by decide)) (by rfl) T.g_w_draw T.F_w_draw.kp T.b_w_draw .nil pass0 (pa_cons (pv 1) (pa_cons (pe_callB call_len_seq (by rfl) T.m_len PySem.boot_len (pa_cons (pv 4) pa_nil)) pa_nil))) (fun _ _ => rfl)) pa_nil))) pa_nil)))))
      (pss_cons (ps_set (i := 4) S_law.nd rfl (.inl rfl) (pe_op op_cat (pv 4) (pe_lst (pa_cons pe_non (pa_cons pe_bl (pa_cons (pe_tup pa_nil) (pa_cons (pe_lst pa_nil) (pa_cons pe_str (pa_cons (pe_tup (pa_cons (pe_tup (pa_cons pe_str (pa_cons (pe_tup (pa_cons pe_int (pa_cons pe_int pa_nil))) pa_nil))) pa_nil)) (pa_cons (pe_tup (pa_cons (pe_tup (pa_cons pe_str (pa_cons (pe_tup (pa_cons pe_bl pa_nil)) pa_nil))) pa_nil)) (pa_cons (pe_tup (pa_cons (pe_tup (pa_cons pe_str (pa_cons (pe_tup pa_nil) pa_nil))) (pa_cons (pe_tup (pa_cons pe_str (pa_cons (pe_tup pa_nil) pa_nil))) pa_nil))) pa_nil)))))))))))
      (pss_cons (ps_set (i := 4) S_law.nd rfl (.inl rfl) (pe_op op_cat (pv 4) (pe_lst (pa_cons (pe_tup (pa_cons (pe_tup (pa_cons pe_str (pa_cons (pe_tup (pa_cons pe_int pa_nil)) pa_nil))) pa_nil)) (pa_cons (pe_tup (pa_cons (pe_tup (pa_cons pe_str (pa_cons (pe_tup (pa_cons pe_int pa_nil)) pa_nil))) pa_nil)) (pa_cons (pe_tup (pa_cons (pe_tup (pa_cons pe_str (pa_cons (pe_tup (pa_cons pe_int pa_nil)) pa_nil))) (pa_cons (pe_tup (pa_cons pe_str (pa_cons (pe_tup (pa_cons pe_int pa_nil)) pa_nil))) pa_nil))) pa_nil))))))
      (pss_cons (ps_set (i := 6) S_law.nd rfl (.inr rfl) (pe_lc (own := [("_law_k", 5)]) (g := gName 5) (tt := tYes) (by rfl) S_law.nd (pi_range1 (by rfl) T.m_range (pa_cons pe_int pa_nil)) (blkOk_by (own := [("_law_k", 5)]) (N := N_law) (sc := defScope s_law) (by decide +kernel)) (fun _ _ _ _ _ => (pg_name (i := 5) S_law.nd rfl (.inl rfl))) (fun _ _ _ _ _ => pts_nil) (fun _ _ _ _ _ => (pe_op (r := rCatT) op_add_str (pe_ix (r := rIxS) ix_str pe_str (pe_op op_fdiv (pv 5) pe_int) (fun _ _ => rfl)) (pe_ix (r := rIxS) ix_str pe_str (pe_op op_mod (pv 5) pe_int) (fun _ _ => rfl))))))
      (pss_cons (ps_set (i := 4) S_law.nd rfl (.inl rfl) (pe_op op_cat (pv 4) (pe_lc (own := [("_law_many", 10)]) (g := gName 10) (tt := tYes) (by rfl) S_law.nd (pi_tup (pe_tup (pa_cons pe_int (pa_cons pe_int pa_nil)))) (blkOk_by (own := [("_law_many", 10)]) (N := N_law) (sc := defScope s_law) (by decide +kernel)) (fun _ _ _ _ _ => (pg_name (i := 10) S_law.nd rfl (.inl rfl))) (fun _ _ _ _ _ => pts_nil) (fun _ _ _ _ _ => (pe_callTy (r := rTupOf K) call_tuple_of (by rfl) T.m_tuple (by decide +kernel) (pa_cons (pe_lc (own := [("_law_k", 5), ("_law_name", 9)]) (g := gTup K 2 (gCons (gName 5) (gCons (gName 9) gNil))) (tt := tYes) (by rfl) S_law.nd ((pi_enumK (K := K) rfl) (by rfl) T.m_enumerate (pa_cons (pe_slice (r := rSlL K) sl_list (pv 6) po_none (po_some (pv 10))) pa_nil)) (blkOk_by (own := [("_law_k", 5), ("_law_name", 9)]) (N := N_law) (by rfl)) (fun _ _ _ _ _ => (pg_tup rfl (pgs_cons (pg_name (i := 5) S_law.nd rfl (.inl rfl)) (pgs_cons (pg_name (i := 9) S_law.nd rfl (.inl rfl)) pgs_nil)))) (fun _ _ _ _ _ => pts_nil) (fun _ _ _ _ _ => (pe_tup (pa_cons (pv 9) (pa_cons (pe_tup (pa_cons (pv 5) pa_nil)) pa_nil))))) pa_nil))))))
      (pss_cons (ps_set (i := 4) S_law.nd rfl (.inl rfl) (pe_op op_cat (pv 4) (pe_lst (pa_cons (pe_tup (pa_cons (pe_tup (pa_cons pe_str (pa_cons (pe_tupRg (by rfl) (by rfl) T.m_tuple (prg_1 (by rfl) T.m_range pe_int)) pa_nil))) pa_nil)) (pa_cons (pe_tup (pa_cons (pe_tup (pa_cons pe_str (pa_cons (pe_tupRg (by rfl) (by rfl) T.m_tuple (prg_1 (by rfl) T.m_range pe_int)) pa_nil))) (pa_cons (pe_tup (pa_cons pe_str (pa_cons (pe_op (r := rCatA K) op_catA (pe_tupRg (by rfl) (by rfl) T.m_tuple (prg_1 (by rfl) T.m_range pe_int)) (pe_tup (pa_cons pe_int pa_nil))) pa_nil))) pa_nil))) pa_nil)))))
      (pss_cons (ps_set (i := 7) S_law.nd rfl (.inl rfl) (pe_callB (call_reprT gd hr) (by rfl) T.m_repr (by decide +kernel) (pa_cons (pv 4) pa_nil)))
      (pss_cons (ps_for PassesOwn.never rfl (pi_range1 (by rfl) T.m_range (pa_cons pe_int pa_nil)) (pg_name (i := 8) S_law.nd rfl (.inl rfl))
      (pss_cons (ps_if (pt_cmpR (op_neE (hu_of hr)) (pe_lc (own := [("_law_thing", 11)]) (g := gName 11) (by rfl) S_law.nd (pi_list (pv 4)) (blkOk_by (own := [("_law_thing", 11)]) (N := N_law) (sc := defScope s_law) (by decide +kernel)) (fun _ _ _ _ _ => (pg_name (i := 11) S_law.nd rfl (.inl rfl))) (fun _ _ _ _ _ => (pts_one (pt_cmpR op_ne (pe_callB (call_reprT gd hr) (by rfl) T.m_repr (by decide +kernel) (pa_cons (pe_call G_is_wants (hr.mono (by decide)) (by rfl) T.g_is_wants T.F_is_wants.kp T.b_is_wants .nil pass0 (pa_cons (pv 11) pa_nil)) pa_nil)) (pe_callB (call_reprT gd hr) (by rfl) T.m_repr (by decide +kernel) (pa_cons (pe_call G_w_is_wants (hr.mono (by decide)) (by rfl) T.g_w_is_wants T.F_w_is_wants.kp T.b_w_is_wants .nil pass0 (pa_cons (pv 11) pa_nil)) pa_nil)) (nomark _)))) (fun _ _ _ _ _ => (pv 11))) (pe_lst pa_nil) (nomark _)) (pss_one (ps_ret pe_bl)) pss_nil)
      (pss_one (ps_if (PW.pt (pw_or (pt_not (pt_val (GU.pe_callG G_w_made_right gd (hr.mono (by decide)) (by rfl) T.g_w_made_right T.F_w_made_right.kp T.b_w_made_right .nil pass0 (pa_cons (pv 1) (pa_cons (pv 2) pa_nil))))) (pw_or1 (pt_cmpR op_ne (pe_callB (call_reprT gd hr) (by rfl) T.m_repr (by decide +kernel) (pa_cons (pv 2) pa_nil)) (pv 3) (nomark _))))) (pss_one (ps_ret pe_bl)) pss_nil))))
      (pss_one (ps_ret (pe_cmpR op_eq (pe_callB (call_reprT gd hr) (by rfl) T.m_repr (by decide +kernel) (pa_cons (pv 4) pa_nil)) (pv 7) (nomark _)))))))))))))))), ?_⟩
    refine ⟨_, rfl, a, ns, rfl, hS, fun t c H1 m1 nt hT1 => ?_⟩
    have tb1 : Tbs (tbs T) H1 := Tbs.same (fun P hP => hb0 P hP) m1
    refine name_as (σ' := sW (some (.ref a)) (some (.ref t)) none none none none none none none none none none) rfl ?_
    refine ⟨_, rfl, sz (by show 2 ≤ 1000; decide), fun p0 np0 => ?_⟩
    have s2 := same_upd (o := .lst [.int 6, .int 28]) np0
    have hT2 := hT1.same s2
    have hp2 := upd_same (H := H1) (a := p0) (o := .lst [.int 6, .int 28])
    have p0t := (hT1.ne np0).1
    refine ⟨_, rfl, t, 2, 0, c, rfl, by decide, by decide, hT2, by decide, fun v H3 u0 u1 hT3 hK3 => ?_⟩
    have tb3 := tb_kp' (tb1.same s2) hT2 hK3
    obtain ⟨sp, sp0, sp1, hsp⟩ : ∃ sp : Int, 1 ≤ sp ∧ sp ≤ 28 ∧ atI [V.int 6, V.int 28] v = some (.int sp) := by
      have : v = 0 ∨ v = 1 := by omega
      rcases this with rfl | rfl
      · exact ⟨6, by decide, by decide, rfl⟩
      · exact ⟨28, by decide, by decide, rfl⟩
    refine ⟨p0, _, v, .int sp, rfl, rfl, .inl (.inl (hK3 _ _ p0t hp2)), hsp, t, c, 1, 8, sp, rfl, hT3, by decide, by decide, sp0, sp1, fun aw o ps W H4 hT4 hK4 naw awt haw td ws wok0 => ?_⟩
    have tb4 := tb_kp' tb3 hT3 hK4
    have wok : WOk W 8 28 := by
      obtain ⟨b, b0, b1, rg⟩ := wok0.rg
      exact ⟨wok0.pw, wok0.nm, wok0.ds, ⟨b, b0, b1, fun w hw d hd => by have := rg w hw d hd; omega⟩, wok0.ln, wok0.l28⟩
    have hrd : Rd H4 aw (.tup (ps.map V.ref)) := .inr ⟨o, haw⟩
    have few := few_of hrd ws wok
    have ok28 : ∀ w ∈ W, Plain w.1 ∧ w.2.length ≤ 28 ∧ ∀ d ∈ w.2, 0 ≤ d ∧ d ≤ (10 : Int) ^ 31 := fun w hw => by
      obtain ⟨h1, h2, h3⟩ := few.ok w hw
      exact ⟨h1, h2, fun d hd => by have := h3 d hd; omega⟩
    have wb : WB W := ⟨by have := few.ln; omega, fun w hw => by obtain ⟨h1, h2, h3⟩ := ok28 w hw; exact ⟨h1, by omega, h3⟩⟩
    refine name_as (σ' := sW (some (.ref a)) (some (.ref t)) (some (.ref aw)) none none none none none none none none none) rfl ?_
    obtain ⟨x1, x2, x3, x4⟩ := fit_ws hT4 hrd ws wb
    refine ⟨_, rfl, true, t, _, _, 10 ^ 31, by decide, rfl, x1, x2, x3, x4, ?_⟩
    refine name_as (σ' := sW (some (.ref a)) (some (.ref t)) (some (.ref aw)) (some (.str (PyData.tuple (W.map wD)).shown)) none none none none none none none none) rfl ?_
    refine ⟨_, rfl, sz (by show 1 ≤ 1000; decide), fun L nL => ?_⟩
    obtain ⟨Lt, Lc⟩ := hT4.ne nL
    have sL := same_upd (o := .lst [.ref aw]) nL
    refine name_as (σ' := sW (some (.ref a)) (some (.ref t)) (some (.ref aw)) (some (.str (PyData.tuple (W.map wD)).shown)) (some (.ref L)) none none none none none none none) rfl ?_
    have b0 : Bents 0 [.tuple (W.map wD)] := by
      have g := (fit_wants28 (fun w hw => (wok.nm w hw).1) ok28).tup
      have l8 := few.ln
      refine ⟨rfl, g.one.mono (by show 2112 * W.length + 3 + 2 ≤ 17100 * 2 ^ 1; omega) (Nat.le_refl _), fun d hd => ?_, fun d hd => ?_⟩
      · rw [List.mem_singleton.mp hd]; exact g.mono (by show 2112 * W.length + 3 ≤ 17100 * 2 ^ 0 - 200; omega) (Nat.le_refl _)
      · rw [List.mem_singleton.mp hd]; exact wid_wants (by omega) wok.l28
    refine ⟨6, rfl, by decide, by decide, ?_⟩
    refine for_range (lo := 0) (n := (6 : Int).toNat) (fun i σ Hx => ∃ (y5 : Option V) (vs : List V) (ds : List PyData), σ = sW (some (.ref a)) (some (.ref t)) (some (.ref aw)) (some (.str (PyData.tuple (W.map wD)).shown)) (some (.ref L)) y5 none none none none none none ∧ Hx L = some (.lst vs) ∧ DqAll true t Hx vs ds ∧ Bents i ds ∧ FeedC Hx t c (501 + 21 * i) ∧ Kp t H4 Hx) ⟨_, _, _, rfl, upd_same, .cons (x1.same sL) .nil, b0, hT4.new nL, .of_same sL⟩ ?_ ?_
    · rintro i σ Hx hi ⟨y5, vs, ds, rfl, hL, da, b, hTx, hKx⟩
      have i6 : i < 6 := hi
      refine name_as (σ' := sW (some (.ref a)) (some (.ref t)) (some (.ref aw)) (some (.str (PyData.tuple (W.map wD)).shown)) (some (.ref L)) (some (.int (0 + (i : Int)))) none none none none none none) rfl ?_
      have lv := da.length
      have bl := b.ln
      refine ⟨_, rfl, .inl ⟨rfl, _, .inl (.inl hL)⟩, _, rfl, _, rfl, _, rfl, _, rfl, L, _, rfl, .inl (.inl (.inl hL)), t, _, 501 + 21 * i, c, rfl, by omega, by omega, hTx, by omega, fun v Ha v0 v1 hTa hKa => ?_⟩
      obtain ⟨j, rfl⟩ : ∃ j : Nat, v = (j : Int) := ⟨v.toNat, by omega⟩
      have jl : j < vs.length := by omega
      have hLa := hKa _ _ Lt hL
      have daa := da.kp hKa
      obtain ⟨d, hd, qd⟩ := daa.get (List.getElem?_eq_getElem jl)
      have hm := List.mem_of_getElem? hd
      have p2 : (2 : Nat) ^ i ≤ 2 ^ 5 := Nat.pow_le_pow_right (by decide) (by omega)
      refine ⟨L, _, _, vs[j], rfl, rfl, .inl (.inl hLa), at_of (j := j) rfl (List.getElem?_eq_getElem jl), t, c, _, d, 501 + 21 * i + 1, 17100 * 2 ^ i - 200, 28 + i, 10 ^ 31 + i, rfl, hTa, by omega, qd, b.each d hm, b.wd d hm, by omega, by omega, Nat.le_trans (by decide : 10 ≤ 10 ^ 31) (Nat.le_add_right _ _), by omega, fun v' d' Hb hTb hKb dq' ft' wk' => ?_⟩
      have hLb := hKb _ _ Lt hLa
      have dab := daa.kp hKb
      have lk : tls ds < tls ds + 3 := by omega
      have tm := tls_mem hm
      refine ⟨L, _, v', rfl, rfl, hLb, small1000 (by omega), _, _, _, rfl, upd_same, ?_, b.snoc ft' wk'.wid, (hTb.updO Lt Lc).mono (by omega), kp_fresh nL ((hKx.trans hKa).trans hKb)⟩
      exact (DqAll.grow hLb dab lk dab (wks_mem.mpr fun e he => wk_self (b.wd e he) (by have := tls_mem he; omega))).app (.cons (Dq.grow hLb dab lk dq' (wk'.up (by omega))) .nil)
    rintro σ Hx ⟨y5, vs, ds, rfl, hL, da, b, hTx, hKx⟩
    have b : Bents 6 ds := b
    have hTx : FeedC Hx t c 627 := hTx
    have tsb : Ts ds (17100 * 2 ^ 7) := ⟨b.sm.sh.mono (Nat.add_le_add_left (by decide) _), b.sm.tl, b.sm.dp, fun d hd => (b.wd d hd).mono (by decide)⟩
    have kx : KG (tbs T) t H4 Hx := .kp hKx tb4 hT4
    have ld := b.ln
    have ft : ∀ {H' : Hp}, FeedC H' t c 627 → ∃ o, H' t = some o := fun f => by
      obtain ⟨ns, sp, re, ca, e1, _⟩ := f
      exact ⟨_, e1⟩
    show tOp rCat (tVar 4) (tLst _) _ _ _
    refine cat_lits (L := L) (es := c1) rfl (ft hTx) hL da (lit_cons lit_n (lit_cons lit_b (lit_cons (lit_tup lit_nil (by decide)) (lit_cons (lit_lst lit_nil (by decide)) (lit_cons lit_s (lit_cons (lit_tup (lit_cons (lit_tup (lit_cons lit_s (lit_cons (lit_tup (lit_cons lit_i (lit_cons lit_i lit_nil)) (by decide)) lit_nil)) (by decide)) lit_nil) (by decide)) (lit_cons (lit_tup (lit_cons (lit_tup (lit_cons lit_s (lit_cons (lit_tup (lit_cons lit_b lit_nil) (by decide)) lit_nil)) (by decide)) lit_nil) (by decide)) (lit_cons (lit_tup (lit_cons (lit_tup (lit_cons lit_s (lit_cons (lit_tup lit_nil (by decide)) lit_nil)) (by decide)) (lit_cons (lit_tup (lit_cons lit_s (lit_cons (lit_tup lit_nil (by decide)) lit_nil)) (by decide)) lit_nil)) (by decide)) lit_nil)))))))) (by rw [ld]; decide) fun N1 us1 H5 m5 nN1 hL1 da1 => ?_
    refine name_as (σ' := sW (some (.ref a)) (some (.ref t)) (some (.ref aw)) (some (.str (PyData.tuple (W.map wD)).shown)) (some (.ref N1)) y5 none none none none none none) rfl ?_
    show tOp rCat (tVar 4) (tLst _) _ _ _
    refine cat_lits (L := N1) (es := c2) rfl (ft (hTx.same m5)) hL1 da1 (lit_cons (lit_tup (lit_cons (lit_tup (lit_cons lit_s (lit_cons (lit_tup (lit_cons lit_i lit_nil) (by decide)) lit_nil)) (by decide)) lit_nil) (by decide)) (lit_cons (lit_tup (lit_cons (lit_tup (lit_cons lit_s (lit_cons (lit_tup (lit_cons lit_i lit_nil) (by decide)) lit_nil)) (by decide)) lit_nil) (by decide)) (lit_cons (lit_tup (lit_cons (lit_tup (lit_cons lit_s (lit_cons (lit_tup (lit_cons lit_i lit_nil) (by decide)) lit_nil)) (by decide)) (lit_cons (lit_tup (lit_cons lit_s (lit_cons (lit_tup (lit_cons lit_i lit_nil) (by decide)) lit_nil)) (by decide)) lit_nil)) (by decide)) lit_nil))) (by rw [List.length_append, ld]; decide) fun N2 us2 H6 m6 nN2 hL2 da2 => ?_
    refine name_as (σ' := sW (some (.ref a)) (some (.ref t)) (some (.ref aw)) (some (.str (PyData.tuple (W.map wD)).shown)) (some (.ref N2)) y5 none none none none none none) rfl ?_
    have ts2' := (tsb.app ts1).app ts2
    have l2 : (ds ++ c1 ++ c2).length = 18 := by rw [List.length_append, List.length_append, ld]; rfl
    generalize ds ++ c1 ++ c2 = d2 at da2 ts2' l2
    have hT6 := (hTx.same m5).same m6
    refine ⟨20, rfl, by decide, by decide, fun D nD => ?_⟩
    refine lc_range (lo := 0) (n := 20) (fun i Hy => ∃ zs : List Str, Same H6 Hy ∧ Hy D = some (.lst (zs.map V.str)) ∧ zs.length = i ∧ ∀ z ∈ zs, Plain z ∧ z.length ≤ 10) ⟨[], same_upd nD, upd_same, rfl, fun z h => by cases h⟩ ?_ ?_
    · rintro i Hy hi ⟨zs, m, hD, lz, pl⟩
      obtain ⟨cc, hc, c8⟩ := cellE hi
      obtain ⟨dd, hd, d8⟩ := cellW hi
      obtain ⟨pz, lz2⟩ := two_plain c8 d8
      refine ⟨rfl, tYesT ?_⟩
      refine ⟨_, rfl, _, _, rfl, rfl, ⟨by decide, by decide⟩, _, _, cc, rfl, rfl, by rw [sizeLine_eq]; decide +kernel, hc, ?_⟩
      refine ⟨_, rfl, _, _, rfl, rfl, (by decide : (0 : Int) < 4), _, _, dd, rfl, rfl, by rw [sizeLine_eq]; decide +kernel, hd, ?_⟩
      refine ⟨_, _, rfl, rfl, by rw [sizeLine_eq]; show 1 + 1 ≤ _; decide, _, hD, by rw [List.length_map, lz]; exact small1000 (by omega), zs ++ [⟨#[cc]⟩ ++ ⟨#[dd]⟩], same_freshA nD m, by rw [upd_same, List.map_append]; rfl, by rw [List.length_append, lz]; rfl, fun z hz => ?_⟩
      rcases List.mem_append.mp hz with h | h
      · exact pl z h
      · rw [List.mem_singleton.mp h]; exact ⟨pz, lz2⟩
    rintro H7 ⟨zs, m7, hD7, lz, pl⟩
    refine name_as (σ' := sW (some (.ref a)) (some (.ref t)) (some (.ref aw)) (some (.str (PyData.tuple (W.map wD)).shown)) (some (.ref N2)) y5 (some (.ref D)) none none none none none) rfl ?_
    have hT7 := hT6.same m7
    have da7 := da2.same m7
    have hL7 := m7 _ _ hL2
    refine ⟨_, rfl, sz (by show 2 ≤ 1000; decide), fun p9 np9 => ⟨p9, rfl, ⟨_, .inl (.inl upd_same)⟩, fun E nE => ?_⟩⟩
    have s8 := same_upd (o := .tup [.int 9, .int 20]) np9
    have h9 := upd_same (H := H7) (a := p9) (o := .tup [.int 9, .int 20])
    have hT8 := hT7.same s8
    have hD8 := s8 _ _ hD7
    have da8 := da7.same s8
    have hL8 := s8 _ _ hL7
    generalize upd H7 p9 (.tup [.int 9, .int 20]) = H8 at s8 h9 hT8 hD8 da8 hL8 nE ⊢
    refine lc_tup (xs := [.int 9, .int 20]) (fun i Hy => ∃ (us : List V) (es : List PyData), Same H8 Hy ∧ Hy E = some (.lst us) ∧ DqAll true t Hy us es ∧ es.length = i ∧ ∀ e ∈ es, Big e) ⟨[], [], same_upd nE, upd_same, .nil, rfl, fun e h => by cases h⟩ (fun i Hy _ ⟨_, _, m, _⟩ => .inl (.inl (m _ _ h9))) ?_ ?_
    · rintro i x Hy hi ⟨us, es, m, hE, de, le, big⟩
      obtain ⟨mm, rfl, m20⟩ : ∃ mm : Nat, x = .int (mm : Int) ∧ mm ≤ 20 := by
        match i, hi with
        | 0, h => cases h; exact ⟨9, rfl, by decide⟩
        | 1, h => cases h; exact ⟨20, rfl, by decide⟩
      have i2 : i < 2 := (List.getElem?_eq_some_iff.mp hi).1
      refine ⟨rfl, tYesT ?_⟩
      refine ⟨_, rfl, np_in ⟨_, rfl, (mm : Int), rfl, D, _, rfl, .inl (.inl (m _ _ hD8)), fun C nC => ⟨C, _, rfl, .inl (.inl upd_same), fun F nF => ?_⟩⟩⟩
      rw [cut_tkQ, ← List.map_take] at nF ⊢
      have sC := same_upd (o := .lst ((zs.take mm).map V.str)) nC
      have hC := upd_same (H := Hy) (a := C) (o := .lst ((zs.take mm).map V.str))
      have mC := m.trans sC
      have hEC := sC _ _ hE
      have deC := de.same sC
      generalize upd Hy C (.lst ((zs.take mm).map V.str)) = HC at sC hC mC hEC deC nF ⊢
      have hTC := hT8.same mC
      have lt : (zs.take mm).length ≤ 20 := by rw [List.length_take]; omega
      refine lc_it (walk_enum (xs := (zs.take mm).map V.str)) (fun j Hz => ∃ (ws : List V) (fs : List PyData), Same HC Hz ∧ Hz F = some (.lst ws) ∧ DqAll true t Hz ws fs ∧ fs.length = j ∧ ∀ f ∈ fs, Small f) ⟨[], [], same_upd nF, upd_same, .nil, rfl, fun f h => by cases h⟩ (fun j Hz _ ⟨_, _, m, _⟩ => .inl (.inl (m _ _ hC))) ?_ ?_
      · rintro j x Hz Hu hj ⟨ws, fs, mz, hF, df, lf, sm⟩ ⟨Tn, xk, xr, rfl, hn, rfl, h1, h2⟩
        have h1 : some (V.int (j : Nat)) = some xk := h1
        cases h1
        have h2 : ((zs.take mm).map V.str)[j]? = some xr := h2
        rw [List.getElem?_map] at h2
        obtain ⟨z, hz, rfl⟩ := Option.map_eq_some_iff.mp h2
        have jl : j < (zs.take mm).length := (List.getElem?_eq_some_iff.mp hz).1
        obtain ⟨pz, lz2⟩ := pl z (List.mem_of_mem_take (List.mem_of_getElem? hz))
        have s5 := same_upd (o := .tup [V.int (j : Nat), .str z]) hn
        refine ⟨Tn, _, rfl, .inl (.inl upd_same), rfl, _, _, rfl, _, _, rfl, rfl, rfl, tYesT ?_⟩
        refine ⟨_, rfl, _, rfl, sz (by show 1 ≤ 1000; decide), fun q1 nq1 => ⟨sz (by show 2 ≤ 1000; decide), fun q2 nq2 => ?_⟩⟩
        have sq1 := same_upd (o := .tup [.int (j : Nat)]) nq1
        have sq2 := same_upd (o := .tup [.str z, .ref q1]) nq2
        have mA := (s5.trans sq1).trans sq2
        have mB := mz.trans mA
        have hFA := mA _ _ hF
        have hTA := hTC.same mB
        have dA := df.same mA
        have e1 := sq2 _ _ (upd_same (H := upd Hz Tn (.tup [V.int (j : Nat), .str z])) (a := q1) (o := .tup [.int (j : Nat)]))
        have e2 := upd_same (H := upd (upd Hz Tn (.tup [V.int (j : Nat), .str z])) q1 (.tup [.int (j : Nat)])) (a := q2) (o := .tup [.str z, .ref q1])
        generalize upd (upd (upd Hz Tn (.tup [V.int (j : Nat), .str z])) q1 (.tup [.int (j : Nat)])) q2 (.tup [.str z, .ref q1]) = HA at mA mB hFA hTA dA e1 e2 ⊢
        have dn : Dq true t HA (.ref q2) (.tuple [.str z, .tuple [.int (j : Nat)]]) := .tup (hTA.ne' e2) e2 (.cons (.str z) (.cons (.tup (hTA.ne' e1) e1 (.cons (.int _) .nil)) .nil))
        have sn : Small (.tuple [.str z, .tuple [.int (j : Nat)]]) := ⟨z, _, rfl, pz, lz2, by omega, by omega⟩
        have lk : 0 < tls fs + 3 := by omega
        refine ⟨ws, hFA, small1000 (by rw [df.length]; omega), _, _, same_freshA nF mB, upd_same, (DqAll.grow hFA dA lk dA (wks_mem.mpr fun f hf => (sm f hf).wk)).app (.cons (Dq.grow hFA dA lk dn sn.wk) .nil), by rw [List.length_append, lf]; rfl, fun f hf => ?_⟩
        rcases List.mem_append.mp hf with h | h
        · exact sm f h
        · rw [List.mem_singleton.mp h]; exact sn
      · rintro Hz ⟨ws, fs, mz, hF, df, lf, sm⟩
        refine ⟨F, ws, rfl, .inl ⟨.inl (.inl hF), fun l nl => ?_⟩⟩
        have sl := same_upd (o := .tup ws) nl
        have mA := mz.trans sl
        have hEA := mA _ _ hEC
        have dA := deC.same mA
        have hTA := hTC.same mA
        have e1 := upd_same (H := Hz) (a := l) (o := .tup ws)
        have dfl := df.same sl
        generalize upd Hz l (.tup ws) = HA at mA hEA dA hTA e1 dfl ⊢
        have bn : Big (.tuple fs) := ⟨fs, rfl, by rw [lf, List.length_map]; exact lt, sm⟩
        have dn : Dq true t HA (.ref l) (.tuple fs) := .tup (hTA.ne' e1) e1 dfl
        have lk : 0 < tls es + 3 := by omega
        refine ⟨us, hEA, small1000 (by rw [de.length]; omega), _, _, same_freshA nE (mC.trans mA), upd_same, (DqAll.grow hEA dA lk dA (wks_mem.mpr fun f hf => (big f hf).wk)).app (.cons (Dq.grow hEA dA lk dn bn.wk) .nil), by rw [List.length_append, le]; rfl, fun f hf => ?_⟩
        rcases List.mem_append.mp hf with h | h
        · exact big f h
        · rw [List.mem_singleton.mp h]; exact bn
    rintro H9 ⟨us, es, m9, hE, de, le, big⟩
    have le2 : es.length = 2 := le
    refine ⟨N2, E, _, _, rfl, rfl, m9 _ _ hL8, hE, by rw [da2.length, de.length, sizeLine_eq]; omega, fun N3 nN3 => ?_⟩
    have sN := same_upd (o := .lst (us2 ++ us)) nN3
    have da3 := ((da8.same m9).same sN).app (de.same sN)
    have hL3 := upd_same (H := H9) (a := N3) (o := .lst (us2 ++ us))
    have m10 := ((m7.trans s8).trans m9).trans sN
    have ts3 := ts2'.app (ts_big big)
    refine name_as (σ' := sW (some (.ref a)) (some (.ref t)) (some (.ref aw)) (some (.str (PyData.tuple (W.map wD)).shown)) (some (.ref N3)) y5 (some (.ref D)) none none none none none) rfl ?_
    generalize upd H9 N3 (.lst (us2 ++ us)) = H10 at da3 hL3 m10 ⊢
    have hT10 := hT6.same m10
    show tOp rCat (tVar 4) (tLst _) _ _ _
    refine cat_lits (L := N3) (es := c4) rfl (ft hT10) hL3 da3 (lit_cons (lit_tup (lit_cons (lit_tup (lit_cons lit_s (lit_cons (lit_rg (n := 40) (by decide)) lit_nil)) (by decide)) lit_nil) (by decide)) (lit_cons (lit_tup (lit_cons (lit_tup (lit_cons lit_s (lit_cons (lit_rg (n := 29) (by decide)) lit_nil)) (by decide)) (lit_cons (lit_tup (lit_cons lit_s (lit_cons (lit_cat (n := 29) (by decide) (lit_cons lit_i lit_nil) (by decide)) lit_nil)) (by decide)) lit_nil)) (by decide)) lit_nil)) (by rw [List.length_append, l2, le2]; decide) fun N4 us4 H11 m11 nN4 hL4 da4 => ?_
    refine name_as (σ' := sW (some (.ref a)) (some (.ref t)) (some (.ref aw)) (some (.str (PyData.tuple (W.map wD)).shown)) (some (.ref N4)) y5 (some (.ref D)) none none none none none) rfl ?_
    have ts5 := ts3.app ts4
    rw [le2] at ts5
    have mA : Same Hx H11 := ((m5.trans m6).trans m10).trans m11
    have kA : KG (tbs T) t H4 H11 := kx.trans (.same mA kx.2)
    have fA := hTx.same mA
    have N4t := (hT10.ne nN4).1
    generalize d2 ++ es ++ c4 = gd at da4 ts5
    have tlg : tl (.list gd) ≤ sizeLine := by
      have := ts5.tl
      show tls gd + 3 ≤ sizeLine
      rw [sizeLine_eq]
      omega
    have dpg : (PyData.list gd).depth ≤ 50 := by
      have := ts5.dp
      rw [PyData.depth]
      omega
    refine ⟨_, rfl, true, t, _, .list gd, 10 ^ 31 + 1000, by decide, rfl, .lst N4t hL4 da4, ts5.sh, dpg, tlg, ?_⟩
    refine name_as (σ' := sW (some (.ref a)) (some (.ref t)) (some (.ref aw)) (some (.str (PyData.tuple (W.map wD)).shown)) (some (.ref N4)) y5 (some (.ref D)) (some (.str (PyData.list gd).shown)) none none none none) rfl ?_
    refine ⟨2, rfl, by decide, by decide, ?_⟩
    refine for_range (lo := 0) (n := (2 : Int).toNat) (fun i σ Hx => ∃ y8, σ = sW (some (.ref a)) (some (.ref t)) (some (.ref aw)) (some (.str (PyData.tuple (W.map wD)).shown)) (some (.ref N4)) y5 (some (.ref D)) (some (.str (PyData.list gd).shown)) y8 none none none ∧ KG (tbs T) t H11 Hx ∧ FeedC Hx t c (627 + 200 * i)) ⟨none, rfl, ⟨fun _ _ _ e _ => e, kA.2⟩, fA⟩ ?_ ?_
    · rintro i σ Hy hi ⟨y8, rfl, ky, fy⟩
      have i2 : i < 2 := hi
      refine name_as (σ' := sW (some (.ref a)) (some (.ref t)) (some (.ref aw)) (some (.str (PyData.tuple (W.map wD)).shown)) (some (.ref N4)) y5 (some (.ref D)) (some (.str (PyData.list gd).shown)) (some (.int (0 + (i : Int)))) none none none) rfl ?_
      have hLy := ky.1 _ _ N4t hL4 fun ps z => by cases z
      have dy : DqAll true t Hy us4 gd := da4.keep fun b o n nt e => ky.1 b o n e nt
      refine ⟨_, rfl, N4, rfl, ⟨us4, .inl (.inl hLy)⟩, fun E2 nE2 => ?_⟩
      refine lc_list (xs := us4) (fun j Hz => Gk (tbs T) Hy Hz ∧ Hz E2 = some (.lst [])) ⟨.of_same (same_upd nE2) ky.2, upd_same⟩ (fun j Hz _ h => .inl (.inl (h.1.1 _ _ hLy fun ps z => by cases z))) ?_ ?_
      · rintro j x Hz hj ⟨g, hE2⟩
        obtain ⟨d, hd, qd⟩ := (dy.keep fun b o n nt e => g.1 b o e nt).get hj
        have hm := List.mem_of_getElem? hd
        have shd := shts_mem.mp ts5.sh d hm
        have wdd := ts5.wd d hm
        refine ⟨rfl, _, rfl, 10 ^ 31 + 1000, true, t, x, d, rfl, qd, shd, wdd, g.2, fun b1 H1 hb1 g1 => ?_⟩
        refine ⟨true, t, .bl b1, .bool b1, 0, by decide, rfl, .bl b1, trivial, by rw [PyData.depth]; decide, by show 5 ≤ sizeLine; rw [sizeLine_eq]; decide, ?_⟩
        refine ⟨_, rfl, 10 ^ 31 + 1000, true, t, x, d, rfl, qd.keep fun b o n nt e => g1.1 b o e nt, shd, wdd, fun b2 H2 hb2 m2 => ?_⟩
        have eb : b1 = b2 := Bool.eq_iff_iff.mpr (hb1.trans hb2.symm)
        subst eb
        refine ⟨true, t, .bl b1, .bool b1, 0, by decide, rfl, .bl b1, trivial, by rw [PyData.depth]; decide, by show 5 ≤ sizeLine; rw [sizeLine_eq]; decide, rfl, _, rfl, ite2 (fun e => absurd e (nes2 _)) (fun _ => ?_)⟩
        exact ⟨(g.trans g1).trans (.of_same m2 g1.2), m2 _ _ (g1.1 _ _ hE2 fun ps z => by cases z)⟩
      · rintro Hz ⟨g, hE2⟩
        refine ⟨Nat.zero_le _, fun F nF => ⟨E2, F, [], rfl, rfl, .inl (.inl (same_upd nF _ _ hE2)), .inl (.inl upd_same), _, rfl, ite2 (fun e => by cases e) (fun _ => ?_)⟩⟩
        have sF := same_upd (o := .lst []) nF
        have kz := (ky.trans (.gk g)).trans (.same sF g.2)
        have fz := (fy.gk g).same sF
        have fewz := few.kg (kA.trans kz) hT4
        refine ⟨_, rfl, _, rfl, t, c, aw, 627 + 200 * i, ps, W, rfl, fz, by omega, fewz.rd, fewz.ws, wok, kz.2, fun Hm km fm => ⟨_, rfl, ite2 (fun e => by cases e) (fun _ => ?_)⟩⟩
        have fewm := fewz.kg km fz
        obtain ⟨x1, x2, x3, x4⟩ := fit_ws fm fewm.rd fewm.ws wb
        refine ⟨_, rfl, true, t, _, _, 10 ^ 31, by decide, rfl, x1, x2, x3, x4, _, rfl, rfl, _, rfl, ite2 (fun e => absurd e (nes2 _)) (fun _ => ?_)⟩
        exact ⟨_, rfl, kz.trans km, fm.mono (by omega)⟩
    rintro σ Hy ⟨y8, rfl, ky, fy⟩
    have hLy := ky.1 _ _ N4t hL4 fun ps z => by cases z
    have dy : DqAll true t Hy us4 gd := da4.keep fun b o n nt e => ky.1 b o n e nt
    refine ⟨_, rfl, true, t, _, .list gd, 10 ^ 31 + 1000, by decide, rfl, .lst N4t hLy dy, ts5.sh, dpg, tlg, _, rfl, rfl, ?_⟩
    rw [decide_eq_true rfl]
    exact q _
end
end L55

set_option Elab.async false
set_option linter.all false
set_option maxRecDepth 100000
set_option maxHeartbeats 2000000
namespace L55
open PySem PySem.Spec PyProof.Rows L2 My
theorem all_mk {l : PySem.W.OpenLaw} {w : World} {K : PySem.W.Frag} {h : Heap} {mg : Str → Option Value} {fa : Addr} {q : Program} (X : K.In h) (G : h.Ns mainGlobals mg) (hfa : mg "law" = some (.ref fa)) (tabs : GE.TabsIn q K h)
    {f1 : Addr} {od1 an1 : Option Addr} {sl1 : Array (Option Value)} {oc1 kV1 dc1 pm1 cd1 ct1 : Value}
    {f2 : Addr} {od2 an2 : Option Addr} {sl2 : Array (Option Value)} {oc2 kV2 dc2 pm2 cd2 ct2 : Value}
    {q2 P2 : Addr} {ge2 : Value} {gd2 : Option Addr} {gv2 : Array Value} {gs2 : Array (Option Value)}
    {f3 : Addr} {od3 an3 : Option Addr} {sl3 : Array (Option Value)} {oc3 kV3 dc3 pm3 cd3 ct3 : Value}
    {q3 P3 : Addr} {ge3 : Value} {gd3 : Option Addr} {gv3 : Array Value} {gs3 : Array (Option Value)}
    {f4 : Addr} {od4 an4 : Option Addr} {sl4 : Array (Option Value)} {oc4 kV4 dc4 pm4 cd4 ct4 : Value}
    {q4 P4 : Addr} {ge4 : Value} {gd4 : Option Addr} {gv4 : Array Value} {gs4 : Array (Option Value)}
    {f5 : Addr} {od5 an5 : Option Addr} {sl5 : Array (Option Value)} {oc5 kV5 dc5 pm5 cd5 ct5 : Value}
    {f6 : Addr} {od6 an6 : Option Addr} {sl6 : Array (Option Value)} {oc6 kV6 dc6 pm6 cd6 ct6 : Value}
    {q6 P6 : Addr} {ge6 : Value} {gd6 : Option Addr} {gv6 : Array Value} {gs6 : Array (Option Value)}
    {f7 : Addr} {od7 an7 : Option Addr} {sl7 : Array (Option Value)} {oc7 kV7 dc7 pm7 cd7 ct7 : Value}
    {f8 : Addr} {od8 an8 : Option Addr} {sl8 : Array (Option Value)} {oc8 kV8 dc8 pm8 cd8 ct8 : Value}
    {f9 : Addr} {od9 an9 : Option Addr} {sl9 : Array (Option Value)} {oc9 kV9 dc9 pm9 cd9 ct9 : Value}
    {f10 : Addr} {od10 an10 : Option Addr} {sl10 : Array (Option Value)} {oc10 kV10 dc10 pm10 cd10 ct10 : Value}
    {f11 : Addr} {od11 an11 : Option Addr} {sl11 : Array (Option Value)} {oc11 kV11 dc11 pm11 cd11 ct11 : Value}
    {q11 P11 : Addr} {ge11 : Value} {gd11 : Option Addr} {gv11 : Array Value} {gs11 : Array (Option Value)}
    {f12 : Addr} {od12 an12 : Option Addr} {sl12 : Array (Option Value)} {oc12 kV12 dc12 pm12 cd12 ct12 : Value}
    {f13 : Addr} {od13 an13 : Option Addr} {sl13 : Array (Option Value)} {oc13 kV13 dc13 pm13 cd13 ct13 : Value}
    {f14 : Addr} {od14 an14 : Option Addr} {sl14 : Array (Option Value)} {oc14 kV14 dc14 pm14 cd14 ct14 : Value}
    {f15 : Addr} {od15 an15 : Option Addr} {sl15 : Array (Option Value)} {oc15 kV15 dc15 pm15 cd15 ct15 : Value}
    {f16 : Addr} {od16 an16 : Option Addr} {sl16 : Array (Option Value)} {oc16 kV16 dc16 pm16 cd16 ct16 : Value}
    {f17 : Addr} {od17 an17 : Option Addr} {sl17 : Array (Option Value)} {oc17 kV17 dc17 pm17 cd17 ct17 : Value}
    {f18 : Addr} {od18 an18 : Option Addr} {sl18 : Array (Option Value)} {oc18 kV18 dc18 pm18 cd18 ct18 : Value}
    {f19 : Addr} {od19 an19 : Option Addr} {sl19 : Array (Option Value)} {oc19 kV19 dc19 pm19 cd19 ct19 : Value}
    {f20 : Addr} {od20 an20 : Option Addr} {sl20 : Array (Option Value)} {oc20 kV20 dc20 pm20 cd20 ct20 : Value}
    {f21 : Addr} {od21 an21 : Option Addr} {sl21 : Array (Option Value)} {oc21 kV21 dc21 pm21 cd21 ct21 : Value}
    {f22 : Addr} {od22 an22 : Option Addr} {sl22 : Array (Option Value)} {oc22 kV22 dc22 pm22 cd22 ct22 : Value}
    {tk1 : Tok}
    {d2 : DefRec}
    {d3 : DefRec}
    {d4 : DefRec}
    {d6 : DefRec}
    {d11 : DefRec}
    (a1 : PySem.W.nsIn K mainGlobals "is_number" = some (some (.ref f1))) (l1 : K.lookup f1 = some ⟨oc1, od1, .func (PySem.W.fnOf "is_number" "is_number" (defArgs s_is_number) (defBody s_is_number) (defScope s_is_number) .none kV1 dc1 pm1 an1 cd1 ct1), sl1⟩) (c1 : PySem.W.codeIn K cd1 "is_number" = true) (k1 : PySem.W.keepIn K (.ref f1) = true)
    (a2 : PySem.W.nsIn K mainGlobals "is_rising" = some (some (.ref f2))) (l2 : K.lookup f2 = some ⟨oc2, od2, .func (PySem.W.fnOf "is_rising" "is_rising" (defArgs s_is_rising) (defBody s_is_rising) (defScope s_is_rising) .none kV2 dc2 pm2 an2 cd2 ct2), sl2⟩) (c2 : PySem.W.codeIn K cd2 "is_rising" = true) (k2 : PySem.W.keepIn K (.ref f2) = true)
    (e2 : cd2 = .ref q2) (u2 : K.lookup q2 = some ⟨ge2, gd2, .fields gv2, gs2⟩) (v2t : gv2[11]? = some (.ref P2)) (n2 : K.lookup P2 = none)
    (a3 : PySem.W.nsIn K mainGlobals "is_name" = some (some (.ref f3))) (l3 : K.lookup f3 = some ⟨oc3, od3, .func (PySem.W.fnOf "is_name" "is_name" (defArgs s_is_name) (defBody s_is_name) (defScope s_is_name) .none kV3 dc3 pm3 an3 cd3 ct3), sl3⟩) (c3 : PySem.W.codeIn K cd3 "is_name" = true) (k3 : PySem.W.keepIn K (.ref f3) = true)
    (e3 : cd3 = .ref q3) (u3 : K.lookup q3 = some ⟨ge3, gd3, .fields gv3, gs3⟩) (v3t : gv3[11]? = some (.ref P3)) (n3 : K.lookup P3 = none)
    (a4 : PySem.W.nsIn K mainGlobals "is_days" = some (some (.ref f4))) (l4 : K.lookup f4 = some ⟨oc4, od4, .func (PySem.W.fnOf "is_days" "is_days" (defArgs s_is_days) (defBody s_is_days) (defScope s_is_days) .none kV4 dc4 pm4 an4 cd4 ct4), sl4⟩) (c4 : PySem.W.codeIn K cd4 "is_days" = true) (k4 : PySem.W.keepIn K (.ref f4) = true)
    (e4 : cd4 = .ref q4) (u4 : K.lookup q4 = some ⟨ge4, gd4, .fields gv4, gs4⟩) (v4t : gv4[11]? = some (.ref P4)) (n4 : K.lookup P4 = none)
    (a5 : PySem.W.nsIn K mainGlobals "is_want" = some (some (.ref f5))) (l5 : K.lookup f5 = some ⟨oc5, od5, .func (PySem.W.fnOf "is_want" "is_want" (defArgs s_is_want) (defBody s_is_want) (defScope s_is_want) .none kV5 dc5 pm5 an5 cd5 ct5), sl5⟩) (c5 : PySem.W.codeIn K cd5 "is_want" = true) (k5 : PySem.W.keepIn K (.ref f5) = true)
    (a6 : PySem.W.nsIn K mainGlobals "is_wants" = some (some (.ref f6))) (l6 : K.lookup f6 = some ⟨oc6, od6, .func (PySem.W.fnOf "is_wants" "is_wants" (defArgs s_is_wants) (defBody s_is_wants) (defScope s_is_wants) .none kV6 dc6 pm6 an6 cd6 ct6), sl6⟩) (c6 : PySem.W.codeIn K cd6 "is_wants" = true) (k6 : PySem.W.keepIn K (.ref f6) = true)
    (e6 : cd6 = .ref q6) (u6 : K.lookup q6 = some ⟨ge6, gd6, .fields gv6, gs6⟩) (v6t : gv6[11]? = some (.ref P6)) (n6 : K.lookup P6 = none)
    (a7 : PySem.W.nsIn K mainGlobals "all_days" = some (some (.ref f7))) (l7 : K.lookup f7 = some ⟨oc7, od7, .func (PySem.W.fnOf "all_days" "all_days" (defArgs s_all_days) (defBody s_all_days) (defScope s_all_days) .none kV7 dc7 pm7 an7 cd7 ct7), sl7⟩) (c7 : PySem.W.codeIn K cd7 "all_days" = true) (k7 : PySem.W.keepIn K (.ref f7) = true)
    (a8 : PySem.W.nsIn K mainGlobals "days_of_name" = some (some (.ref f8))) (l8 : K.lookup f8 = some ⟨oc8, od8, .func (PySem.W.fnOf "days_of_name" "days_of_name" (defArgs s_days_of_name) (defBody s_days_of_name) (defScope s_days_of_name) .none kV8 dc8 pm8 an8 cd8 ct8), sl8⟩) (c8 : PySem.W.codeIn K cd8 "days_of_name" = true) (k8 : PySem.W.keepIn K (.ref f8) = true)
    (a9 : PySem.W.nsIn K mainGlobals "with_want" = some (some (.ref f9))) (l9 : K.lookup f9 = some ⟨oc9, od9, .func (PySem.W.fnOf "with_want" "with_want" (defArgs s_with_want) (defBody s_with_want) (defScope s_with_want) .none kV9 dc9 pm9 an9 cd9 ct9), sl9⟩) (c9 : PySem.W.codeIn K cd9 "with_want" = true) (k9 : PySem.W.keepIn K (.ref f9) = true)
    (a10 : PySem.W.nsIn K mainGlobals "with_day" = some (some (.ref f10))) (l10 : K.lookup f10 = some ⟨oc10, od10, .func (PySem.W.fnOf "with_day" "with_day" (defArgs s_with_day) (defBody s_with_day) (defScope s_with_day) .none kV10 dc10 pm10 an10 cd10 ct10), sl10⟩) (c10 : PySem.W.codeIn K cd10 "with_day" = true) (k10 : PySem.W.keepIn K (.ref f10) = true)
    (a11 : PySem.W.nsIn K mainGlobals "without_want" = some (some (.ref f11))) (l11 : K.lookup f11 = some ⟨oc11, od11, .func (PySem.W.fnOf "without_want" "without_want" (defArgs s_without_want) (defBody s_without_want) (defScope s_without_want) .none kV11 dc11 pm11 an11 cd11 ct11), sl11⟩) (c11 : PySem.W.codeIn K cd11 "without_want" = true) (k11 : PySem.W.keepIn K (.ref f11) = true)
    (e11 : cd11 = .ref q11) (u11 : K.lookup q11 = some ⟨ge11, gd11, .fields gv11, gs11⟩) (v11t : gv11[11]? = some (.ref P11)) (n11 : K.lookup P11 = none)
    (a12 : PySem.W.nsIn K mainGlobals "_law_feed" = some (some (.ref f12))) (l12 : K.lookup f12 = some ⟨oc12, od12, .func (PySem.W.fnOf "_law_feed" "_law_feed" (defArgs s_w_feed) (defBody s_w_feed) (defScope s_w_feed) .none kV12 dc12 pm12 an12 cd12 ct12), sl12⟩) (c12 : PySem.W.codeIn K cd12 "_law_feed" = true) (k12 : PySem.W.keepIn K (.ref f12) = true)
    (a13 : PySem.W.nsIn K mainGlobals "_law_draw" = some (some (.ref f13))) (l13 : K.lookup f13 = some ⟨oc13, od13, .func (PySem.W.fnOf "_law_draw" "_law_draw" (defArgs s_w_draw) (defBody s_w_draw) (defScope s_w_draw) .none kV13 dc13 pm13 an13 cd13 ct13), sl13⟩) (c13 : PySem.W.codeIn K cd13 "_law_draw" = true) (k13 : PySem.W.keepIn K (.ref f13) = true)
    (a14 : PySem.W.nsIn K mainGlobals "_law_days" = some (some (.ref f14))) (l14 : K.lookup f14 = some ⟨oc14, od14, .func (PySem.W.fnOf "_law_days" "_law_days" (defArgs s_w_days) (defBody s_w_days) (defScope s_w_days) .none kV14 dc14 pm14 an14 cd14 ct14), sl14⟩) (c14 : PySem.W.codeIn K cd14 "_law_days" = true) (k14 : PySem.W.keepIn K (.ref f14) = true)
    (a15 : PySem.W.nsIn K mainGlobals "_law_wants" = some (some (.ref f15))) (l15 : K.lookup f15 = some ⟨oc15, od15, .func (PySem.W.fnOf "_law_wants" "_law_wants" (defArgs s_w_wants) (defBody s_w_wants) (defScope s_w_wants) .none kV15 dc15 pm15 an15 cd15 ct15), sl15⟩) (c15 : PySem.W.codeIn K cd15 "_law_wants" = true) (k15 : PySem.W.keepIn K (.ref f15) = true)
    (a16 : PySem.W.nsIn K mainGlobals "_law_bent" = some (some (.ref f16))) (l16 : K.lookup f16 = some ⟨oc16, od16, .func (PySem.W.fnOf "_law_bent" "_law_bent" (defArgs s_w_bent) (defBody s_w_bent) (defScope s_w_bent) .none kV16 dc16 pm16 an16 cd16 ct16), sl16⟩) (c16 : PySem.W.codeIn K cd16 "_law_bent" = true) (k16 : PySem.W.keepIn K (.ref f16) = true)
    (a17 : PySem.W.nsIn K mainGlobals "_law_is_name" = some (some (.ref f17))) (l17 : K.lookup f17 = some ⟨oc17, od17, .func (PySem.W.fnOf "_law_is_name" "_law_is_name" (defArgs s_w_is_name) (defBody s_w_is_name) (defScope s_w_is_name) .none kV17 dc17 pm17 an17 cd17 ct17), sl17⟩) (c17 : PySem.W.codeIn K cd17 "_law_is_name" = true) (k17 : PySem.W.keepIn K (.ref f17) = true)
    (a18 : PySem.W.nsIn K mainGlobals "_law_is_days" = some (some (.ref f18))) (l18 : K.lookup f18 = some ⟨oc18, od18, .func (PySem.W.fnOf "_law_is_days" "_law_is_days" (defArgs s_w_is_days) (defBody s_w_is_days) (defScope s_w_is_days) .none kV18 dc18 pm18 an18 cd18 ct18), sl18⟩) (c18 : PySem.W.codeIn K cd18 "_law_is_days" = true) (k18 : PySem.W.keepIn K (.ref f18) = true)
    (a19 : PySem.W.nsIn K mainGlobals "_law_is_wants" = some (some (.ref f19))) (l19 : K.lookup f19 = some ⟨oc19, od19, .func (PySem.W.fnOf "_law_is_wants" "_law_is_wants" (defArgs s_w_is_wants) (defBody s_w_is_wants) (defScope s_w_is_wants) .none kV19 dc19 pm19 an19 cd19 ct19), sl19⟩) (c19 : PySem.W.codeIn K cd19 "_law_is_wants" = true) (k19 : PySem.W.keepIn K (.ref f19) = true)
    (a20 : PySem.W.nsIn K mainGlobals "_law_put" = some (some (.ref f20))) (l20 : K.lookup f20 = some ⟨oc20, od20, .func (PySem.W.fnOf "_law_put" "_law_put" (defArgs s_w_put) (defBody s_w_put) (defScope s_w_put) .none kV20 dc20 pm20 an20 cd20 ct20), sl20⟩) (c20 : PySem.W.codeIn K cd20 "_law_put" = true) (k20 : PySem.W.keepIn K (.ref f20) = true)
    (a21 : PySem.W.nsIn K mainGlobals "_law_made_right" = some (some (.ref f21))) (l21 : K.lookup f21 = some ⟨oc21, od21, .func (PySem.W.fnOf "_law_made_right" "_law_made_right" (defArgs s_w_made_right) (defBody s_w_made_right) (defScope s_w_made_right) .none kV21 dc21 pm21 an21 cd21 ct21), sl21⟩) (c21 : PySem.W.codeIn K cd21 "_law_made_right" = true) (k21 : PySem.W.keepIn K (.ref f21) = true)
    (a22 : PySem.W.nsIn K mainGlobals "law" = some (some (.ref f22))) (l22 : K.lookup f22 = some ⟨oc22, od22, .func (PySem.W.fnOf "law" "law" (defArgs s_law) (defBody s_law) (defScope s_law) .none kV22 dc22 pm22 an22 cd22 ct22), sl22⟩) (c22 : PySem.W.codeIn K cd22 "law" = true) (k22 : PySem.W.keepIn K (.ref f22) = true)
    (v1 : PySem.W.nsIn K mainGlobals "LONGEST_NAME" = some (some (.int 8 tk1)))
    (z1 : PySem.W.nsIn K mainGlobals "all" = some none)
    (z2 : PySem.W.nsIn K mainGlobals "bool" = some none)
    (z3 : PySem.W.nsIn K mainGlobals "enumerate" = some none)
    (z4 : PySem.W.nsIn K mainGlobals "int" = some none)
    (z5 : PySem.W.nsIn K mainGlobals "isinstance" = some none)
    (z6 : PySem.W.nsIn K mainGlobals "len" = some none)
    (z7 : PySem.W.nsIn K mainGlobals "list" = some none)
    (z8 : PySem.W.nsIn K mainGlobals "range" = some none)
    (z9 : PySem.W.nsIn K mainGlobals "repr" = some none)
    (z10 : PySem.W.nsIn K mainGlobals "set" = some none)
    (z11 : PySem.W.nsIn K mainGlobals "sorted" = some none)
    (z12 : PySem.W.nsIn K mainGlobals "str" = some none)
    (z13 : PySem.W.nsIn K mainGlobals "tuple" = some none)
    (r2 : (recsOf q).find? (fun e => e.name == ("is_rising" : Str)) = some d2)
    (r3 : (recsOf q).find? (fun e => e.name == ("is_name" : Str)) = some d3)
    (r4 : (recsOf q).find? (fun e => e.name == ("is_days" : Str)) = some d4)
    (r6 : (recsOf q).find? (fun e => e.name == ("is_wants" : Str)) = some d6)
    (r11 : (recsOf q).find? (fun e => e.name == ("without_want" : Str)) = some d11) :
    GU.LawAtG l w K CX0 11 63 "_law_script" mg fa h := by
  have e := hfa.symm.trans (PySem.W.mg_of X G a22)
  cases e
  have F1 := fun_mk (st := s_is_number) l1 c1 k1
  have F2 := GE.funC_mk (st := s_is_rising) l2 e2 c2 k2
  have F3 := GE.funC_mk (st := s_is_name) l3 e3 c3 k3
  have F4 := GE.funC_mk (st := s_is_days) l4 e4 c4 k4
  have F5 := fun_mk (st := s_is_want) l5 c5 k5
  have F6 := GE.funC_mk (st := s_is_wants) l6 e6 c6 k6
  have F7 := fun_mk (st := s_all_days) l7 c7 k7
  have F8 := fun_mk (st := s_days_of_name) l8 c8 k8
  have F9 := fun_mk (st := s_with_want) l9 c9 k9
  have F10 := fun_mk (st := s_with_day) l10 c10 k10
  have F11 := GE.funC_mk (st := s_without_want) l11 e11 c11 k11
  have F12 := fun_mk (st := s_w_feed) l12 c12 k12
  have F13 := fun_mk (st := s_w_draw) l13 c13 k13
  have F14 := fun_mk (st := s_w_days) l14 c14 k14
  have F15 := fun_mk (st := s_w_wants) l15 c15 k15
  have F16 := fun_mk (st := s_w_bent) l16 c16 k16
  have F17 := fun_mk (st := s_w_is_name) l17 c17 k17
  have F18 := fun_mk (st := s_w_is_days) l18 c18 k18
  have F19 := fun_mk (st := s_w_is_wants) l19 c19 k19
  have F20 := fun_mk (st := s_w_put) l20 c20 k20
  have F21 := fun_mk (st := s_w_made_right) l21 c21 k21
  have F22 := fun_mk (st := s_law) l22 c22 k22
  let T : Tx K mg := { f_is_number := f1, d_is_number := _, F_is_number := F1, g_is_number := PySem.W.mg_of X G a1, b_is_number := (F1.binds fun _ _ _ _ _ _ us hl => match us, hl with | [_], _ => rfl), k_is_rising := q2, P_is_rising := P2, f_is_rising := f2, d_is_rising := _, F_is_rising := F2, g_is_rising := PySem.W.mg_of X G a2, b_is_rising := (F2.toFun.binds fun _ _ _ _ _ _ us hl => match us, hl with | [_], _ => rfl), k_is_name := q3, P_is_name := P3, f_is_name := f3, d_is_name := _, F_is_name := F3, g_is_name := PySem.W.mg_of X G a3, b_is_name := (F3.toFun.binds fun _ _ _ _ _ _ us hl => match us, hl with | [_], _ => rfl), k_is_days := q4, P_is_days := P4, f_is_days := f4, d_is_days := _, F_is_days := F4, g_is_days := PySem.W.mg_of X G a4, b_is_days := (F4.toFun.binds fun _ _ _ _ _ _ us hl => match us, hl with | [_], _ => rfl), f_is_want := f5, d_is_want := _, F_is_want := F5, g_is_want := PySem.W.mg_of X G a5, b_is_want := (F5.binds fun _ _ _ _ _ _ us hl => match us, hl with | [_], _ => rfl), k_is_wants := q6, P_is_wants := P6, f_is_wants := f6, d_is_wants := _, F_is_wants := F6, g_is_wants := PySem.W.mg_of X G a6, b_is_wants := (F6.toFun.binds fun _ _ _ _ _ _ us hl => match us, hl with | [_], _ => rfl), f_all_days := f7, d_all_days := _, F_all_days := F7, g_all_days := PySem.W.mg_of X G a7, b_all_days := (F7.binds fun _ _ _ _ _ _ us hl => match us, hl with | [_], _ => rfl), f_days_of_name := f8, d_days_of_name := _, F_days_of_name := F8, g_days_of_name := PySem.W.mg_of X G a8, b_days_of_name := (F8.binds fun _ _ _ _ _ _ us hl => match us, hl with | [_, _], _ => rfl), f_with_want := f9, d_with_want := _, F_with_want := F9, g_with_want := PySem.W.mg_of X G a9, b_with_want := (F9.binds fun _ _ _ _ _ _ us hl => match us, hl with | [_, _, _], _ => rfl), f_with_day := f10, d_with_day := _, F_with_day := F10, g_with_day := PySem.W.mg_of X G a10, b_with_day := (F10.binds fun _ _ _ _ _ _ us hl => match us, hl with | [_, _, _], _ => rfl), k_without_want := q11, P_without_want := P11, f_without_want := f11, d_without_want := _, F_without_want := F11, g_without_want := PySem.W.mg_of X G a11, b_without_want := (F11.toFun.binds fun _ _ _ _ _ _ us hl => match us, hl with | [_, _], _ => rfl), f_w_feed := f12, d_w_feed := _, F_w_feed := F12, g_w_feed := PySem.W.mg_of X G a12, b_w_feed := (F12.binds fun _ _ _ _ _ _ us hl => match us, hl with | [_], _ => rfl), f_w_draw := f13, d_w_draw := _, F_w_draw := F13, g_w_draw := PySem.W.mg_of X G a13, b_w_draw := (F13.binds fun _ _ _ _ _ _ us hl => match us, hl with | [_, _], _ => rfl), f_w_days := f14, d_w_days := _, F_w_days := F14, g_w_days := PySem.W.mg_of X G a14, b_w_days := (F14.binds fun _ _ _ _ _ _ us hl => match us, hl with | [_, _, _, _], _ => rfl), f_w_wants := f15, d_w_wants := _, F_w_wants := F15, g_w_wants := PySem.W.mg_of X G a15, b_w_wants := (F15.binds fun _ _ _ _ _ _ us hl => match us, hl with | [_, _, _], _ => rfl), f_w_bent := f16, d_w_bent := _, F_w_bent := F16, g_w_bent := PySem.W.mg_of X G a16, b_w_bent := (F16.binds fun _ _ _ _ _ _ us hl => match us, hl with | [_, _], _ => rfl), f_w_is_name := f17, d_w_is_name := _, F_w_is_name := F17, g_w_is_name := PySem.W.mg_of X G a17, b_w_is_name := (F17.binds fun _ _ _ _ _ _ us hl => match us, hl with | [_], _ => rfl), f_w_is_days := f18, d_w_is_days := _, F_w_is_days := F18, g_w_is_days := PySem.W.mg_of X G a18, b_w_is_days := (F18.binds fun _ _ _ _ _ _ us hl => match us, hl with | [_], _ => rfl), f_w_is_wants := f19, d_w_is_wants := _, F_w_is_wants := F19, g_w_is_wants := PySem.W.mg_of X G a19, b_w_is_wants := (F19.binds fun _ _ _ _ _ _ us hl => match us, hl with | [_], _ => rfl), f_w_put := f20, d_w_put := _, F_w_put := F20, g_w_put := PySem.W.mg_of X G a20, b_w_put := (F20.binds fun _ _ _ _ _ _ us hl => match us, hl with | [_, _, _], _ => rfl), f_w_made_right := f21, d_w_made_right := _, F_w_made_right := F21, g_w_made_right := PySem.W.mg_of X G a21, b_w_made_right := (F21.binds fun _ _ _ _ _ _ us hl => match us, hl with | [_, _], _ => rfl), f_law := fa, d_law := _, F_law := F22, g_law := PySem.W.mg_of X G a22, b_law := (F22.binds fun _ _ _ _ _ _ us hl => match us, hl with | [_], _ => rfl), t_LONGEST_NAME := tk1, c_LONGEST_NAME := PySem.W.mg_of X G v1, m_all := PySem.W.mg_none_of X G z1, m_bool := PySem.W.mg_none_of X G z2, m_enumerate := PySem.W.mg_none_of X G z3, m_int := PySem.W.mg_none_of X G z4, m_isinstance := PySem.W.mg_none_of X G z5, m_len := PySem.W.mg_none_of X G z6, m_list := PySem.W.mg_none_of X G z7, m_range := PySem.W.mg_none_of X G z8, m_repr := PySem.W.mg_none_of X G z9, m_set := PySem.W.mg_none_of X G z10, m_sorted := PySem.W.mg_none_of X G z11, m_str := PySem.W.mg_none_of X G z12, m_tuple := PySem.W.mg_none_of X G z13 }
  have h2 := tabs "is_rising" _ _ _ r2 (GE.tabIn_of a2 l2 e2 u2 v2t)
  have h3 := tabs "is_name" _ _ _ r3 (GE.tabIn_of a3 l3 e3 u3 v3t)
  have h4 := tabs "is_days" _ _ _ r4 (GE.tabIn_of a4 l4 e4 u4 v4t)
  have h6 := tabs "is_wants" _ _ _ r6 (GE.tabIn_of a6 l6 e6 u6 v6t)
  have h11 := tabs "without_want" _ _ _ r11 (GE.tabIn_of a11 l11 e11 u11 v11t)
  have B0 : ∀ base : Heap, (∀ p ∈ [(q2, P2), (q3, P3), (q4, P4), (q6, P6), (q11, P11)], LamX.TabB base mg p.1 p.2) → Tb T base := fun base hb => ⟨GE.tabB (hb (q2, P2) (by simp)), GE.tabB (hb (q3, P3) (by simp)), GE.tabB (hb (q4, P4) (by simp)), GE.tabB (hb (q6, P6) (by simp)), GE.tabB (hb (q11, P11) (by simp))⟩
  refine ⟨_, [(q2, P2), (q3, P3), (q4, P4), (q6, P6), (q11, P11)], spLaw T, fun p hp => by
      simp only [List.mem_cons, List.not_mem_nil, or_false] at hp
      rcases hp with rfl | rfl | rfl | rfl | rfl
      · exact h2.2
      · exact h3.2
      · exact h4.2
      · exact h6.2
      · exact h11.2, fun p hp => by
      simp only [List.mem_cons, List.not_mem_nil, or_false] at hp
      rcases hp with rfl | rfl | rfl | rfl | rfl
      · exact n2
      · exact n3
      · exact n4
      · exact n6
      · exact n11, fun p hp => by
      simp only [List.mem_cons, List.not_mem_nil, or_false] at hp
      rcases hp with rfl | rfl | rfl | rfl | rfl
      · exact h2.1
      · exact h3.1
      · exact h4.1
      · exact h6.1
      · exact h11.1, fun s v => .of_eq rfl, fun H a ns hl hH hS => ⟨a, ns, rfl, hS, hl, fun p hp => ⟨#[], ?_, ?_⟩, fun _ => rfl⟩, fun base _ _ hb => ok_law T (B0 base hb)⟩
  · have hp : p ∈ ([(q2, P2), (q3, P3), (q4, P4), (q6, P6), (q11, P11)]).map (·.2) := hp
    obtain ⟨z, hz, e⟩ := List.mem_map.mp hp
    rw [← e]; exact hH z hz
  · exact True.intro
end L55
open PySem PySem.W PyProof.Rows
set_option maxHeartbeats 0 in
theorem PySem.Challenge.cw_cardsback_k55_wants_by_kind_holds : PySem.Challenge.rw_cardsback_k55_wants_by_kind.Holds := by
  w_on; o_law; k_head; (case hw => w_witness2)
  k_fill
  refine GU.walk_G (l := PySem.Challenge.rw_cardsback_k55_wants_by_kind) (n := 63) (k := 11) (x := "_law_script") (CX := fun _ => L2.CX0) rfl (by decide) rfl ⟨rfl, by decide, by decide⟩ (fun w h Y => PySem.W.kIn_of Y) ?F (fun _ _ _ _ _ h => h)
  case F =>
    intro w mg fa h KX G hmg tabs
    refine' L55.all_mk KX G hmg tabs ?a1 ?l1 ?c1 ?k1 ?a2 ?l2 ?c2 ?k2 ?e2 ?u2 ?v2t ?n2 ?a3 ?l3 ?c3 ?k3 ?e3 ?u3 ?v3t ?n3 ?a4 ?l4 ?c4 ?k4 ?e4 ?u4 ?v4t ?n4 ?a5 ?l5 ?c5 ?k5 ?a6 ?l6 ?c6 ?k6 ?e6 ?u6 ?v6t ?n6 ?a7 ?l7 ?c7 ?k7 ?a8 ?l8 ?c8 ?k8 ?a9 ?l9 ?c9 ?k9 ?a10 ?l10 ?c10 ?k10 ?a11 ?l11 ?c11 ?k11 ?e11 ?u11 ?v11t ?n11 ?a12 ?l12 ?c12 ?k12 ?a13 ?l13 ?c13 ?k13 ?a14 ?l14 ?c14 ?k14 ?a15 ?l15 ?c15 ?k15 ?a16 ?l16 ?c16 ?k16 ?a17 ?l17 ?c17 ?k17 ?a18 ?l18 ?c18 ?k18 ?a19 ?l19 ?c19 ?k19 ?a20 ?l20 ?c20 ?k20 ?a21 ?l21 ?c21 ?k21 ?a22 ?l22 ?c22 ?k22 ?v1 ?z1 ?z2 ?z3 ?z4 ?z5 ?z6 ?z7 ?z8 ?z9 ?z10 ?z11 ?z12 ?z13 ?r2 ?r3 ?r4 ?r6 ?r11
    (case a1 => k_is); (case l1 => k_is); (case c1 => k_is); (case k1 => k_is); (case a2 => k_is); (case l2 => k_is); (case c2 => k_is); (case k2 => k_is); (case e2 => rfl); (case u2 => k_is); (case v2t => rfl); (case n2 => first | kernel_rfl | rfl | with_unfolding_all rfl); (case a3 => k_is); (case l3 => k_is); (case c3 => k_is); (case k3 => k_is); (case e3 => rfl); (case u3 => k_is); (case v3t => rfl); (case n3 => first | kernel_rfl | rfl | with_unfolding_all rfl); (case a4 => k_is); (case l4 => k_is); (case c4 => k_is); (case k4 => k_is); (case e4 => rfl); (case u4 => k_is); (case v4t => rfl); (case n4 => first | kernel_rfl | rfl | with_unfolding_all rfl); (case a5 => k_is); (case l5 => k_is); (case c5 => k_is); (case k5 => k_is); (case a6 => k_is); (case l6 => k_is); (case c6 => k_is); (case k6 => k_is); (case e6 => rfl); (case u6 => k_is); (case v6t => rfl); (case n6 => first | kernel_rfl | rfl | with_unfolding_all rfl); (case a7 => k_is); (case l7 => k_is); (case c7 => k_is); (case k7 => k_is); (case a8 => k_is); (case l8 => k_is); (case c8 => k_is); (case k8 => k_is); (case a9 => k_is); (case l9 => k_is); (case c9 => k_is); (case k9 => k_is); (case a10 => k_is); (case l10 => k_is); (case c10 => k_is); (case k10 => k_is); (case a11 => k_is); (case l11 => k_is); (case c11 => k_is); (case k11 => k_is); (case e11 => rfl); (case u11 => k_is); (case v11t => rfl); (case n11 => first | kernel_rfl | rfl | with_unfolding_all rfl); (case a12 => k_is); (case l12 => k_is); (case c12 => k_is); (case k12 => k_is); (case a13 => k_is); (case l13 => k_is); (case c13 => k_is); (case k13 => k_is); (case a14 => k_is); (case l14 => k_is); (case c14 => k_is); (case k14 => k_is); (case a15 => k_is); (case l15 => k_is); (case c15 => k_is); (case k15 => k_is); (case a16 => k_is); (case l16 => k_is); (case c16 => k_is); (case k16 => k_is); (case a17 => k_is); (case l17 => k_is); (case c17 => k_is); (case k17 => k_is); (case a18 => k_is); (case l18 => k_is); (case c18 => k_is); (case k18 => k_is); (case a19 => k_is); (case l19 => k_is); (case c19 => k_is); (case k19 => k_is); (case a20 => k_is); (case l20 => k_is); (case c20 => k_is); (case k20 => k_is); (case a21 => k_is); (case l21 => k_is); (case c21 => k_is); (case k21 => k_is); (case a22 => k_is); (case l22 => k_is); (case c22 => k_is); (case k22 => k_is); (case v1 => k_is); (case z1 => k_is); (case z2 => k_is); (case z3 => k_is); (case z4 => k_is); (case z5 => k_is); (case z6 => k_is); (case z7 => k_is); (case z8 => k_is); (case z9 => k_is); (case z10 => k_is); (case z11 => k_is); (case z12 => k_is); (case z13 => k_is); (case r2 => rfl); (case r3 => rfl); (case r4 => rfl); (case r6 => rfl); (case r11 => rfl)
