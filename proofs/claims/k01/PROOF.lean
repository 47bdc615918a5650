import PyProof.Rows.All
import Wide.All
import OpenK.AllK
import Wide.FinOn
import HandS.ForMost
import HandS.Wide
import HandS.WideBits
import HandS.Style
import HandS.IsInst
import HandS.TupAny
import HandS.Deep
import HandS.Evl
import KE.DataCmp
import HandS.CallLocal
import HandS.WrittenGet
import HandS.Conv
import KE.BitLaws
import KE.OsArith
import PySem.Challenge.RW_anypasses_k01_operations_on_numbers
set_option Elab.async false
set_option linter.all false
set_option maxRecDepth 100000
set_option maxHeartbeats 4000000
namespace Lay
open PySem PySem.Spec PyProof.Rows L2

/-! ### promises of defs that are called where no repr is under way -/
structure FnG (P : Program) (w : World) (K : PySem.W.Frag) (mg : Str → Option Value) (base : Heap) (CX : CXT) (k : Nat) (f : Addr) (fd : FuncData) (ps : List Str) (sp : Sp) : Prop where
  cnt : ∀ vs H Q E, sp vs H Q E → vs.length = ps.length
  go : ∀ (A : Around), A.guards = some [] → ∀ (outer : List Env) (s : Shared) (H : Hp) (args : Args) (us : List Value) (vs : List V) (Q : VK) (E : XK),
    Room k A → Env0 P w K mg base A outer s H → BindsTo s fd args (ps.zip us) → Vals vs us → sp vs H Q E → codeAny (model P w) A (.call (.ref f) args) (CR CX outer P w H s Q E) s
theorem FnG.of {P : Program} {w : World} {K : PySem.W.Frag} {mg : Str → Option Value} {base : Heap} {CX : CXT} {k : Nat} {f : Addr} {fd : FuncData} {ps : List Str} {sp : Sp} (F : FnOk P w K mg base CX k f fd ps sp) : FnG P w K mg base CX k f fd ps sp :=
  ⟨F.len, fun A _ => F.run A⟩
theorem FnG.up {P : Program} {w : World} {K : PySem.W.Frag} {mg : Str → Option Value} {base : Heap} {CX : CXT} {j k : Nat} {f : Addr} {fd : FuncData} {ps : List Str} {sp : Sp} (F : FnG P w K mg base CX j f fd ps sp) (h : j ≤ k) : FnG P w K mg base CX k f fd ps sp :=
  ⟨F.cnt, fun A hg outer s H args us vs Q E hr => F.go A hg outer s H args us vs Q E (hr.mono h)⟩

section
variable {P : Program} {w : World} {K : PySem.W.Frag} {mg : Str → Option Value} {base : Heap}
theorem okG {CX : CXT} {x qual : Str} {st : Stmt} {f : Addr} {fd : FuncData} {N ps : List Str} {k : Nat} {sp : Sp} (F : Fun K x qual st f fd) (S : FnScope N ps (defScope st)) (cnt : ∀ vs H Q E, sp vs H Q E → vs.length = ps.length)
    (body : ∀ (cdv : Value) (A : Around) (outer : List Env) (s : Shared) (H : Hp) (vs : List V) (Q : VK) (E : XK), A.guards = some [] → Room k (A.deeper (envOfC qual (defScope st) s.heap.objs.size f cdv)) → sp vs H Q E →
      ∃ t, PSs (cxOf CX P w K mg base N qual (defScope st) f cdv A outer s H E) (defBody st) t ∧ t { nx := fun _ H' => Q .non H', rt := Q } (start N vs) H) : FnG P w K mg base CX (k + 1) f fd ps sp := by
  obtain ⟨oc, od, kV, doc, pm, an, cdv, ct, osl, rfl, lk, hcd⟩ := F.ex
  refine ⟨cnt, fun A hg outer s H args us vs Q E hr e0 hb r hsp => ?_⟩
  have keepB : ∀ b o, base.get? b = some o → s.heap.get? b = some o := fun b o e => (e0.bs b o e).1
  have inK : K.In s.heap := e0.mod.kin.keeps keepB
  have kinds : ∀ y ∈ ps.zip us, (defScope st).names.lookup y.1 = some .local ∨ ((defScope st).names.lookup y.1 = some .cell ∧ ((cellsFrom (s.heap.objs.size + 1) (defScope st).names []).lookup y.1).isSome = true) := by
    rintro ⟨n, v⟩ hy
    cases S.par n (List.of_mem_zip hy).1 with
    | inl q => exact .inl q
    | inr q => exact .inr ⟨q, PySem.W.cellsFrom_some _ _ _ (.inl q)⟩
  refine codeAny_call_function hr.depth (inK _ _ lk) rfl S.co S.gen rfl (PySem.W.codeRec_of inK hcd) (hb _ _ _ _ (wpAny_newFunctionEnv_cells S.kind kinds fun env he s1 x => ?_))
  subst he
  refine ⟨(e0.mod.nolimit.keeps keepB).keeps x.toInCall.keep, codeAny_func ?_⟩
  obtain ⟨t, ht, hq⟩ := body cdv A outer s H vs Q E hg (hr.deeper _) hsp
  have I := inv_start (CX := CX) (E := E) S hr.hd e0 (cnt _ _ _ _ hsp) r x
  refine wpAny_mono (ht.run [] s1 (start N vs) H _ I hq) ?_ (fun e s' hs => hs)
  intro fl s' hs
  match fl, hs with
  | .ret u, ⟨v, σ', H', J, rv, q⟩ => exact ⟨v, H', J.os, J.bare, J.base, J.hok, rv, q⟩
  | .next, ⟨σ', H', J, q⟩ => exact ⟨V.non, H', J.os, J.bare, J.base, J.hok, rfl, q⟩
  | .brk, ⟨_, _, _, q⟩ => exact q.elim
  | .cont, ⟨_, _, _, q⟩ => exact q.elim
end

section
variable {X : Cx} {CX : CXT} {k : Nat} {f : Addr} {fd : FuncData} {ps ks : List Str} {sp : Sp} {dvs : List V} {ds : List Value} {E : XK} {x : Str} {p pos : Pos} {e : Expr} {es : List Expr} {kws : List Keyword} {t tk : TA}
theorem runG {pins : List (Addr × Obj)} {σ : L2.St} {H : Hp} {s : Shared} {Q : VK} {us : List Value} {vs : List V} (F : FnG X.prog X.w X.K X.mg X.base CX k f fd ps sp) (hg : X.A.guards = some []) (hr : Room k X.A) (hb : Binds X.K fd ps ds) (hd : Vals dvs ds) (hx : Passes CX X E)
    (I : Inv X pins σ H s) (r : Vals vs us) (h : sp (vs ++ dvs) H Q E) : wpAny (model X.prog X.w) X.A (call (.ref f) us) (EP X pins σ Q) X.xe s := by
  have r2 : Vals (vs ++ dvs) (us ++ ds) := r.append hd
  refine wpAny_call (codeAny_mono (F.go X.A hg X.stack s H ⟨us, []⟩ (us ++ ds) (vs ++ dvs) Q E hr I.env0 (hb s us I.kIn (r2.length ▸ F.cnt _ _ _ _ h)) r2 h) ?_)
  intro r s' hq
  match r, hq with
  | .error e, hq => exact hx pins σ H s e s' I hq
  | .ok (.ret u), hq => exact I.after hq
  | .ok .next, hq => exact hq.elim
  | .ok .brk, hq => exact hq.elim
  | .ok .cont, hq => exact hq.elim
theorem pg_call (F : FnG X.prog X.w X.K X.mg X.base CX k f fd ps sp) (hgd : X.A.guards = some []) (hr : Room k X.A) (hg : Gl X x) (hm : X.mg x = some (.ref f)) (hk : PySem.W.keepIn X.K (.ref f) = true) (hb : Binds X.K fd ps ds) (hd : Vals dvs ds) (hx : Passes CX X E)
    (ha : PA X (e :: es) t) (hdb : (x == ("__debug__" : Str)) = false := by decide) (he : starEach (e :: es) X.env = (false, eval e X.env) :: starEach es X.env := by rfl) (hpl : (backTo pos (starEach es X.env)).any (·.1) = false := by rfl) :
    PE X (.Call (.Name x p) (e :: es) [] pos) (tCall sp dvs E t) :=
  ⟨fun pins s σ H Q I h => wpAny_Call_Name_kw (ld_glob I hg hm (PySem.W.callWith_K (h₀ := X.base) I.ok.mod.kin hk (thn (ha.run pos pins s σ H _ I h) fun us s1 ⟨vs, H1, I1, r, q⟩ => ⟨I1.kIn, runG F hgd hr hb hd hx I1 r q⟩) he hpl) hdb)⟩
end

/-! ### repr of data -/
mutual
theorem noDict {K : PySem.W.Frag} {H : Hp} : ∀ {v : V} {d : PyData}, Dp K H v d → d.hasDict = false
  | _, _, .non => by simp only [PyData.hasDict]
  | _, _, .bl _ => by simp only [PyData.hasDict]
  | _, _, .int _ => by simp only [PyData.hasDict]
  | _, _, .str _ => by simp only [PyData.hasDict]
  | _, _, .lst _ h => by simp only [PyData.hasDict, noDictAll h]
  | _, _, .tup _ h => by simp only [PyData.hasDict, noDictAll h]
theorem noDictAll {K : PySem.W.Frag} {H : Hp} : ∀ {vs : List V} {ds : List PyData}, DpAll K H vs ds → PyData.hasDictAll ds = false
  | _, _, .nil => by simp only [PyData.hasDictAll]
  | _, _, .cons h1 h2 => by simp only [PyData.hasDictAll, noDict h1, noDictAll h2, Bool.or_self]
end
/-- what repr asks: the thing as data, small enough -/
def rRepr (K : PySem.W.Frag) : List V → Hp → VK → Prop := fun xs H Q => ∃ v d, xs = [v] ∧ Dp K H v d ∧ d.showable = true ∧ d.depth ≤ 60 ∧ d.shown.length ≤ sizeLine ∧ Q (.str d.shown) H
theorem call_repr {X : Cx} (hg : X.A.guards = some []) (hu : X.A.units + 64 < cLine) : CallR X (.builtin "repr") (rRepr X.K) := by
  intro pins s σ H xs us Q I r h
  obtain ⟨v, d, rfl, hd, hs, hz, hl, q⟩ := h
  obtain ⟨u, rfl, hu'⟩ := vals1 r
  have nd := noDict hd
  cases hd with
  | non =>
    cases hu'
    exact PySem.P.repr_of_none ⟨.str "None", H, I.tok _, ⟨_, rfl⟩, q⟩
  | bl b =>
    cases hu'
    exact PySem.P.repr_of_bool ⟨.str (if b then "True" else "False"), H, I.tok _, ⟨_, rfl⟩, q⟩
  | int i =>
    obtain ⟨t, rfl⟩ := hu'
    exact PySem.P.repr_of_int (of_decide_eq_true hs) ⟨.str (toString i), H, I.tok _, ⟨_, rfl⟩, q⟩
  | str x =>
    obtain ⟨t, rfl⟩ := hu'
    exact PySem.P.repr_of_str ⟨.str (reprText x), H, I.tok _, ⟨_, rfl⟩, q⟩ hl
  | lst h1 h2 =>
    obtain ⟨as, rd⟩ := Dp.reads I _ _ _ (.lst h1 h2) hu'
    cases hu'
    exact repr_of_reads' rd hs (PyData.noDict_hsm nd) hg (by omega) (fun _ _ e => e) (fun h' t tk hk => ⟨.str _, H, I.kept (h' := h') (t' := tk) hk, ⟨t, rfl⟩, q⟩) hl
  | tup h1 h2 =>
    obtain ⟨as, rd⟩ := Dp.reads I _ _ _ (.tup h1 h2) hu'
    cases hu'
    exact repr_of_reads' rd hs (PyData.noDict_hsm nd) hg (by omega) (fun _ _ e => e) (fun h' t tk hk => ⟨.str _, H, I.kept (h' := h') (t' := tk) hk, ⟨t, rfl⟩, q⟩) hl

/-! ### the end: the law's call at the top -/
theorem head_call {P : Program} {w : World} {K : PySem.W.Frag} {mg mb : Str → Option Value} {CX : CXT} {k : Nat} {fa a : Addr} {fd : FuncData} {x : Str} {sp : Sp} {s₁ : Shared} {vs : List Value} {ns : List Int}
    (KX : K.In s₁.heap) (g1 : s₁.heap.Ns mainGlobals mg) (g2 : s₁.heap.Ns builtinsNs mb) (g3 : ∀ x : Str, x ≠ "__name__" → mb x = bootBuiltins x) (lim : s₁.heap.NoLimit) (gen : s₁.gens = #[])
    (ha : s₁.heap.get? a = some { cls := .type "list", data := .seq vs.toArray }) (hi : IntsAre vs ns) (hl : ns.length ≤ sizeLine) (hr : Room k callerA)
    (F : ∀ base : Heap, K.In base → base.Ns mainGlobals mg → FnG P w K mg base CX k fa fd [x] sp) (bind : ∀ (s : Shared) (u : Value), BindsTo s fd ⟨[u], []⟩ [(x, u)])
    (start : ∀ H : Hp, Only H → SqL K H a (ns.map V.int) → sp [.ref a] H (fun v _ => v = .bl true) fun _ _ _ => False) (noX : ∀ H e s', CX [] H s₁ (fun _ _ _ => False) e s' → False) :
    codeAny (model P w) callerA (.call (.ref fa) ⟨[.ref a], []⟩) (fun r s' => r = .ok (.ret (.bool true)) ∧ OldK s₁.heap s'.heap ∧ s'.os = s₁.os ∧ AllBare s'.gens) s₁ := by
  have rv := vals_ints hi
  have go : ∀ H : Hp, Only H → SqL K H a (ns.map V.int) → HOk P w H s₁.heap → (∀ b, H b ≠ none → b = a) → (H a ≠ none → K.lookup a = none) →
      codeAny (model P w) callerA (.call (.ref fa) ⟨[.ref a], []⟩) (fun r s' => r = .ok (.ret (.bool true)) ∧ OldK s₁.heap s'.heap ∧ s'.os = s₁.os ∧ AllBare s'.gens) s₁ := by
    intro H hO hS hok only atK
    have free : ∀ {b : Addr}, b ≠ a → H b = none := fun {b} n => by
      cases q : H b with
      | none => rfl
      | some u => exact absurd (only b (by simp [q])) n
    have ns2 : ∀ {b : Addr} {m : Str → Option Value}, s₁.heap.Ns b m → (hidT s₁.heap H).Ns b m := by
      rintro b m ⟨o, es, ep, e, d, r⟩
      refine ⟨o, es, ep, hidT_get e (free ?_), d, r⟩
      rintro rfl
      rw [ha] at e
      cases e
      exact nomatch d
    have kin : K.In (hidT s₁.heap H) := fun b o e => hidT_get (KX b o e) (by
      by_cases hb : b = a
      · subst hb
        cases q : H b with
        | none => rfl
        | some u => exact absurd (atK (by simp [q])) (by rw [e]; simp)
      · exact free hb)
    have e0 : Env0 P w K mg (hidT s₁.heap H) callerA [] s₁ H := {
      frames := rfl
      mod := ⟨kin, ns2 g1, ⟨mb, ns2 g2, g3⟩, lim.elim fun mc h => ⟨mc, ns2 h.1, h.2⟩⟩
      bs := fun b o e => of_hidT e
      bsz := Nat.le_of_eq (hidT_size _ _)
      funs := trivial
      frf := fun b hb => nomatch (show b ∈ ([] : List Addr) from hb)
      hok := hok
      bare := .of_eq gen }
    refine codeAny_mono ((F _ kin (ns2 g1)).go callerA rfl [] s₁ H ⟨[.ref a], []⟩ [.ref a] [.ref a] _ _ hr e0 (bind s₁ (.ref a)) (.cons rfl .nil) (start H hO hS)) ?_
    intro r s' h
    match r, h with
    | .error e, h => exact (noX H e s' h).elim
    | .ok .next, h => exact h.elim
    | .ok .brk, h => exact h.elim
    | .ok .cont, h => exact h.elim
    | .ok (.ret u), ⟨v, H', os, bare, un, hok', r', q⟩ =>
      cases (show v = .bl true from q)
      cases (show u = Value.bool true from r')
      refine ⟨rfl, OldK.of_keep fun b o e => ?_, os, bare⟩
      rcases hO b with z | ⟨ob, xs, z⟩
      · exact un.keep b o e z (fun m => nomatch (show b ∈ ([] : List Addr) from m)) (by simp)
      · have e1 := (hok b _ z).1
        have e2 := (hok' b _ (un.frzs b ob _ z)).1
        rw [e] at e1
        cases e1
        exact e2
  have lenV := hi.length
  cases hk : K.lookup a with
  | some o =>
    obtain rfl : _ = o := Option.some.inj (ha.symm.trans (KX a o hk))
    exact go (fun _ => none) (fun _ => .inl rfl) (.inr ⟨_, vs.toArray, _, hk, rfl, rfl, rfl, by simpa [lenV] using hl, by simpa using rv⟩) (fun b u z => nomatch z) (fun b z => absurd rfl z) fun z => absurd rfl z
  | none =>
    have at1 : ∀ b, b ≠ a → (fun b => if b = a then some (HO.frz { cls := .type "list", data := .seq vs.toArray } (.lst (ns.map V.int))) else none) b = none := fun b hb => if_neg hb
    have at2 : (fun b => if b = a then some (HO.frz { cls := .type "list", data := .seq vs.toArray } (.lst (ns.map V.int))) else none) a = some (HO.frz { cls := .type "list", data := .seq vs.toArray } (.lst (ns.map V.int))) := if_pos rfl
    refine go (fun b => if b = a then some (.frz { cls := .type "list", data := .seq vs.toArray } (.lst (ns.map V.int))) else none) (fun b => ?_) (.inl (.inr ⟨_, at2⟩)) (fun b u z => ?_) (fun b z => ?_) fun _ => hk
    · by_cases hb : b = a
      · exact .inr ⟨_, _, if_pos hb⟩
      · exact .inl (at1 b hb)
    · by_cases hb : b = a
      · subst hb
        cases at2.symm.trans z
        exact ⟨ha, by simpa using hl, vs, _, rv, ha⟩
      · cases (at1 b hb).symm.trans z
    · exact Decidable.byContradiction fun hb => z (at1 b hb)

theorem walk_ofG {l : PySem.W.OpenLaw} {n k : Nat} {q : Program} {loose : List Str} {XP : (Str → Option Value) → Heap → Prop} {YP : World → Heap → Prop} {d : DefRec} {K : Params → PySem.W.Frag} {CX : World → CXT} {sp : World → Sp} {x : Str}
    (hn : l.most = some n) (hn2 : n ≤ sizeLine) (hdf : d.params.defaults = []) (hr : Room k callerA) (hY : ∀ (w : World) (h : Heap), YP w h → (K w.params).In h)
    (F : ∀ (w : World) (mg : Str → Option Value) (fa : Addr) (h : Heap), (K w.params).In h → h.Ns mainGlobals mg → mg d.name = some (.ref fa) → ∃ fd : FuncData, (∀ (s : Shared) (u : Value), BindsTo s fd ⟨[u], []⟩ [(x, u)]) ∧
        ∀ base : Heap, (K w.params).In base → base.Ns mainGlobals mg → FnG l.prog w (K w.params) mg base (CX w) k fa fd [x] (sp w))
    (start : ∀ (w : World) (H : Hp) (a : Addr) (ns : List Int), ns.length ≤ n → Only H → SqL (K w.params) H a (ns.map V.int) → sp w [.ref a] H (fun v _ => v = .bl true) fun _ _ _ => False)
    (noX : ∀ (w : World) (H : Hp) (s : Shared) (e : Value) (s' : Shared), CX w [] H s (fun _ _ _ => False) e s' → False) : PySem.W.WalkO q loose XP YP l.row.toRowW d [] (fun f vs => PySem.call f vs) :=
  Att.attach_call hn hdf fun w s₀ s₁ mg mb fa o pm cd doc a vs ns G Y ho hd hcd hmg hobj hints hlen hg =>
    (F w mg fa _ (hY w _ Y) G.T.g hmg).elim fun fd h => head_call (hY w _ Y) G.T.g G.T.b G.T.builtins G.T.nolimit hg hobj hints (Nat.le_trans hlen hn2) hr h.2 h.1 (fun H hO hS => start w H a ns hlen hO hS) fun H e s' => noX w H s₁ e s'
end Lay

namespace Lay
open PySem PySem.Spec PyProof.Rows L2

/-! ### data that stand in the stable part of a heap -/
mutual
inductive Dat (K : PySem.W.Frag) (B : Hp) : V → PyData → Prop
  | non : Dat K B .non .none
  | bl (b : Bool) : Dat K B (.bl b) (.bool b)
  | int (i : Int) : Dat K B (.int i) (.int i)
  | str (x : Str) : Dat K B (.str x) (.str x)
  | lst {a : Addr} {vs : List V} {ds : List PyData} : B a = some (.lst vs) → DatAll K B vs ds → Dat K B (.ref a) (.list ds)
  | tup {a : Addr} {vs : List V} {ds : List PyData} : SqT K B a vs → DatAll K B vs ds → Dat K B (.ref a) (.tuple ds)
inductive DatAll (K : PySem.W.Frag) (B : Hp) : List V → List PyData → Prop
  | nil : DatAll K B [] []
  | cons {v : V} {vs : List V} {d : PyData} {ds : List PyData} : Dat K B v d → DatAll K B vs ds → DatAll K B (v :: vs) (d :: ds)
end
theorem _root_.L2.Same.tup {K : PySem.W.Frag} {H H' : Hp} {a : Addr} {xs : List V} (e : Same H H') (h : SqT K H a xs) : SqT K H' a xs := by
  rcases h with (h | ⟨o, h⟩) | h
  · exact .inl (.inl (e _ _ h))
  · exact .inl (.inr ⟨o, e _ _ h⟩)
  · exact .inr h
section
variable {K : PySem.W.Frag} {B B' : Hp}
mutual
theorem Dat.up (e : Same B B') : ∀ {v : V} {d : PyData}, Dat K B v d → Dat K B' v d
  | _, _, .non => .non
  | _, _, .bl b => .bl b
  | _, _, .int i => .int i
  | _, _, .str x => .str x
  | _, _, .lst h t => .lst (e _ _ h) (DatAll.up e t)
  | _, _, .tup h t => .tup (e.tup h) (DatAll.up e t)
theorem DatAll.up (e : Same B B') : ∀ {vs : List V} {ds : List PyData}, DatAll K B vs ds → DatAll K B' vs ds
  | _, _, .nil => .nil
  | _, _, .cons h t => .cons (Dat.up e h) (DatAll.up e t)
end
mutual
theorem Dat.dp : ∀ {v : V} {d : PyData}, Dat K B v d → Dp K B v d
  | _, _, .non => .non
  | _, _, .bl b => .bl b
  | _, _, .int i => .int i
  | _, _, .str x => .str x
  | _, _, .lst h t => .lst (SqL.of h) (DatAll.dp t)
  | _, _, .tup h t => .tup h (DatAll.dp t)
theorem DatAll.dp : ∀ {vs : List V} {ds : List PyData}, DatAll K B vs ds → DpAll K B vs ds
  | _, _, .nil => .nil
  | _, _, .cons h t => .cons (Dat.dp h) (DatAll.dp t)
end
theorem DatAll.len : ∀ {vs : List V} {ds : List PyData}, DatAll K B vs ds → vs.length = ds.length
  | _, _, .nil => rfl
  | _, _, .cons _ t => congrArg (· + 1) (DatAll.len t)
theorem DatAll.get : ∀ {vs : List V} {ds : List PyData} {i : Nat} {d : PyData}, DatAll K B vs ds → ds[i]? = some d → ∃ v, vs[i]? = some v ∧ Dat K B v d
  | _, _, _, _, .nil, h => by simp at h
  | _, _, 0, _, .cons h _, e => by
    cases (show some _ = some _ from e)
    exact ⟨_, rfl, h⟩
  | _, _, i + 1, _, .cons _ t, e => DatAll.get (i := i) t e
theorem DatAll.getV : ∀ {vs : List V} {ds : List PyData} {i : Nat} {v : V}, DatAll K B vs ds → vs[i]? = some v → ∃ d, ds[i]? = some d ∧ Dat K B v d
  | _, _, _, _, .nil, h => by simp at h
  | _, _, 0, _, .cons h _, e => by
    cases (show some _ = some _ from e)
    exact ⟨_, rfl, h⟩
  | _, _, i + 1, _, .cons _ t, e => DatAll.getV (i := i) t e
theorem DatAll.append : ∀ {vs ws : List V} {ds es : List PyData}, DatAll K B vs ds → DatAll K B ws es → DatAll K B (vs ++ ws) (ds ++ es)
  | _, _, _, _, .nil, h => h
  | _, _, _, _, .cons a t, h => .cons a (DatAll.append t h)
theorem DatAll.take : ∀ {vs : List V} {ds : List PyData} (n : Nat), DatAll K B vs ds → DatAll K B (vs.take n) (ds.take n)
  | _, _, 0, _ => .nil
  | _, _, _ + 1, .nil => .nil
  | _, _, n + 1, .cons a t => .cons a (DatAll.take n t)
theorem DatAll.drop : ∀ {vs : List V} {ds : List PyData} (n : Nat), DatAll K B vs ds → DatAll K B (vs.drop n) (ds.drop n)
  | _, _, 0, h => h
  | _, _, _ + 1, .nil => .nil
  | _, _, n + 1, .cons a t => DatAll.drop n t
theorem DatAll.rev : ∀ {vs : List V} {ds : List PyData}, DatAll K B vs ds → DatAll K B vs.reverse ds.reverse
  | _, _, .nil => .nil
  | _, _, .cons a t => by
    rw [List.reverse_cons, List.reverse_cons]
    exact (DatAll.rev t).append (.cons a .nil)
theorem DatAll.setAt : ∀ {vs : List V} {ds : List PyData} {v : V} {d : PyData} (n : Nat), DatAll K B vs ds → Dat K B v d → DatAll K B (vs.set n v) (ds.set n d)
  | _, _, _, _, _, .nil, _ => .nil
  | _, _, _, _, 0, .cons _ t, h => .cons h t
  | _, _, _, _, n + 1, .cons a t, h => .cons a (DatAll.setAt n t h)
theorem DatAll.dropLast {vs : List V} {ds : List PyData} (h : DatAll K B vs ds) : DatAll K B vs.dropLast ds.dropLast := by
  rw [List.dropLast_eq_take, List.dropLast_eq_take, h.len]
  exact h.take _
theorem DatAll.erase : ∀ {vs : List V} {ds : List PyData} (n : Nat), DatAll K B vs ds → DatAll K B (vs.eraseIdx n) (ds.eraseIdx n)
  | _, _, _, .nil => .nil
  | _, _, 0, .cons _ t => t
  | _, _, n + 1, .cons a t => .cons a (DatAll.erase n t)
theorem DatAll.ints : ∀ ns : List Int, DatAll K B (ns.map V.int) (ns.map PyData.int)
  | [] => .nil
  | n :: r => .cons (.int n) (DatAll.ints r)
end

/-! ### the heap grows; one deal may turn -/
def Off (dl : Option (Addr × Addr)) (x : Addr) : Prop := ∀ p, dl = some p → x ≠ p.1 ∧ x ≠ p.2
theorem off_none {x : Addr} : Off none x := fun _ h => nomatch h
def DealOk (dl : Option (Addr × Addr)) (H : Hp) : Prop := ∀ p, dl = some p → p.1 ≠ p.2 ∧ ∃ (g : List Int) (b : Int), H p.1 = some (.lst [.ref p.2, .int b]) ∧ H p.2 = some (.lst (g.map V.int)) ∧ g.length ≤ 1000 ∧ (∀ x ∈ g, 0 ≤ x) ∧ 0 ≤ b ∧ b < 2147483647
theorem deal_none {H : Hp} : DealOk none H := fun _ h => nomatch h
theorem DealOk.up {dl : Option (Addr × Addr)} {H H' : Hp} (h : DealOk dl H) (e : Same H H') : DealOk dl H' := fun p hp => by
  obtain ⟨n, g, b, h1, h2, h3⟩ := h p hp
  exact ⟨n, g, b, e _ _ h1, e _ _ h2, h3⟩
structure Grow (dl : Option (Addr × Addr)) (B H B' H' : Hp) : Prop where
  bb : Same B B'
  bh : Same B' H'
  hh : ∀ x o, Off dl x → H x = some o → H' x = some o
  nw : ∀ x o, B' x = some o → B x = some o ∨ H x = none
  dk : DealOk dl H'
theorem Grow.refl {dl : Option (Addr × Addr)} {B H : Hp} (h : Same B H) (d : DealOk dl H) : Grow dl B H B H := ⟨Same.refl _, h, fun _ _ _ e => e, fun _ _ e => .inl e, d⟩
theorem off_of {dl : Option (Addr × Addr)} {H : Hp} (d : DealOk dl H) {x : Addr} (h : H x = none) : Off dl x := fun p hp => by
  obtain ⟨_, g, b, h1, h2, _⟩ := d p hp
  refine ⟨fun e => ?_, fun e => ?_⟩
  · rw [e, h1] at h; cases h
  · rw [e, h2] at h; cases h
theorem Grow.trans {dl : Option (Addr × Addr)} {B H B' H' B'' H'' : Hp} (a : Grow dl B H B' H') (b : Grow dl B' H' B'' H'') : Grow dl B H B'' H'' :=
  ⟨a.bb.trans b.bb, b.bh, fun x o f e => b.hh x o f (a.hh x o f e), (fun x o e => by
    rcases b.nw x o e with h | h
    · exact a.nw x o h
    · refine .inr ?_
      cases q : H x with
      | none => rfl
      | some u =>
        have := a.hh x u (off_of a.dk h) q
        rw [h] at this
        cases this), b.dk⟩
/-- all the heap stays: nothing of a deal turned -/
theorem Grow.same {dl : Option (Addr × Addr)} {B H B' H' : Hp} (g : Grow none B H B' H') (d : DealOk dl H) : Grow dl B H B' H' :=
  ⟨g.bb, g.bh, fun x o _ e => g.hh x o off_none e, g.nw, d.up fun x o e => g.hh x o off_none e⟩
theorem Grow.all {B H B' H' : Hp} (g : Grow none B H B' H') : Same H H' := fun x o e => g.hh x o off_none e
/-- a new object -/
theorem Grow.new {dl : Option (Addr × Addr)} {B H : Hp} {p : Addr} {o : HO} (h : Same B H) (d : DealOk dl H) (n : H p = none) : Grow dl B H (upd B p o) (upd H p o) := by
  have nB : B p = none := h.free n
  have sH : Same H (upd H p o) := fun x u e => by rw [upd_ne (ne_of_none e n)]; exact e
  refine ⟨(fun x u e => by rw [upd_ne (ne_of_none e nB)]; exact e), fun x u e => ?_, fun x u _ e => sH x u e, fun x u e => ?_, d.up sH⟩
  · by_cases hx : x = p
    · subst hx; rw [upd_same] at e ⊢; exact e
    · rw [upd_ne hx] at e ⊢; exact h _ _ e
  · by_cases hx : x = p
    · subst hx; exact .inr n
    · rw [upd_ne hx] at e; exact .inl e
/-- a new object that isn't in the stable part yet -/
theorem Grow.newO {dl : Option (Addr × Addr)} {B H : Hp} {p : Addr} {o : HO} (h : Same B H) (d : DealOk dl H) (n : H p = none) : Grow dl B H B (upd H p o) := by
  have sH : Same H (upd H p o) := fun x u e => by rw [upd_ne (ne_of_none e n)]; exact e
  exact ⟨Same.refl _, fun x u e => sH _ _ (h _ _ e), fun x u _ e => sH x u e, fun _ _ e => .inl e, d.up sH⟩

/-! ### slots -/
inductive Sl where
  | no
  | dat (d : PyData)
  | own (ds : List PyData)
  | scr (ns : List Int)
  | dic (ps : List (Str × PyData))
  | deal
def Sl.isOwn : Sl → Bool
  | .own _ => true
  | _ => false
def SlOk (K : PySem.W.Frag) (dl : Option (Addr × Addr)) (H0 B H : Hp) : Sl → Option (Option V) → Prop
  | .no, _ => True
  | .dat d, o => ∃ v, o = some (some v) ∧ Dat K B v d
  | .own ds, o => ∃ a vs, o = some (some (.ref a)) ∧ H a = some (.lst vs) ∧ B a = none ∧ H0 a = none ∧ Off dl a ∧ DatAll K B vs ds
  | .scr ns, o => ∃ a, o = some (some (.ref a)) ∧ SqL K B a (ns.map V.int)
  | .dic ps, o => ∃ (a : Addr) (kvs : List (Key × V)), o = some (some (.ref a)) ∧ B a = some (.dK kvs) ∧ ∀ k d, ps.lookup k = some d → ∃ v, valV kvs (.inr k) = some v ∧ Dat K B v d
  | .deal, o => ∃ p, dl = some p ∧ o = some (some (.ref p.1))
structure EnvOk (K : PySem.W.Frag) (dl : Option (Addr × Addr)) (B0 H0 B : Hp) (σ : L2.St) (H : Hp) (ρ : List Sl) : Prop where
  len : σ.length = ρ.length
  fr : Grow dl B0 H0 B H
  av : ∀ p, dl = some p → B p.1 = none ∧ B p.2 = none
  sl : ∀ (i : Nat) (s : Sl), ρ[i]? = some s → SlOk K dl H0 B H s (σ[i]?)
  sep : ∀ (i j : Nat) (s t : Sl) (a : Addr), i ≠ j → ρ[i]? = some s → ρ[j]? = some t → s.isOwn = true → t.isOwn = true → σ[i]? = some (some (.ref a)) → σ[j]? = some (some (.ref a)) → False
section
variable {K : PySem.W.Frag} {dl : Option (Addr × Addr)} {B0 H0 B B' H H' : Hp} {σ : L2.St} {ρ : List Sl}
theorem EnvOk.bh (e : EnvOk K dl B0 H0 B σ H ρ) : Same B H := e.fr.bh
theorem EnvOk.dk (e : EnvOk K dl B0 H0 B σ H ρ) : DealOk dl H := e.fr.dk
theorem EnvOk.self (e : EnvOk K dl B0 H0 B σ H ρ) : Grow dl B H B H := .refl e.bh e.dk
theorem EnvOk.grow (e : EnvOk K dl B0 H0 B σ H ρ) (g : Grow dl B H B' H') : EnvOk K dl B0 H0 B' σ H' ρ := by
  refine ⟨e.len, e.fr.trans g, fun p hp => ?_, fun i s h => ?_, e.sep⟩
  · obtain ⟨_, gg, b, h1, h2, _⟩ := e.dk p hp
    obtain ⟨a1, a2⟩ := e.av p hp
    constructor
    · cases q : B' p.1 with
      | none => rfl
      | some o =>
        rcases g.nw _ _ q with h | h
        · rw [a1] at h; cases h
        · rw [h1] at h; cases h
    · cases q : B' p.2 with
      | none => rfl
      | some o =>
        rcases g.nw _ _ q with h | h
        · rw [a2] at h; cases h
        · rw [h2] at h; cases h
  · have z := e.sl i s h
    cases s with
    | no => trivial
    | dat d => obtain ⟨v, h1, h2⟩ := z; exact ⟨v, h1, h2.up g.bb⟩
    | own ds =>
      obtain ⟨a, vs, h1, h2, h3, h4, h5, h6⟩ := z
      refine ⟨a, vs, h1, g.hh _ _ h5 h2, ?_, h4, h5, h6.up g.bb⟩
      cases q : B' a with
      | none => rfl
      | some o =>
        rcases g.nw _ _ q with h | h
        · rw [h3] at h; cases h
        · rw [h2] at h; cases h
    | scr ns => obtain ⟨a, h1, h2⟩ := z; exact ⟨a, h1, g.bb.seq h2⟩
    | dic ps => obtain ⟨a, kvs, h1, h2, h3⟩ := z; exact ⟨a, kvs, h1, g.bb _ _ h2, fun k d q => let ⟨v, e1, e2⟩ := h3 k d q; ⟨v, e1, e2.up g.bb⟩⟩
    | deal => exact z
/-- a slot takes what is no list of one's own -/
theorem EnvOk.setN {i : Nat} {v : V} {t : Sl} (e : EnvOk K dl B0 H0 B σ H ρ) (ht : t.isOwn = false) (h : SlOk K dl H0 B H t (some (some v))) : EnvOk K dl B0 H0 B (σ.set i (some v)) H (ρ.set i t) := by
  refine ⟨by rw [List.length_set, List.length_set, e.len], e.fr, e.av, fun j s hj => ?_, fun j k s t' a n hj hk os ot es et => ?_⟩
  · by_cases hij : i = j
    · subst hij
      have hl : i < ρ.length := by have := (List.getElem?_eq_some_iff.mp hj).1; simpa using this
      rw [List.getElem?_set_self hl] at hj
      cases hj
      rw [List.getElem?_set_self (by rw [e.len]; exact hl)]
      exact h
    · rw [List.getElem?_set_ne hij] at hj ⊢
      exact e.sl j s hj
  · have f : ∀ {m : Nat} {u : Sl}, (ρ.set i t)[m]? = some u → u.isOwn = true → i ≠ m ∧ ρ[m]? = some u := fun {m u} hm hu => by
      by_cases him : i = m
      · subst him
        have hl : i < ρ.length := by have := (List.getElem?_eq_some_iff.mp hm).1; simpa using this
        rw [List.getElem?_set_self hl] at hm
        cases hm
        rw [ht] at hu
        cases hu
      · exact ⟨him, by rw [List.getElem?_set_ne him] at hm; exact hm⟩
    obtain ⟨n1, e1⟩ := f hj os
    obtain ⟨n2, e2⟩ := f hk ot
    rw [List.getElem?_set_ne n1] at es
    rw [List.getElem?_set_ne n2] at et
    exact e.sep j k s t' a n e1 e2 os ot es et
/-- a slot takes data -/
theorem EnvOk.setD {i : Nat} {v : V} {d : PyData} (e : EnvOk K dl B0 H0 B σ H ρ) (h : Dat K B v d) : EnvOk K dl B0 H0 B (σ.set i (some v)) H (ρ.set i (.dat d)) := e.setN rfl ⟨v, rfl, h⟩
/-- a slot takes a new list of its own -/
theorem EnvOk.setO {i : Nat} {a : Addr} {vs : List V} {ds : List PyData} (e : EnvOk K dl B0 H0 B σ H ρ) (h : H a = some (.lst vs)) (hB : B a = none) (h0 : H0 a = none) (hf : Off dl a) (hd : DatAll K B vs ds)
    (hn : ∀ j s, j ≠ i → ρ[j]? = some s → s.isOwn = true → σ[j]? ≠ some (some (.ref a))) : EnvOk K dl B0 H0 B (σ.set i (some (.ref a))) H (ρ.set i (.own ds)) := by
  refine ⟨by rw [List.length_set, List.length_set, e.len], e.fr, e.av, fun j s hj => ?_, fun j k s t b n hj hk os ot es et => ?_⟩
  · by_cases hij : i = j
    · subst hij
      have hl : i < ρ.length := by have := (List.getElem?_eq_some_iff.mp hj).1; simpa using this
      rw [List.getElem?_set_self hl] at hj
      cases hj
      exact ⟨a, vs, by rw [List.getElem?_set_self (by rw [e.len]; exact hl)], h, hB, h0, hf, hd⟩
    · rw [List.getElem?_set_ne hij] at hj ⊢
      exact e.sl j s hj
  · have at_i : ∀ {u : Sl}, (ρ.set i (.own ds))[i]? = some u → i < ρ.length := fun hm => by have := (List.getElem?_eq_some_iff.mp hm).1; simpa using this
    by_cases h1 : i = j
    · subst h1
      by_cases h2 : i = k
      · exact n h2
      · rw [List.getElem?_set_ne h2] at hk et
        rw [List.getElem?_set_self (by rw [e.len]; exact at_i hj)] at es
        cases es
        exact hn k t (Ne.symm h2) hk ot et
    · by_cases h2 : i = k
      · subst h2
        rw [List.getElem?_set_ne h1] at hj es
        rw [List.getElem?_set_self (by rw [e.len]; exact at_i hk)] at et
        cases et
        exact hn j s (Ne.symm h1) hj os es
      · rw [List.getElem?_set_ne h1] at hj es
        rw [List.getElem?_set_ne h2] at hk et
        exact e.sep j k s t b n hj hk os ot es et
end
end Lay

namespace Lay
open PySem PySem.Spec PyProof.Rows L2

/-! ### what expressions mean over data -/
abbrev WE := List Sl → (PyData → Prop) → Prop
abbrev WB := List Sl → (Bool → Prop) → Prop
abbrev WA := List Sl → (List PyData → Prop) → Prop
abbrev DL := Option (Addr × Addr)

/-- what stands off the deal -/
noncomputable def offH (dl : DL) (H : Hp) : Hp := fun x => open Classical in if Off dl x then H x else none
theorem offH_le {dl : DL} {H : Hp} : Same (offH dl H) H := fun x o e => by
  unfold offH at e
  split at e
  · exact e
  · cases e
theorem offH_up {dl : DL} {H H' : Hp} (h : ∀ x o, Off dl x → H x = some o → H' x = some o) : Same (offH dl H) (offH dl H') := fun x o e => by
  unfold offH at e ⊢
  split at e
  · rename_i hx
    rw [if_pos hx]
    exact h x o hx e
  · cases e
theorem offH_at {dl : DL} {H : Hp} {x : Addr} (h : Off dl x) : offH dl H x = H x := by
  unfold offH
  rw [if_pos h]

section
variable (K : PySem.W.Frag) (dl : DL)
def SE (te : TE) (we : WE) : Prop := ∀ B0 H0 B σ H ρ P Q, we ρ P → EnvOk K dl B0 H0 B σ H ρ → (∀ v B' H' d, P d → Grow dl B H B' H' → Dat K B' v d → Q v H') → te σ H Q
/-- a look: the value as it stands now, lists that are still one's own among it -/
def SV (te : TE) (we : WE) : Prop := ∀ B0 H0 B σ H ρ P Q, we ρ P → EnvOk K dl B0 H0 B σ H ρ → (∀ v B' H' d, P d → Grow dl B H B' H' → Dat K (offH dl H') v d → Q v H') → te σ H Q
/-- a new list -/
def SO (te : TE) (wa : WA) : Prop := ∀ B0 H0 B σ H ρ P Q, wa ρ P → EnvOk K dl B0 H0 B σ H ρ → (∀ p vs B' H' ds, P ds → Grow dl B H B' H' → H p = none → B' p = none → H' p = some (.lst vs) → DatAll K B' vs ds → Q (.ref p) H') → te σ H Q
def ST (tt : TT) (wb : WB) : Prop := ∀ B0 H0 B σ H ρ P Q, wb ρ P → EnvOk K dl B0 H0 B σ H ρ → (∀ b B' H', P b → Grow dl B H B' H' → Q b H') → tt σ H Q
def SA (ta : TA) (wa : WA) : Prop := ∀ B0 H0 B σ H ρ P Q, wa ρ P → EnvOk K dl B0 H0 B σ H ρ → (∀ vs B' H' ds, P ds → Grow dl B H B' H' → DatAll K B' vs ds → Q vs H') → ta σ H Q
def SAV (ta : TA) (wa : WA) : Prop := ∀ B0 H0 B σ H ρ P Q, wa ρ P → EnvOk K dl B0 H0 B σ H ρ → (∀ vs B' H' ds, P ds → Grow dl B H B' H' → DatAll K (offH dl H') vs ds → Q vs H') → ta σ H Q
end
def QE (X : Cx) (dl : DL) (e : Expr) (we : WE) : Prop := ∃ te, PE X e te ∧ SE X.K dl te we
def QV (X : Cx) (dl : DL) (e : Expr) (we : WE) : Prop := ∃ te, PE X e te ∧ SV X.K dl te we
def QO (X : Cx) (dl : DL) (e : Expr) (wa : WA) : Prop := ∃ te, PE X e te ∧ SO X.K dl te wa
def QT (X : Cx) (dl : DL) (e : Expr) (wb : WB) : Prop := ∃ tt, PT X e tt ∧ ST X.K dl tt wb
def QW (X : Cx) (dl : DL) (e : Expr) (wb : WB) : Prop := ∃ tt, PW X e tt ∧ ST X.K dl tt wb
def QA (X : Cx) (dl : DL) (es : List Expr) (wa : WA) : Prop := ∃ ta, PA X es ta ∧ SA X.K dl ta wa
def QAV (X : Cx) (dl : DL) (es : List Expr) (wa : WA) : Prop := ∃ ta, PA X es ta ∧ SAV X.K dl ta wa

/-! the words -/
def wVar (i : Nat) : WE := fun ρ P => ∃ d, ρ[i]? = some (.dat d) ∧ P d
def wLook (i : Nat) : WE := fun ρ P => ∃ d, (ρ[i]? = some (.dat d) ∨ ∃ ds, ρ[i]? = some (.own ds) ∧ d = .list ds) ∧ P d
def wC (d : PyData) : WE := fun _ P => P d
def wOp (w : PyData → PyData → (PyData → Prop) → Prop) (wa wb : WE) : WE := fun ρ P => wa ρ fun d => wb ρ fun e => w d e P
def wUn (w : PyData → (PyData → Prop) → Prop) (wa : WE) : WE := fun ρ P => wa ρ fun d => w d P
def wCmp (w : PyData → PyData → (Bool → Prop) → Prop) (wa wb : WE) : WB := fun ρ P => wa ρ fun d => wb ρ fun e => w d e P
def wBool (w : WB) : WE := fun ρ P => w ρ fun b => P (.bool b)
def wTest (w : WE) : WB := fun ρ P => w ρ fun d => ∃ b, d = .bool b ∧ P b
def wAnd (a b : WB) : WB := fun ρ P => a ρ fun c => if c = true then b ρ P else P false
def wOr (a b : WB) : WB := fun ρ P => a ρ fun c => if c = true then P true else b ρ P
def wNot (a : WB) : WB := fun ρ P => a ρ fun c => P (!c)
def wAndV (a b : WE) : WE := fun ρ P => a ρ fun d => ∃ c, d = .bool c ∧ if c = true then b ρ P else P (.bool false)
def wOrV (a b : WE) : WE := fun ρ P => a ρ fun d => ∃ c, d = .bool c ∧ if c = true then P (.bool true) else b ρ P
def wNotV (a : WE) : WE := fun ρ P => a ρ fun d => ∃ c, d = .bool c ∧ P (.bool (!c))
def wIf (c : WB) (a b : WE) : WE := fun ρ P => c ρ fun k => if k = true then a ρ P else b ρ P
def wNil : WA := fun _ P => P []
def wCons (a : WE) (r : WA) : WA := fun ρ P => a ρ fun d => r ρ fun ds => P (d :: ds)
def wTup (a : WA) : WE := fun ρ P => a ρ fun ds => ds.length ≤ 100000 ∧ P (.tuple ds)
def wLst (a : WA) : WA := fun ρ P => a ρ fun ds => ds.length ≤ 100000 ∧ P ds
def wOfO (a : WA) : WE := fun ρ P => a ρ fun ds => P (.list ds)
/-- a def's call, a built-in's -/
def wFn (w : List PyData → (PyData → Prop) → Prop) (a : WA) : WE := fun ρ P => a ρ fun ds => w ds P

section
variable {X : Cx} {dl : DL} {K : PySem.W.Frag}
theorem small_line {n : Nat} (h : n ≤ 100000) : n ≤ sizeLine := Nat.le_trans h (by decide)
theorem EnvOk.off {B0 H0 B H : Hp} {σ : L2.St} {ρ : List Sl} (e : EnvOk K dl B0 H0 B σ H ρ) : Same B (offH dl H) := fun x o h => by
  rw [offH_at (fun p hp => ⟨fun z => ?_, fun z => ?_⟩)]
  · exact e.bh _ _ h
  · rw [z, (e.av p hp).1] at h; cases h
  · rw [z, (e.av p hp).2] at h; cases h
theorem Grow.off {B H B' H' : Hp} (g : Grow dl B H B' H') : Same (offH dl H) (offH dl H') := offH_up g.hh
theorem se_sv {te : TE} {we : WE} (h : SE K dl te we) : SV K dl te we := fun B0 H0 B σ H ρ P Q hw e k => h B0 H0 B σ H ρ P Q hw e fun v B' H' d hp g hd => k v B' H' d hp g (hd.up (e.grow g).off)
theorem q_look {e : Expr} {we : WE} (h : QE X dl e we) : QV X dl e we := h.elim fun te h => ⟨te, h.1, se_sv h.2⟩
theorem so_se {te : TE} {wa : WA} (h : SO K dl te wa) : SE K dl te (wOfO wa) := fun B0 H0 B σ H ρ P Q hw e k => h B0 H0 B σ H ρ _ Q hw e fun p vs B' H' ds hp g h1 h2 h3 h4 => by
  have sub : Same B' (upd B' p (.lst vs)) := fun x o e => by rw [upd_ne (ne_of_none e h2)]; exact e
  refine k (.ref p) (upd B' p (.lst vs)) H' (.list ds) hp ⟨g.bb.trans sub, fun x o e => ?_, g.hh, fun x o e => ?_, g.dk⟩ (.lst upd_same (h4.up sub))
  · by_cases hx : x = p
    · subst hx; rw [upd_same] at e; rw [h3]; exact e
    · rw [upd_ne hx] at e; exact g.bh _ _ e
  · by_cases hx : x = p
    · subst hx; exact .inr h1
    · rw [upd_ne hx] at e; exact g.nw _ _ e
theorem q_ofO {e : Expr} {wa : WA} (h : QO X dl e wa) : QE X dl e (wOfO wa) := h.elim fun te h => ⟨te, h.1, so_se h.2⟩

theorem q_var {i : Nat} {x : Str} {pos : Pos} (h : PE X (.Name x pos) (tVar i)) : QE X dl (.Name x pos) (wVar i) :=
  ⟨_, h, fun B0 H0 B σ H ρ P Q ⟨d, hr, hp⟩ e k => (e.sl i _ hr).elim fun v ⟨h1, h2⟩ => ⟨v, h1, k v B H d hp e.self h2⟩⟩
theorem q_own {i : Nat} {x : Str} {pos : Pos} (h : PE X (.Name x pos) (tVar i)) : QV X dl (.Name x pos) (wLook i) := by
  refine ⟨_, h, ?_⟩
  rintro B0 H0 B σ H ρ P Q ⟨d, hr | ⟨ds, hr, rfl⟩, hp⟩ e k
  · obtain ⟨v, h1, h2⟩ := e.sl i _ hr
    exact ⟨v, h1, k v B H d hp e.self (h2.up e.off)⟩
  · obtain ⟨a, vs, h1, h2, h3, h4, h5, h6⟩ := e.sl i _ hr
    exact ⟨.ref a, h1, k _ B H _ hp e.self (.lst (by rw [offH_at h5]; exact h2) (h6.up e.off))⟩

/-! constants -/
theorem q_int {i : Int} {j : Nat} {pos : Pos} : QE X dl (.Constant (.int i) j pos) (wC (.int i)) := ⟨_, pe_int, fun _ _ _ _ _ _ _ _ hw e k => k _ _ _ _ hw e.self (.int i)⟩
theorem q_bl {b : Bool} {j : Nat} {pos : Pos} : QE X dl (.Constant (.bool b) j pos) (wC (.bool b)) := ⟨_, pe_bl, fun _ _ _ _ _ _ _ _ hw e k => k _ _ _ _ hw e.self (.bl b)⟩
theorem q_non {j : Nat} {pos : Pos} : QE X dl (.Constant .none j pos) (wC .none) := ⟨_, pe_non, fun _ _ _ _ _ _ _ _ hw e k => k _ _ _ _ hw e.self .non⟩
theorem q_str {x : Str} {j : Nat} {pos : Pos} : QE X dl (.Constant (.str x) j pos) (wC (.str x)) := ⟨_, pe_str, fun _ _ _ _ _ _ _ _ hw e k => k _ _ _ _ hw e.self (.str x)⟩
/-- a constant of the module -/
theorem q_glob {x : Str} {u : Value} {v : V} {d : PyData} {pos : Pos} (hg : Gl X x) (hm : X.mg x = some u) (r : RelV v u) (h : ∀ B, Dat X.K B v d) (hd : (x == ("__debug__" : Str)) = false := by decide) : QE X dl (.Name x pos) (wC d) :=
  ⟨_, pe_glob hg hm r hd, fun _ _ _ _ _ _ _ _ hw e k => k _ _ _ _ hw e.self (h _)⟩

/-! operators by values -/
def RD (K : PySem.W.Frag) (dl : DL) (r : R2) (w : PyData → PyData → (PyData → Prop) → Prop) : Prop := ∀ (x y : V) (d e : PyData) (P : PyData → Prop) (B H : Hp) (Q : VK), w d e P → Dat K B x d → Dat K B y e → Same B H → DealOk dl H → (∀ v B' H' d', P d' → Grow dl B H B' H' → Dat K B' v d' → Q v H') → r x y H Q
/-- a comparison: the heap stays -/
def RB (K : PySem.W.Frag) (r : R2) (w : PyData → PyData → (Bool → Prop) → Prop) : Prop := ∀ (x y : V) (d e : PyData) (P : Bool → Prop) (H : Hp) (Q : VK), w d e P → Dat K H x d → Dat K H y e → (∀ b, P b → Q (.bl b) H) → r x y H Q
variable {a b c : Expr} {wa wb wc : WE} {pos : Pos} {r : R2}
theorem q_op {op : Operator} {w : PyData → PyData → (PyData → Prop) → Prop} (ho : OpR X (binaryOp op) r) (hr : RD X.K dl r w) (ha : QE X dl a wa) (hb : QE X dl b wb) : QE X dl (.BinOp a op b pos) (wOp w wa wb) := by
  obtain ⟨ta, pa, sa⟩ := ha
  obtain ⟨tb, pb, sb⟩ := hb
  refine ⟨_, pe_op ho pa pb, fun B0 H0 B σ H ρ P Q hw e k => sa B0 H0 B σ H ρ _ _ hw e fun v B1 H1 d hp g1 h1 => ?_⟩
  refine sb B0 H0 B1 σ H1 ρ _ _ hp (e.grow g1) fun u B2 H2 f hq g2 h2 => ?_
  exact hr v u d f P B2 H2 Q hq (h1.up g2.bb) h2 g2.bh g2.dk fun v' B3 H3 d' hp' g3 h3 => k v' B3 H3 d' hp' ((g1.trans g2).trans g3) h3
theorem sv_cmp {w : PyData → PyData → (Bool → Prop) → Prop} {ta tb : TE} (hr : RB K r w) (sa : SV K dl ta wa) (sb : SV K dl tb wb) {B0 H0 B : Hp} {σ : L2.St} {H : Hp} {ρ : List Sl} {P : Bool → Prop} {Q : VK} (hw : wCmp w wa wb ρ P) (e : EnvOk K dl B0 H0 B σ H ρ)
    (k : ∀ b B' H', P b → Grow dl B H B' H' → Q (.bl b) H') : tOp r ta tb σ H Q :=
  sa B0 H0 B σ H ρ _ _ hw e fun v B1 H1 d hp g1 h1 => sb B0 H0 B1 σ H1 ρ _ _ hp (e.grow g1) fun u B2 H2 f hq g2 h2 =>
    hr v u d f P H2 Q hq ((h1.up g2.off).up offH_le) (h2.up offH_le) fun b hb => k b B2 H2 hb (g1.trans g2)
theorem q_cmp {op : CmpOp} {w : PyData → PyData → (Bool → Prop) → Prop} (ho : OpR X (compareOp op) r) (hr : RB X.K r w) (ha : QV X dl a wa) (hb : QV X dl b wb) (hm : behindInMarks op b = false) : QE X dl (.Compare a [op] [b] pos) (wBool (wCmp w wa wb)) := by
  obtain ⟨ta, pa, sa⟩ := ha
  obtain ⟨tb, pb, sb⟩ := hb
  exact ⟨_, pe_cmpR ho pa pb hm, fun B0 H0 B σ H ρ P Q hw e k => sv_cmp hr sa sb hw e fun b B' H' hp g => k _ B' H' _ hp g (.bl b)⟩
theorem t_cmp {op : CmpOp} {w : PyData → PyData → (Bool → Prop) → Prop} (ho : OpR X (compareOp op) r) (hr : RB X.K r w) (ha : QV X dl a wa) (hb : QV X dl b wb) (hm : behindInMarks op b = false) : QT X dl (.Compare a [op] [b] pos) (wCmp w wa wb) := by
  obtain ⟨ta, pa, sa⟩ := ha
  obtain ⟨tb, pb, sb⟩ := hb
  exact ⟨_, pt_cmpR ho pa pb hm, fun B0 H0 B σ H ρ P Q hw e k => sv_cmp hr sa sb hw e fun b B' H' hp g => ⟨b, rfl, k b B' H' hp g⟩⟩
theorem t_val {e : Expr} {we : WE} (h : QE X dl e we) (he : ∀ whole, isTrue e X.env whole = (do let v ← whole; standAt e.pos; holding [v] (truthy v)) := by intro _; rfl) : QT X dl e (wTest we) := by
  obtain ⟨te, pe, se⟩ := h
  refine ⟨_, pt_val pe he, fun B0 H0 B σ H ρ P Q hw e k => se B0 H0 B σ H ρ _ _ hw e ?_⟩
  rintro v B' H' d ⟨b, rfl, hp⟩ g hd
  cases hd
  exact ⟨b, rfl, k b B' H' hp g⟩

/-! and, or, not, if -/
variable {wt wu : WB} {rest : List Expr}
theorem st_and {t u : TT} (h1 : ST K dl t wt) (h2 : ST K dl u wu) : ST K dl (tAnd t u) (wAnd wt wu) := fun B0 H0 B σ H ρ P Q hw e k => h1 B0 H0 B σ H ρ _ _ hw e fun b B1 H1 hp g => by
  cases b with
  | true => exact h2 B0 H0 B1 σ H1 ρ P Q hp (e.grow g) fun b' B2 H2 hb g2 => k b' B2 H2 hb (g.trans g2)
  | false => exact k false B1 H1 hp g
theorem st_or {t u : TT} (h1 : ST K dl t wt) (h2 : ST K dl u wu) : ST K dl (tOr t u) (wOr wt wu) := fun B0 H0 B σ H ρ P Q hw e k => h1 B0 H0 B σ H ρ _ _ hw e fun b B1 H1 hp g => by
  cases b with
  | false => exact h2 B0 H0 B1 σ H1 ρ P Q hp (e.grow g) fun b' B2 H2 hb g2 => k b' B2 H2 hb (g.trans g2)
  | true => exact k true B1 H1 hp g
theorem w_and1 (h : QT X dl a wt) : QW X dl (.BoolOp .And [a] pos) wt := h.elim fun t h => ⟨t, pw_and1 h.1, h.2⟩
theorem w_or1 (h : QT X dl a wt) : QW X dl (.BoolOp .Or [a] pos) wt := h.elim fun t h => ⟨t, pw_or1 h.1, h.2⟩
theorem w_and (h1 : QT X dl a wt) (h2 : QW X dl (.BoolOp .And (b :: rest) pos) wu) : QW X dl (.BoolOp .And (a :: b :: rest) pos) (wAnd wt wu) := h1.elim fun t h1 => h2.elim fun u h2 => ⟨_, pw_and h1.1 h2.1, st_and h1.2 h2.2⟩
theorem w_or (h1 : QT X dl a wt) (h2 : QW X dl (.BoolOp .Or (b :: rest) pos) wu) : QW X dl (.BoolOp .Or (a :: b :: rest) pos) (wOr wt wu) := h1.elim fun t h1 => h2.elim fun u h2 => ⟨_, pw_or h1.1 h2.1, st_or h1.2 h2.2⟩
theorem t_w (h : QW X dl a wt) : QT X dl a wt := h.elim fun t h => ⟨t, h.1.pt, h.2⟩
theorem t_not (h : QT X dl a wt) : QT X dl (.UnaryOp .Not a pos) (wNot wt) := h.elim fun t h => ⟨_, pt_not h.1, fun B0 H0 B σ H ρ P Q hw e k => h.2 B0 H0 B σ H ρ _ _ hw e fun b B' H' hp g => k _ B' H' hp g⟩
theorem q_one {op : BoolOp} (h : QE X dl a wa) : QE X dl (.BoolOp op [a] pos) wa := h.elim fun t h => ⟨t, pe_one h.1, h.2⟩
theorem q_and (h1 : QE X dl a wa) (h2 : QE X dl (.BoolOp .And (b :: rest) pos) wb) : QE X dl (.BoolOp .And (a :: b :: rest) pos) (wAndV wa wb) := by
  obtain ⟨ta, pa, sa⟩ := h1
  obtain ⟨tb, pb, sb⟩ := h2
  refine ⟨_, pe_and pa pb, fun B0 H0 B σ H ρ P Q hw e k => sa B0 H0 B σ H ρ _ _ hw e ?_⟩
  rintro v B1 H1 d ⟨c, rfl, hp⟩ g hd
  cases hd
  refine ⟨c, rfl, ?_⟩
  cases c with
  | true => exact sb B0 H0 B1 σ H1 ρ P Q hp (e.grow g) fun v' B2 H2 d' hb g2 h2 => k v' B2 H2 d' hb (g.trans g2) h2
  | false => exact k _ B1 H1 _ hp g (.bl false)
theorem q_or (h1 : QE X dl a wa) (h2 : QE X dl (.BoolOp .Or (b :: rest) pos) wb) : QE X dl (.BoolOp .Or (a :: b :: rest) pos) (wOrV wa wb) := by
  obtain ⟨ta, pa, sa⟩ := h1
  obtain ⟨tb, pb, sb⟩ := h2
  refine ⟨_, pe_or pa pb, fun B0 H0 B σ H ρ P Q hw e k => sa B0 H0 B σ H ρ _ _ hw e ?_⟩
  rintro v B1 H1 d ⟨c, rfl, hp⟩ g hd
  cases hd
  refine ⟨c, rfl, ?_⟩
  cases c with
  | false => exact sb B0 H0 B1 σ H1 ρ P Q hp (e.grow g) fun v' B2 H2 d' hb g2 h2 => k v' B2 H2 d' hb (g.trans g2) h2
  | true => exact k _ B1 H1 _ hp g (.bl true)
theorem q_not (h : QE X dl a wa) : QE X dl (.UnaryOp .Not a pos) (wNotV wa) := by
  obtain ⟨ta, pa, sa⟩ := h
  refine ⟨_, pe_not pa, fun B0 H0 B σ H ρ P Q hw e k => sa B0 H0 B σ H ρ _ _ hw e ?_⟩
  rintro v B1 H1 d ⟨c, rfl, hp⟩ g hd
  cases hd
  exact ⟨c, rfl, k _ B1 H1 _ hp g (.bl _)⟩
theorem q_if (hc : QT X dl c wt) (ha : QE X dl a wa) (hb : QE X dl b wb) : QE X dl (.IfExp c a b pos) (wIf wt wa wb) := by
  obtain ⟨tc, pc, sc⟩ := hc
  obtain ⟨ta, pa, sa⟩ := ha
  obtain ⟨tb, pb, sb⟩ := hb
  refine ⟨_, pe_ifExp pc pa pb, fun B0 H0 B σ H ρ P Q hw e k => sc B0 H0 B σ H ρ _ _ hw e fun d B1 H1 hp g => ?_⟩
  cases d with
  | true => exact sa B0 H0 B1 σ H1 ρ P Q hp (e.grow g) fun v' B2 H2 d' hb g2 h2 => k v' B2 H2 d' hb (g.trans g2) h2
  | false => exact sb B0 H0 B1 σ H1 ρ P Q hp (e.grow g) fun v' B2 H2 d' hb g2 h2 => k v' B2 H2 d' hb (g.trans g2) h2

/-! rows of expressions, displays -/
variable {es : List Expr} {ws : WA}
theorem qa_nil : QA X dl [] wNil := ⟨_, pa_nil, fun _ _ _ _ _ _ _ _ hw e k => k [] _ _ [] hw e.self .nil⟩
theorem qa_cons (h : QE X dl a wa) (hr : QA X dl es ws) (hs : starEach (a :: es) X.env = (false, eval a X.env) :: starEach es X.env := by rfl) : QA X dl (a :: es) (wCons wa ws) := by
  obtain ⟨ta, pa, sa⟩ := h
  obtain ⟨tr, pr, sr⟩ := hr
  refine ⟨_, pa_cons pa pr hs, fun B0 H0 B σ H ρ P Q hw e k => sa B0 H0 B σ H ρ _ _ hw e fun v B1 H1 d hp g1 h1 => ?_⟩
  exact sr B0 H0 B1 σ H1 ρ _ _ hp (e.grow g1) fun vs B2 H2 ds hq g2 h2 => k (v :: vs) B2 H2 (d :: ds) hq (g1.trans g2) (.cons (h1.up g2.bb) h2)
theorem qv_nil : QAV X dl [] wNil := ⟨_, pa_nil, fun _ _ _ _ _ _ _ _ hw e k => k [] _ _ [] hw e.self .nil⟩
theorem qv_cons (h : QV X dl a wa) (hr : QAV X dl es ws) (hs : starEach (a :: es) X.env = (false, eval a X.env) :: starEach es X.env := by rfl) : QAV X dl (a :: es) (wCons wa ws) := by
  obtain ⟨ta, pa, sa⟩ := h
  obtain ⟨tr, pr, sr⟩ := hr
  refine ⟨_, pa_cons pa pr hs, fun B0 H0 B σ H ρ P Q hw e k => sa B0 H0 B σ H ρ _ _ hw e fun v B1 H1 d hp g1 h1 => ?_⟩
  exact sr B0 H0 B1 σ H1 ρ _ _ hp (e.grow g1) fun vs B2 H2 ds hq g2 h2 => k (v :: vs) B2 H2 (d :: ds) hq (g1.trans g2) (.cons (h1.up g2.off) h2)
theorem q_tup {x1 : Nat} (h : QA X dl es ws) : QE X dl (.Tuple es x1 pos) (wTup ws) := by
  obtain ⟨ta, pa, sa⟩ := h
  refine ⟨_, pe_tup pa, fun B0 H0 B σ H ρ P Q hw e k => sa B0 H0 B σ H ρ _ _ hw e ?_⟩
  rintro vs B1 H1 ds ⟨hl, hp⟩ g h
  refine ⟨by rw [h.len]; exact small_line hl, fun p np => ?_⟩
  have gn := Grow.new (o := .tup vs) g.bh g.dk np
  exact k _ _ _ _ hp (g.trans gn) (.tup (SqT.of upd_same) (h.up gn.bb))
theorem qo_lst (h : QA X dl es ws) : QO X dl (.List es pos) (wLst ws) := by
  obtain ⟨ta, pa, sa⟩ := h
  refine ⟨_, pe_lst pa, fun B0 H0 B σ H ρ P Q hw e k => sa B0 H0 B σ H ρ _ _ hw e ?_⟩
  rintro vs B1 H1 ds ⟨hl, hp⟩ g h
  refine ⟨by rw [h.len]; exact small_line hl, fun p np => ?_⟩
  have gn := Grow.newO (o := .lst vs) g.bh g.dk np
  refine k p vs B1 _ ds hp (g.trans gn) ?_ (g.bh.free np) upd_same h
  cases q : H p with
  | none => rfl
  | some o =>
    have := g.hh p o (off_of g.dk np) q
    rw [np] at this
    cases this

/-! calls of built-ins -/
/-- one that makes nothing and tells something plain -/
def RC (K : PySem.W.Frag) (r : List V → Hp → VK → Prop) (w : List PyData → (PyData → Prop) → Prop) : Prop := ∀ (xs : List V) (ds : List PyData) (P : PyData → Prop) (H : Hp) (Q : VK), w ds P → DatAll K H xs ds → (∀ v d, P d → (∀ B, Dat K B v d) → Q v H) → r xs H Q
def RCD (K : PySem.W.Frag) (dl : DL) (r : List V → Hp → VK → Prop) (w : List PyData → (PyData → Prop) → Prop) : Prop := ∀ (xs : List V) (ds : List PyData) (P : PyData → Prop) (B H : Hp) (Q : VK), w ds P → DatAll K B xs ds → Same B H → DealOk dl H → (∀ v B' H' d, P d → Grow dl B H B' H' → Dat K B' v d → Q v H') → r xs H Q
def RCO (K : PySem.W.Frag) (dl : DL) (r : List V → Hp → VK → Prop) (w : List PyData → (List PyData → Prop) → Prop) : Prop := ∀ (xs : List V) (ds : List PyData) (P : List PyData → Prop) (B H : Hp) (Q : VK), w ds P → DatAll K B xs ds → Same B H → DealOk dl H → (∀ p vs es, P es → H p = none → DatAll K B vs es → Q (.ref p) (upd H p (.lst vs))) → r xs H Q
variable {rc : List V → Hp → VK → Prop} {x : Str} {p : Pos}
theorem q_blt {id : String} {w : List PyData → (PyData → Prop) → Prop} (hc : CallR X (.builtin id) rc) (hr : RC X.K rc w) (hg : Gl X x) (hm : X.mg x = none) (hv : bootBuiltins x = some (.builtin id)) (ha : QAV X dl (a :: es) ws)
    (hn : x ≠ "__name__" := by decide) (hdb : (x == ("__debug__" : Str)) = false := by decide) (he : starEach (a :: es) X.env = (false, eval a X.env) :: starEach es X.env := by rfl) (hpl : (backTo pos (starEach es X.env)).any (·.1) = false := by rfl) : QE X dl (.Call (.Name x p) (a :: es) [] pos) (wFn w ws) := by
  obtain ⟨ta, pa, sa⟩ := ha
  exact ⟨_, pe_callB hc hg hm hv pa hn hdb he hpl, fun B0 H0 B σ H ρ P Q hw e k => sa B0 H0 B σ H ρ _ _ hw e fun vs B' H' ds hp g hd => hr vs ds P H' Q hp (hd.up offH_le) fun v d hq hD => k v B' H' d hq g (hD _)⟩
theorem q_ty {T : String} {w : List PyData → (PyData → Prop) → Prop} (hc : CallR X (.type T) rc) (hr : RC X.K rc w) (hg : Gl X x) (hm : X.mg x = none) (hv : bootBuiltins x = some (.type T)) (ha : QAV X dl (a :: es) ws)
    (hn : x ≠ "__name__" := by decide) (hdb : (x == ("__debug__" : Str)) = false := by decide) (he : starEach (a :: es) X.env = (false, eval a X.env) :: starEach es X.env := by rfl) (hpl : (backTo pos (starEach es X.env)).any (·.1) = false := by rfl) : QE X dl (.Call (.Name x p) (a :: es) [] pos) (wFn w ws) := by
  obtain ⟨ta, pa, sa⟩ := ha
  exact ⟨_, pe_callTy hc hg hm hv pa hn hdb he hpl, fun B0 H0 B σ H ρ P Q hw e k => sa B0 H0 B σ H ρ _ _ hw e fun vs B' H' ds hp g hd => hr vs ds P H' Q hp (hd.up offH_le) fun v d hq hD => k v B' H' d hq g (hD _)⟩
theorem qo_ty {T : String} {w : List PyData → (List PyData → Prop) → Prop} (hc : CallR X (.type T) rc) (hr : RCO X.K dl rc w) (hg : Gl X x) (hm : X.mg x = none) (hv : bootBuiltins x = some (.type T)) (ha : QA X dl (a :: es) ws)
    (hn : x ≠ "__name__" := by decide) (hdb : (x == ("__debug__" : Str)) = false := by decide) (he : starEach (a :: es) X.env = (false, eval a X.env) :: starEach es X.env := by rfl) (hpl : (backTo pos (starEach es X.env)).any (·.1) = false := by rfl) : QO X dl (.Call (.Name x p) (a :: es) [] pos) (fun ρ P => ws ρ fun ds => w ds P) := by
  obtain ⟨ta, pa, sa⟩ := ha
  refine ⟨_, pe_callTy hc hg hm hv pa hn hdb he hpl, fun B0 H0 B σ H ρ P Q hw e k => sa B0 H0 B σ H ρ _ _ hw e fun vs B' H' ds hp g hd => hr vs ds P B' H' Q hp hd g.bh g.dk fun q us es hq nq hD => ?_⟩
  refine k q us B' _ es hq (g.trans (.newO g.bh g.dk nq)) ?_ (g.bh.free nq) upd_same hD
  cases z : H q with
  | none => rfl
  | some o =>
    have := g.hh q o (off_of g.dk nq) z
    rw [nq] at this
    cases this
end
end Lay

namespace Lay
open PySem PySem.Spec PyProof.Rows L2

/-! ### statements over data -/
structure DEnds where
  nx : List Sl → Prop
  rt : PyData → Prop
  bk : List Sl → Prop := fun _ => False
  ct : List Sl → Prop := fun _ => False
abbrev WS := DEnds → List Sl → Prop
structure Link (K : PySem.W.Frag) (dl : DL) (B0 H0 : Hp) (E : DEnds) (D : Ends) : Prop where
  nx : ∀ ρ B σ H, E.nx ρ → EnvOk K dl B0 H0 B σ H ρ → D.nx σ H
  rt : ∀ d v B H, E.rt d → Grow dl B0 H0 B H → Dat K B v d → D.rt v H
  bk : ∀ ρ B σ H, E.bk ρ → EnvOk K dl B0 H0 B σ H ρ → D.bk σ H
  ct : ∀ ρ B σ H, E.ct ρ → EnvOk K dl B0 H0 B σ H ρ → D.ct σ H
def SS (K : PySem.W.Frag) (dl : DL) (ts : TS) (ws : WS) : Prop := ∀ B0 H0 B σ H ρ E D, ws E ρ → EnvOk K dl B0 H0 B σ H ρ → Link K dl B0 H0 E D → ts D σ H
def QS (X : Cx) (dl : DL) (st : Stmt) (ws : WS) : Prop := ∃ t, PS X st t ∧ SS X.K dl t ws
def QSs (X : Cx) (dl : DL) (sts : List Stmt) (ws : WS) : Prop := ∃ t, PSs X sts t ∧ SS X.K dl t ws
abbrev WG := PyData → List Sl → (List Sl → Prop) → Prop
abbrev WGs := List PyData → List Sl → (List Sl → Prop) → Prop
/-- a target takes data -/
def Agree (vs : List Nat) (σ σ' : L2.St) : Prop := σ'.length = σ.length ∧ ∀ i, i ∉ vs → σ'[i]? = σ[i]?
def SG (K : PySem.W.Frag) (dl : DL) (ts : List Nat) (g : TG) (wg : WG) : Prop := ∀ B0 H0 B σ H ρ v d P Q, wg d ρ P → EnvOk K dl B0 H0 B σ H ρ → Dat K B v d → (∀ ρ' σ', P ρ' → EnvOk K dl B0 H0 B σ' H ρ' → Agree ts σ σ' → Q σ' H) → g v σ H Q
def SGs (K : PySem.W.Frag) (dl : DL) (ts : List Nat) (g : TGs) (wg : WGs) : Prop := ∀ B0 H0 B σ H ρ vs ds P Q, wg ds ρ P → EnvOk K dl B0 H0 B σ H ρ → DatAll K B vs ds → (∀ ρ' σ', P ρ' → EnvOk K dl B0 H0 B σ' H ρ' → Agree ts σ σ' → Q σ' H) → g vs σ H Q
def QG (X : Cx) (dl : DL) (ts : List Nat) (e : Expr) (wg : WG) : Prop := ∃ g, PG X e g ∧ SG X.K dl ts g wg
def QGs (X : Cx) (dl : DL) (ts : List Nat) (es : List Expr) (wg : WGs) : Prop := ∃ g, PGs X es g ∧ SGs X.K dl ts g wg

def wSeq (t u : WS) : WS := fun E ρ => t { E with nx := u E } ρ
def wNext : WS := fun E ρ => E.nx ρ
def wBreak : WS := fun E ρ => E.bk ρ
def wCont : WS := fun E ρ => E.ct ρ
def wIfS (c : WB) (t u : WS) : WS := fun E ρ => c ρ fun b => if b = true then t E ρ else u E ρ
def wSet (i : Nat) (w : WE) : WS := fun E ρ => w ρ fun d => E.nx (ρ.set i (.dat d))
def wSetO (i : Nat) (w : WA) : WS := fun E ρ => w ρ fun ds => E.nx (ρ.set i (.own ds))
def wRet (w : WE) : WS := fun E ρ => w ρ E.rt
def wRetN : WS := fun E _ => E.rt .none
def wDrop (w : WE) : WS := fun E ρ => w ρ fun _ => E.nx ρ
def wNever : WS := fun _ _ => False
/-- a list of one's own becomes data -/
def Sl.frz : Sl → Sl
  | .own ds => .dat (.list ds)
  | s => s
def wFrz (i : Nat) (t : WS) : WS := fun E ρ => t E (ρ.modify i Sl.frz)
def wApp (i : Nat) (w : WE) : WS := fun E ρ => ∃ ds, ρ[i]? = some (.own ds) ∧ ds.length < 1000000 ∧ w ρ fun d => E.nx (ρ.set i (.own (ds ++ [d])))
def gDat (i : Nat) : WG := fun d ρ P => P (ρ.set i (.dat d))
def gNilW : WGs := fun ds ρ P => ds = [] ∧ P ρ
def gConsW (g : WG) (r : WGs) : WGs := fun ds ρ P => ∃ d es, ds = d :: es ∧ g d ρ fun ρ' => r es ρ' P
def gTupW (n : Nat) (r : WGs) : WG := fun d ρ P => ∃ ds, d = .tuple ds ∧ ds.length = n ∧ r ds ρ P
def wAsg (w : WE) (g : WG) : WS := fun E ρ => w ρ fun d => g d ρ E.nx
def wForGo (g : WG) (t : WS) (E : DEnds) : List PyData → List Sl → Prop
  | [], ρ => E.nx ρ
  | d :: ds, ρ => g d ρ fun ρ1 => t { E with nx := wForGo g t E ds, ct := wForGo g t E ds, bk := E.nx } ρ1
def wFor (w : WA) (g : WG) (t : WS) : WS := fun E ρ => w ρ fun ds => wForGo g t E ds ρ
def wWhGo (c : WB) (t : WS) (E : DEnds) : Nat → List Sl → Prop
  | 0, _ => False
  | n + 1, ρ => c ρ fun b => if b = true then t { E with nx := wWhGo c t E n, ct := wWhGo c t E n, bk := E.nx } ρ else E.nx ρ
def wWhile (c : WB) (t : WS) : WS := fun E ρ => ∃ n, wWhGo c t E n ρ

section
variable {X : Cx} {dl : DL} {K : PySem.W.Frag} {st : Stmt} {rest : List Stmt} {wt wu : WS} {e : Expr} {we : WE} {wa : WA} {wc : WB} {pos : Pos}
theorem Link.mid {B0 H0 : Hp} {E : DEnds} {D : Ends} {nx : List Sl → Prop} {nx' : L2.St → Hp → Prop} (l : Link K dl B0 H0 E D) (h : ∀ ρ B σ H, nx ρ → EnvOk K dl B0 H0 B σ H ρ → nx' σ H) : Link K dl B0 H0 { E with nx := nx } { D with nx := nx' } := ⟨h, l.rt, l.bk, l.ct⟩
theorem ss_seq {t u : TS} (h1 : SS K dl t wt) (h2 : SS K dl u wu) : SS K dl (tSeq t u) (wSeq wt wu) := fun B0 H0 B σ H ρ E D hw e l => h1 B0 H0 B σ H ρ _ _ hw e (l.mid fun ρ' B' σ' H' hn e' => h2 B0 H0 B' σ' H' ρ' E D hn e' l)
theorem qss_nil : QSs X dl [] wNext := ⟨_, pss_nil, fun _ _ _ _ _ _ _ _ hw e l => l.nx _ _ _ _ hw e⟩
theorem qss_cons (h1 : QS X dl st wt) (h2 : QSs X dl rest wu) : QSs X dl (st :: rest) (wSeq wt wu) := h1.elim fun t h1 => h2.elim fun u h2 => ⟨_, pss_cons h1.1 h2.1, ss_seq h1.2 h2.2⟩
theorem qss_one (h1 : QS X dl st wt) : QSs X dl [st] wt := h1.elim fun t h1 => ⟨_, pss_one h1.1, h1.2⟩
theorem qs_pass : QS X dl (.Pass pos) wNext := ⟨_, ps_pass, fun _ _ _ _ _ _ _ _ hw e l => l.nx _ _ _ _ hw e⟩
theorem qs_break : QS X dl (.Break pos) wBreak := ⟨_, ps_break, fun _ _ _ _ _ _ _ _ hw e l => l.bk _ _ _ _ hw e⟩
theorem qs_continue : QS X dl (.Continue pos) wCont := ⟨_, ps_continue, fun _ _ _ _ _ _ _ _ hw e l => l.ct _ _ _ _ hw e⟩
theorem qs_never : QS X dl st wNever := ⟨_, ps_never, fun _ _ _ _ _ _ _ _ hw _ _ => hw.elim⟩
theorem qs_if {c : Expr} {a b : List Stmt} (hc : QT X dl c wc) (ha : QSs X dl a wt) (hb : QSs X dl b wu) : QS X dl (.If c a b pos) (wIfS wc wt wu) := by
  obtain ⟨tc, pc, sc⟩ := hc
  obtain ⟨t, pa, sa⟩ := ha
  obtain ⟨u, pb, sb⟩ := hb
  refine ⟨_, ps_if pc pa pb, fun B0 H0 B σ H ρ E D hw e l => sc B0 H0 B σ H ρ _ _ hw e fun b B1 H1 hp g => ?_⟩
  cases b with
  | true => exact sa B0 H0 B1 σ H1 ρ E D hp (e.grow g) l
  | false => exact sb B0 H0 B1 σ H1 ρ E D hp (e.grow g) l
theorem qs_ret (h : QE X dl e we) : QS X dl (.Return (some e) pos) (wRet we) := h.elim fun te h => ⟨_, ps_ret h.1, fun B0 H0 B σ H ρ E D hw e l => h.2 B0 H0 B σ H ρ _ _ hw e fun v B1 H1 d hp g hd => l.rt d v B1 H1 hp (e.fr.trans g) hd⟩
theorem qs_retN : QS X dl (.Return none pos) wRetN := ⟨_, ps_retN, fun B0 H0 B σ H ρ E D hw e l => l.rt .none .non B H hw e.fr .non⟩
theorem qs_expr (h : QE X dl e we) (hs : swapsWith e none pos.line X.env = pure false := by rfl) : QS X dl (.Expr e pos) (wDrop we) := h.elim fun te h => ⟨_, ps_expr h.1 hs, fun B0 H0 B σ H ρ E D hw e l => h.2 B0 H0 B σ H ρ _ _ hw e fun v B1 H1 d hp g hd => l.nx _ _ _ _ hp (e.grow g)⟩
theorem ss_set {i : Nat} {te : TE} (h : SE K dl te we) : SS K dl (tAsg te (gName i)) (wSet i we) := fun B0 H0 B σ H ρ E D hw e l => h B0 H0 B σ H ρ _ _ hw e fun v B1 H1 d hp g hd => l.nx _ _ _ _ hp ((e.grow g).setD hd)
theorem qs_set {i : Nat} {x : Str} {pos' : Pos} (h : QE X dl e we) (ps : ∀ te, PE X e te → PS X (.Assign [.Name x pos'] e pos) (tAsg te (gName i))) : QS X dl (.Assign [.Name x pos'] e pos) (wSet i we) :=
  h.elim fun te h => ⟨_, ps te h.1, ss_set h.2⟩
theorem fresh_own {B0 H0 B B' : Hp} {σ : L2.St} {H H' : Hp} {ρ : List Sl} {p : Addr} {vs : List V} {ds : List PyData} {i : Nat} (e : EnvOk K dl B0 H0 B σ H ρ) (g : Grow dl B H B' H') (n : H p = none) (nB : B' p = none) (h : H' p = some (.lst vs)) (hd : DatAll K B' vs ds) :
    EnvOk K dl B0 H0 B' (σ.set i (some (.ref p))) H' (ρ.set i (.own ds)) := by
  refine (e.grow g).setO h nB ?_ (off_of e.dk n) hd fun j s hj hs ho hσ => ?_
  · cases q : H0 p with
    | none => rfl
    | some o =>
      have := e.fr.hh p o (off_of e.dk n) q
      rw [n] at this
      cases this
  · cases s with
    | own es =>
      obtain ⟨a, us, h1, h2, _⟩ := e.sl j _ hs
      rw [h1] at hσ
      cases hσ
      rw [n] at h2
      cases h2
    | no => cases ho
    | dat d => cases ho
    | scr d => cases ho
    | dic d => cases ho
    | deal => cases ho
theorem ss_setO {i : Nat} {te : TE} (h : SO K dl te wa) : SS K dl (tAsg te (gName i)) (wSetO i wa) := fun B0 H0 B σ H ρ E D hw e l => h B0 H0 B σ H ρ _ _ hw e fun p vs B1 H1 ds hp g n nB hH hd => l.nx _ _ _ _ hp (fresh_own e g n nB hH hd)
theorem qs_setO {i : Nat} {x : Str} {pos' : Pos} (h : QO X dl e wa) (ps : ∀ te, PE X e te → PS X (.Assign [.Name x pos'] e pos) (tAsg te (gName i))) : QS X dl (.Assign [.Name x pos'] e pos) (wSetO i wa) :=
  h.elim fun te h => ⟨_, ps te h.1, fun B0 H0 B σ H ρ E D hw e l => h.2 B0 H0 B σ H ρ _ _ hw e fun p vs B1 H1 ds hp g n nB hH hd => l.nx _ _ _ _ hp (fresh_own e g n nB hH hd)⟩

/-- a list of one's own becomes data -/
theorem EnvOk.frz {B0 H0 B : Hp} {σ : L2.St} {H : Hp} {ρ : List Sl} {i : Nat} {ds : List PyData} (e : EnvOk K dl B0 H0 B σ H ρ) (hr : ρ[i]? = some (.own ds)) : ∃ B', EnvOk K dl B0 H0 B' σ H (ρ.set i (.dat (.list ds))) := by
  obtain ⟨a, vs, h1, h2, h3, h4, h5, h6⟩ := e.sl i _ hr
  have hl : i < ρ.length := (List.getElem?_eq_some_iff.mp hr).1
  have sub : Same B (upd B a (.lst vs)) := fun x o q => by rw [upd_ne (ne_of_none q h3)]; exact q
  refine ⟨upd B a (.lst vs), by rw [List.length_set]; exact e.len, ⟨e.fr.bb.trans sub, fun x o q => ?_, e.fr.hh, fun x o q => ?_, e.fr.dk⟩, fun p hp => ?_, fun j s hj => ?_, fun j k s t b n hj hk os ot es et => ?_⟩
  · by_cases hx : x = a
    · subst hx; rw [upd_same] at q; rw [h2]; exact q
    · rw [upd_ne hx] at q; exact e.bh _ _ q
  · by_cases hx : x = a
    · subst hx; exact .inr h4
    · rw [upd_ne hx] at q; exact e.fr.nw _ _ q
  · obtain ⟨a1, a2⟩ := e.av p hp
    obtain ⟨n1, n2⟩ := h5 p hp
    rw [upd_ne (Ne.symm n1), upd_ne (Ne.symm n2)]
    exact ⟨a1, a2⟩
  · by_cases hij : i = j
    · subst hij
      rw [List.getElem?_set_self hl] at hj
      cases hj
      exact ⟨.ref a, h1, .lst upd_same (h6.up sub)⟩
    · rw [List.getElem?_set_ne hij] at hj
      have z := e.sl j s hj
      cases s with
      | no => trivial
      | dat d => obtain ⟨v, g1, g2⟩ := z; exact ⟨v, g1, g2.up sub⟩
      | own es =>
        obtain ⟨c, us, g1, g2, g3, g4, g5, g6⟩ := z
        have nc : c ≠ a := fun z => by
          subst z
          exact e.sep i j _ _ c hij hr hj rfl rfl h1 g1
        exact ⟨c, us, g1, g2, by rw [upd_ne nc]; exact g3, g4, g5, g6.up sub⟩
      | scr ns => obtain ⟨c, g1, g2⟩ := z; exact ⟨c, g1, sub.seq g2⟩
      | dic ps => obtain ⟨c, kvs, g1, g2, g3⟩ := z; exact ⟨c, kvs, g1, sub _ _ g2, fun k d q => let ⟨v, e1, e2⟩ := g3 k d q; ⟨v, e1, e2.up sub⟩⟩
      | deal => exact z
  · have f : ∀ {m : Nat} {u : Sl}, (ρ.set i (.dat (.list ds)))[m]? = some u → u.isOwn = true → ρ[m]? = some u := fun {m u} hm hu => by
      by_cases him : i = m
      · subst him
        rw [List.getElem?_set_self hl] at hm
        cases hm
        cases hu
      · rw [List.getElem?_set_ne him] at hm; exact hm
    exact e.sep j k s t b n (f hj os) (f hk ot) os ot es et
theorem modify_at {ρ : List Sl} {i : Nat} {s t : Sl} (h : ρ[i]? = some s) (e : s.frz = t) : ρ.modify i Sl.frz = ρ.set i t := by
  refine List.ext_getElem? fun j => ?_
  rw [List.getElem?_modify, List.getElem?_set]
  by_cases hij : i = j
  · subst hij
    have hl : i < ρ.length := (List.getElem?_eq_some_iff.mp h).1
    rw [h]
    simp [e, hl]
  · simp [hij]
theorem modify_id {ρ : List Sl} {i : Nat} (h : ∀ ds, ρ[i]? ≠ some (.own ds)) : ρ.modify i Sl.frz = ρ := by
  refine List.ext_getElem? fun j => ?_
  rw [List.getElem?_modify]
  by_cases hij : i = j
  · subst hij
    cases hr : ρ[i]? with
    | none => simp
    | some s =>
      cases s with
      | own ds => exact absurd hr (h ds)
      | no => simp [Sl.frz]
      | dat d => simp [Sl.frz]
      | scr d => simp [Sl.frz]
      | dic d => simp [Sl.frz]
      | deal => simp [Sl.frz]
  · simp [hij]
theorem ss_frz {t : TS} {i : Nat} (h : SS K dl t wt) : SS K dl t (wFrz i wt) := fun B0 H0 B σ H ρ E D hw e l => by
  unfold wFrz at hw
  by_cases hr : ∃ ds, ρ[i]? = some (.own ds)
  · obtain ⟨ds, hr⟩ := hr
    rw [modify_at hr rfl] at hw
    obtain ⟨B', e'⟩ := e.frz hr
    exact h B0 H0 B' σ H _ E D hw e' l
  · rw [modify_id fun ds z => hr ⟨ds, z⟩] at hw
    exact h B0 H0 B σ H ρ E D hw e l
theorem qs_frz (i : Nat) (h : QS X dl st wt) : QS X dl st (wFrz i wt) := h.elim fun t h => ⟨t, h.1, ss_frz h.2⟩

/-- a list of one's own is changed -/
theorem EnvOk.put {B0 H0 B : Hp} {σ : L2.St} {H : Hp} {ρ : List Sl} {i : Nat} {ds es : List PyData} {a : Addr} {us : List V} (e : EnvOk K dl B0 H0 B σ H ρ) (hr : ρ[i]? = some (.own ds)) (ha : σ[i]? = some (some (.ref a))) (hd : DatAll K B us es) :
    EnvOk K dl B0 H0 B σ (upd H a (.lst us)) (ρ.set i (.own es)) := by
  obtain ⟨a', vs, h1, h2, h3, h4, h5, h6⟩ := e.sl i _ hr
  rw [ha] at h1
  cases h1
  have hl : i < ρ.length := (List.getElem?_eq_some_iff.mp hr).1
  have off : ∀ x o, x ≠ a → H x = some o → upd H a (.lst us) x = some o := fun x o n q => by rw [upd_ne n]; exact q
  refine ⟨by rw [List.length_set]; exact e.len, ⟨e.fr.bb, fun x o q => off x o (ne_of_none q h3) (e.bh _ _ q), fun x o f q => off x o (ne_of_none q h4) (e.fr.hh _ _ f q), e.fr.nw, fun p hp => ?_⟩, e.av, fun j s hj => ?_, fun j k s t b n hj hk os ot es' et => ?_⟩
  · obtain ⟨n, g, b, g1, g2, g3⟩ := e.dk p hp
    obtain ⟨n1, n2⟩ := h5 p hp
    exact ⟨n, g, b, off _ _ (Ne.symm n1) g1, off _ _ (Ne.symm n2) g2, g3⟩
  · by_cases hij : i = j
    · subst hij
      rw [List.getElem?_set_self hl] at hj
      cases hj
      exact ⟨a, us, ha, upd_same, h3, h4, h5, hd⟩
    · rw [List.getElem?_set_ne hij] at hj
      have z := e.sl j s hj
      cases s with
      | no => trivial
      | dat d => exact z
      | own es2 =>
        obtain ⟨c, ws, g1, g2, g3, g4, g5, g6⟩ := z
        have nc : c ≠ a := fun z => by
          subst z
          exact e.sep i j _ _ c hij hr hj rfl rfl ha g1
        exact ⟨c, ws, g1, off _ _ nc g2, g3, g4, g5, g6⟩
      | scr ns => exact z
      | dic ps => exact z
      | deal => exact z
  · have f : ∀ {m : Nat} {u : Sl}, (ρ.set i (.own es))[m]? = some u → u.isOwn = true → ∃ u', ρ[m]? = some u' ∧ u'.isOwn = true := fun {m u} hm hu => by
      by_cases him : i = m
      · subst him
        exact ⟨_, hr, rfl⟩
      · rw [List.getElem?_set_ne him] at hm; exact ⟨u, hm, hu⟩
    obtain ⟨s', e1, o1⟩ := f hj os
    obtain ⟨t', e2, o2⟩ := f hk ot
    exact e.sep j k s' t' b n e1 e2 o1 o2 es' et
theorem qs_app {i : Nat} {o x : Expr} {apos cpos : Pos} (ho : PE X o (tVar i)) (h : QE X dl x we)
    (ps : ∀ tx, PE X x tx → PS X (.Expr (.Call (.Attribute o "append" apos) [x] [] cpos) pos) (tDrop (tBM X.K "list" rAppend (tVar i) (tCons tx tNil)))) : QS X dl (.Expr (.Call (.Attribute o "append" apos) [x] [] cpos) pos) (wApp i we) := by
  obtain ⟨tx, px, sx⟩ := h
  refine ⟨_, ps tx px, fun B0 H0 B σ H ρ E D hw e l => ?_⟩
  obtain ⟨ds, hr, hz, hw⟩ := hw
  obtain ⟨a, vs, h1, h2, h3, h4, h5, h6⟩ := e.sl i _ hr
  refine ⟨.ref a, h1, .inl ⟨rfl, _, SqL.of h2⟩, sx B0 H0 B σ H ρ _ _ hw e fun v B1 H1 d hp g hd => ?_⟩
  have e1 := e.grow g
  obtain ⟨a', vs', k1, k2, k3, k4, k5, k6⟩ := e1.sl i _ hr
  rw [h1] at k1
  cases k1
  exact ⟨a, vs', v, rfl, rfl, k2, Nat.lt_of_lt_of_le (by rw [k6.len]; exact hz) (by decide), l.nx _ _ _ _ hp (e1.put hr h1 (k6.append (.cons hd .nil)))⟩

/-! targets -/
variable {ts : List Nat}
theorem g_name {i : Nat} {x : Str} (h : PG X (.Name x pos) (gName i)) : QG X dl [i] (.Name x pos) (gDat i) := ⟨_, h, fun B0 H0 B σ H ρ v d P Q hw e hd k => k _ _ hw (e.setD hd) ⟨List.length_set .., fun j hj => List.getElem?_set_ne (fun z => hj (by simp [z]))⟩⟩
theorem gs_nil : QGs X dl [] [] gNilW := by
  refine ⟨_, pgs_nil, ?_⟩
  rintro B0 H0 B σ H ρ vs ds P Q ⟨rfl, hw⟩ e hd k
  cases hd
  exact ⟨rfl, k _ _ hw e ⟨rfl, fun _ _ => rfl⟩⟩
theorem gs_cons {es : List Expr} {t1 t2 : List Nat} {wg : WG} {wr : WGs} (h1 : QG X dl t1 e wg) (h2 : QGs X dl t2 es wr) (hs : (assignEach (e :: es) X.env).map (·.2) = assign e X.env :: (assignEach es X.env).map (·.2) := by rfl) : QGs X dl (t1 ++ t2) (e :: es) (gConsW wg wr) := by
  obtain ⟨g, pg, sg⟩ := h1
  obtain ⟨r, pr, sr⟩ := h2
  refine ⟨_, pgs_cons pg pr hs, ?_⟩
  rintro B0 H0 B σ H ρ vs ds P Q ⟨d, ds, rfl, hw⟩ e hd k
  cases hd with
  | cons h1 h2 => exact ⟨_, _, rfl, sg B0 H0 B σ H ρ _ _ _ _ hw e h1 fun ρ' σ' hp e' a1 => sr B0 H0 B σ' H ρ' _ _ P Q hp e' h2 fun ρ2 σ2 hq e2 a2 => k ρ2 σ2 hq e2 ⟨a2.1.trans a1.1, fun j hj => (a2.2 j fun z => hj (List.mem_append_right _ z)).trans (a1.2 j fun z => hj (List.mem_append_left _ z))⟩⟩
theorem g_tup {es : List Expr} {k n : Nat} {wr : WGs} (hc : X.calm = true) (h : QGs X dl ts es wr) (hn : (assignEach es X.env).length = n := by rfl) (hst : (assignEach es X.env).findIdx? (·.1) = none := by rfl) : QG X dl ts (.Tuple es k pos) (gTupW n wr) := by
  obtain ⟨r, pr, sr⟩ := h
  refine ⟨_, pg_tup hc pr hn hst, ?_⟩
  rintro B0 H0 B σ H ρ v d P Q ⟨ds, rfl, hl, hw⟩ e hd kk
  cases hd with
  | tup h1 h2 => exact ⟨_, _, rfl, e.bh.tup h1, by rw [h2.len]; exact hl, sr B0 H0 B σ H ρ _ _ P Q hw e h2 kk⟩
theorem qs_asg {tg : Expr} {wg : WG} (he : QE X dl e we) (hg : QG X dl ts tg wg) (hs : swapsWithSole [tg] e pos.line X.env = pure false := by rfl) (hw : swappedStores [tg] e X.env = pure none := by rfl)
    (h1 : (assignEach [tg] X.env).map (·.2) = [assign tg X.env] := by rfl) : QS X dl (.Assign [tg] e pos) (wAsg we wg) := by
  obtain ⟨te, pe, se⟩ := he
  obtain ⟨g, pg, sg⟩ := hg
  exact ⟨_, ps_asg pe pg hs hw h1, fun B0 H0 B σ H ρ E D hw e l => se B0 H0 B σ H ρ _ _ hw e fun v B1 H1 d hp gr hd => sg B0 H0 B1 σ H1 ρ v d _ _ hp (e.grow gr) hd fun ρ' σ' hq e' _ => l.nx _ _ _ _ hq e'⟩

/-! loops -/
/-- what is stable so far, as where one begins -/
theorem EnvOk.rebase {B0 H0 B : Hp} {σ : L2.St} {H : Hp} {ρ : List Sl} (e : EnvOk K dl B0 H0 B σ H ρ) : EnvOk K dl B H0 B σ H ρ := ⟨e.len, ⟨Same.refl _, e.bh, e.fr.hh, fun _ _ q => .inl q, e.dk⟩, e.av, e.sl, e.sep⟩
theorem grow_back {B0 H0 B B' H' : Hp} (bb : Same B0 B) (nw : ∀ x o, B x = some o → B0 x = some o ∨ H0 x = none) (g : Grow dl B H0 B' H') : Grow dl B0 H0 B' H' :=
  ⟨bb.trans g.bb, g.bh, g.hh, (fun x o q => by
    rcases g.nw x o q with h | h
    · exact nw x o h
    · exact .inr h), g.dk⟩
theorem EnvOk.back {B0 H0 B B' : Hp} {σ : L2.St} {H : Hp} {ρ : List Sl} (e : EnvOk K dl B H0 B' σ H ρ) (bb : Same B0 B) (nw : ∀ x o, B x = some o → B0 x = some o ∨ H0 x = none) : EnvOk K dl B0 H0 B' σ H ρ := ⟨e.len, grow_back bb nw e.fr, e.av, e.sl, e.sep⟩
structure Walks (K : PySem.W.Frag) (dl : DL) (J : It) (B : Hp) (ds : List PyData) : Prop where
  go : ∀ (i : Nat) B2 H2, Same B B2 → Same B2 H2 → i < ds.length → J.go i H2
  stop : ∀ (i : Nat) B2 H2, Same B B2 → Same B2 H2 → ds.length ≤ i → J.stop i H2
  yld : ∀ (i : Nat) B2 H2 x H3, Same B B2 → Same B2 H2 → DealOk dl H2 → J.yld i H2 x H3 → i < ds.length → ∃ B3 d, ds[i]? = some d ∧ Grow dl B2 H2 B3 H3 ∧ Dat K B3 x d
def SI (K : PySem.W.Frag) (dl : DL) (wi : TI) (wa : WA) : Prop := ∀ B0 H0 B σ H ρ P R, wa ρ P → EnvOk K dl B0 H0 B σ H ρ → (∀ J B' H' ds, P ds → Grow dl B H B' H' → Walks K dl J B' ds → R J H') → wi σ H R
def QI (X : Cx) (dl : DL) (tg it : Expr) (wa : WA) : Prop := ∃ wi, PI X tg it wi ∧ SI X.K dl wi wa
theorem ss_for {wi : TI} {g : TG} {tb : TS} {wg : WG} (si : SI K dl wi wa) (sg : SG K dl ts g wg) (sb : SS K dl tb wt) : SS K dl (tFor wi g tb) (wFor wa wg wt) := fun B0 H0 B σ H ρ E D hw e l => by
  refine si B0 H0 B σ H ρ _ _ hw e fun J B1 H1 ds hp gr wk => ?_
  refine ⟨fun i m σ H => ∃ B ρ, m = ds.length - i ∧ i ≤ ds.length ∧ EnvOk K dl B0 H0 B σ H ρ ∧ Same B1 B ∧ wForGo wg wt E (ds.drop i) ρ, ⟨_, B1, ρ, rfl, Nat.zero_le _, e.grow gr, Same.refl _, hp⟩, ?_⟩
  rintro i m σ2 H2 ⟨B2, ρ2, rfl, hi, e2, sm, hg⟩
  by_cases hlt : i < ds.length
  · refine .inr ⟨wk.go i B2 H2 sm e2.bh hlt, fun σ' H' => ∃ B ρ, EnvOk K dl B0 H0 B σ' H' ρ ∧ Same B1 B ∧ wForGo wg wt E (ds.drop (i + 1)) ρ, ?_, fun x H3 hy => ?_⟩
    · rintro σ' H' ⟨B', ρ', e', sm', hg'⟩
      exact ⟨_, by omega, B', ρ', rfl, hlt, e', sm', hg'⟩
    · obtain ⟨B3, d, hd, g3, hD⟩ := wk.yld i B2 H2 x H3 sm e2.bh e2.dk hy hlt
      have ed : ds.drop i = d :: ds.drop (i + 1) := by
        rw [List.drop_eq_getElem_cons hlt]
        rw [List.getElem?_eq_getElem hlt] at hd
        cases hd
        rfl
      rw [ed] at hg
      -- the stable part grows through the turn; the body keeps what stood
      have e3 := e2.grow g3
      refine sg B0 H0 B3 σ2 H3 ρ2 x d _ _ hg e3 hD fun ρ4 σ4 hb e4 _ => ?_
      refine sb B3 H0 B3 σ4 H3 ρ4 _ _ hb e4.rebase ⟨fun ρ5 B5 σ5 H5 hn e5 => ⟨B5, ρ5, e5.back e3.fr.bb e3.fr.nw, (sm.trans g3.bb).trans e5.fr.bb, hn⟩,
        fun d v B5 H5 hr g5 hv => l.rt d v B5 H5 hr (grow_back e3.fr.bb e3.fr.nw g5) hv,
        fun ρ5 B5 σ5 H5 hn e5 => l.nx ρ5 B5 σ5 H5 hn (e5.back e3.fr.bb e3.fr.nw), fun ρ5 B5 σ5 H5 hn e5 => ⟨B5, ρ5, e5.back e3.fr.bb e3.fr.nw, (sm.trans g3.bb).trans e5.fr.bb, hn⟩⟩
  · have ei : ds.drop i = [] := List.drop_eq_nil_iff.mpr (by omega)
    rw [ei] at hg
    exact .inl ⟨wk.stop i B2 H2 sm e2.bh (by omega), l.nx _ _ _ _ hg e2⟩
theorem ss_while {c : TT} {tb : TS} (sc : ST K dl c wc) (sb : SS K dl tb wt) : SS K dl (tWhile c tb) (wWhile wc wt) := fun B0 H0 B σ H ρ E D hw e l => by
  obtain ⟨n, hw⟩ := hw
  refine ⟨fun m σ H => ∃ B ρ, EnvOk K dl B0 H0 B σ H ρ ∧ wWhGo wc wt E m ρ, ⟨n, B, ρ, e, hw⟩, ?_⟩
  rintro m σ2 H2 ⟨B2, ρ2, e2, hg⟩
  cases m with
  | zero => exact hg.elim
  | succ m =>
    refine sc B0 H0 B2 σ2 H2 ρ2 _ _ hg e2 fun b B3 H3 hp g => ?_
    cases b with
    | false => exact l.nx _ _ _ _ hp (e2.grow g)
    | true =>
      refine ⟨fun σ' H' => ∃ B ρ, EnvOk K dl B0 H0 B σ' H' ρ ∧ wWhGo wc wt E m ρ, fun σ' H' h => ⟨m, Nat.lt_succ_self m, h⟩, ?_⟩
      exact sb B0 H0 B3 σ2 H3 ρ2 _ _ hp (e2.grow g) ⟨fun ρ5 B5 σ5 H5 hn e5 => ⟨B5, ρ5, e5, hn⟩, l.rt, l.nx, fun ρ5 B5 σ5 H5 hn e5 => ⟨B5, ρ5, e5, hn⟩⟩
theorem qs_for {tg it : Expr} {body : List Stmt} {wg : WG} (hp : PassesOwn (model X.prog X.w) X.A X.env X.xe) (hc : X.calm = true) (hi : QI X dl tg it wa) (hg : QG X dl ts tg wg) (hb : QSs X dl body wt)
    (hs : ∀ x, foldedSetIterable it X.env x = pure x := by intro _; rfl) : QS X dl (.For tg it body [] pos) (wFor wa wg wt) := by
  obtain ⟨wi, pi, si⟩ := hi
  obtain ⟨g, pg, sg⟩ := hg
  obtain ⟨t, pb, sb⟩ := hb
  exact ⟨_, ps_for hp hc pi pg pb hs, ss_for si sg sb⟩
theorem qs_while {c : Expr} {body : List Stmt} (hp : PassesOwn (model X.prog X.w) X.A X.env X.xe) (hc : QT X dl c wc) (hb : QSs X dl body wt) : QS X dl (.While c body [] pos) (wWhile wc wt) := by
  obtain ⟨tc, pc, sc⟩ := hc
  obtain ⟨t, pb, sb⟩ := hb
  exact ⟨_, ps_while hp pc pb, ss_while sc sb⟩

/-! what is walked -/
theorem walks_list {B : Hp} {a : Addr} {vs : List V} {ds : List PyData} (h : B a = some (.lst vs)) (hd : DatAll K B vs ds) : Walks K dl (Itl K a) B ds where
  go := fun i B2 H2 s1 s2 hi => by
    rw [← hd.len] at hi
    exact ⟨vs, vs[i], SqL.of (s2 _ _ (s1 _ _ h)), List.getElem?_eq_getElem hi⟩
  stop := fun i B2 H2 s1 s2 hi => ⟨vs, SqL.of (s2 _ _ (s1 _ _ h)), by rw [hd.len]; exact hi⟩
  yld := fun i B2 H2 x H3 s1 s2 dk hy hi => by
    obtain ⟨rfl, f⟩ := hy
    obtain ⟨d, e1, e2⟩ := hd.getV (f vs (SqL.of (s2 _ _ (s1 _ _ h))))
    exact ⟨B2, d, e1, .refl s2 dk, e2.up s1⟩
theorem walks_tup {B : Hp} {a : Addr} {vs : List V} {ds : List PyData} (h : SqT K B a vs) (hd : DatAll K B vs ds) : Walks K dl (Itt K a) B ds where
  go := fun i B2 H2 s1 s2 hi => by
    rw [← hd.len] at hi
    exact ⟨vs, vs[i], s2.tup (s1.tup h), List.getElem?_eq_getElem hi⟩
  stop := fun i B2 H2 s1 s2 hi => ⟨vs, s2.tup (s1.tup h), by rw [hd.len]; exact hi⟩
  yld := fun i B2 H2 x H3 s1 s2 dk hy hi => by
    obtain ⟨rfl, f⟩ := hy
    obtain ⟨d, e1, e2⟩ := hd.getV (f vs (s2.tup (s1.tup h)))
    exact ⟨B2, d, e1, .refl s2 dk, e2.up s1⟩
def rangeD (lo : Int) (n : Nat) : List PyData := (List.range n).map fun i => .int (lo + (i : Nat))
theorem walks_range {B : Hp} {lo : Int} {n : Nat} : Walks K dl (Itr lo n) B (rangeD lo n) where
  go := fun i B2 H2 s1 s2 hi => by
    show i < n
    simpa [rangeD] using hi
  stop := fun i B2 H2 s1 s2 hi => by
    show n ≤ i
    simpa [rangeD] using hi
  yld := fun i B2 H2 x H3 s1 s2 dk hy hi => by
    obtain ⟨rfl, rfl⟩ := hy
    have hi' : i < n := by simpa [rangeD] using hi
    exact ⟨B2, .int (lo + (i : Nat)), by simp [rangeD, hi'], .refl s2 dk, .int _⟩
def wList (w : WE) : WA := fun ρ P => w ρ fun d => ∃ ds, d = .list ds ∧ P ds
def wTupI (w : WE) : WA := fun ρ P => w ρ fun d => ∃ ds, d = .tuple ds ∧ P ds
def wRange1 (w : WA) : WA := fun ρ P => w ρ fun ds => ∃ n : Nat, ds = [.int (n : Int)] ∧ n ≤ 1000000 ∧ P (rangeD 0 n)
variable {tg it : Expr}
theorem i_list (h : QE X dl it we) : QI X dl tg it (wList we) := by
  obtain ⟨te, pe, se⟩ := h
  refine ⟨_, pi_list pe, fun B0 H0 B σ H ρ P R hw e k => se B0 H0 B σ H ρ _ _ hw e ?_⟩
  rintro v B' H' d ⟨ds, rfl, hp⟩ g hd
  cases hd with
  | lst h1 h2 => exact ⟨_, rfl, ⟨_, SqL.of (g.bh _ _ h1)⟩, k _ B' H' ds hp g (walks_list h1 h2)⟩
theorem i_tup (h : QE X dl it we) : QI X dl tg it (wTupI we) := by
  obtain ⟨te, pe, se⟩ := h
  refine ⟨_, pi_tup pe, fun B0 H0 B σ H ρ P R hw e k => se B0 H0 B σ H ρ _ _ hw e ?_⟩
  rintro v B' H' d ⟨ds, rfl, hp⟩ g hd
  cases hd with
  | tup h1 h2 => exact ⟨_, rfl, ⟨_, g.bh.tup h1⟩, k _ B' H' ds hp g (walks_tup h1 h2)⟩
theorem i_range1 {a : Expr} {p cpos : Pos} (hg : Gl X "range") (hm : X.mg "range" = none) (h : QA X dl [a] wa) (hs : starEach [a] X.env = [(false, eval a X.env)] := by rfl) : QI X dl tg (.Call (.Name "range" p) [a] [] cpos) (wRange1 wa) := by
  obtain ⟨ta, pa, sa⟩ := h
  refine ⟨_, pi_range1 hg hm pa hs, fun B0 H0 B σ H ρ P R hw e k => sa B0 H0 B σ H ρ _ _ hw e ?_⟩
  rintro vs B' H' ds ⟨n, rfl, hn, hp⟩ g hd
  cases hd with
  | cons h1 h2 =>
    cases h1
    cases h2
    exact ⟨(n : Int), rfl, by omega, by omega, k _ B' H' _ hp g (by rw [Int.toNat_natCast]; exact walks_range)⟩
end
end Lay

namespace Lay
open PySem PySem.Spec PyProof.Rows L2

/-! ### what defs promise, over data -/
abbrev WF := List PyData → (PyData → Prop) → Prop
def spF (K : PySem.W.Frag) (n : Nat) (wf : WF) : Sp := fun vs H Q _ => ∃ B ds P, Same B H ∧ DatAll K B vs ds ∧ ds.length = n ∧ wf ds P ∧ ∀ v B' H' d, P d → Grow none B H B' H' → Dat K B' v d → Q v H'
/-- its first argument is a deal -/
def spD (K : PySem.W.Frag) (n : Nat) (wf : WF) : Sp := fun vs H Q _ => ∃ B ds P a c rest, vs = .ref a :: rest ∧ Same B H ∧ DealOk (some (a, c)) H ∧ B a = none ∧ B c = none ∧ DatAll K B rest ds ∧ ds.length = n ∧ wf ds P ∧
  ∀ v B' H' d, P d → Grow (some (a, c)) B H B' H' → Dat K B' v d → Q v H'
def permL {α : Type} (π : List Nat) (xs : List α) : List α := π.filterMap fun i => xs[i]?
theorem DatAll.perm {K : PySem.W.Frag} {B : Hp} {vs : List V} {ds : List PyData} (h : DatAll K B vs ds) : ∀ π : List Nat, DatAll K B (permL π vs) (permL π ds)
  | [] => .nil
  | i :: π => by
    have ih := DatAll.perm h π
    unfold permL at ih ⊢
    rw [List.filterMap_cons, List.filterMap_cons]
    cases hv : vs[i]? with
    | none =>
      have : ds[i]? = none := by
        rw [List.getElem?_eq_none_iff] at hv ⊢
        rw [← h.len]; exact hv
      rw [this]
      exact ih
    | some v =>
      obtain ⟨d, e1, e2⟩ := h.getV hv
      rw [e1]
      exact .cons e2 ih
structure Cal (P : Program) (w : World) (K : PySem.W.Frag) (mg : Str → Option Value) (base : Heap) (k : Nat) (x : Str) (n : Nat) (wf : WF) : Prop where
  out : ∃ f fd ps, FnG P w K mg base CX0 k f fd ps (spF K n wf) ∧ mg x = some (.ref f) ∧ PySem.W.keepIn K (.ref f) = true ∧ Binds K fd ps []
structure CalD (P : Program) (w : World) (K : PySem.W.Frag) (mg : Str → Option Value) (base : Heap) (k : Nat) (x : Str) (n : Nat) (wf : WF) : Prop where
  out : ∃ f fd ps, FnG P w K mg base CX0 k f fd ps (spD K n wf) ∧ mg x = some (.ref f) ∧ PySem.W.keepIn K (.ref f) = true ∧ Binds K fd ps []
/-- called with keywords alone -/
structure CalK (P : Program) (w : World) (K : PySem.W.Frag) (mg : Str → Option Value) (base : Heap) (k : Nat) (x : Str) (n : Nat) (ks : List Str) (π : List Nat) (wf : WF) : Prop where
  out : ∃ f fd ps, FnG P w K mg base CX0 k f fd ps (spF K n wf) ∧ mg x = some (.ref f) ∧ PySem.W.keepIn K (.ref f) = true ∧ ∀ (s : Shared) (ws : List Value), ws.length = ks.length → BindsTo s fd ⟨[], ks.zip ws⟩ (ps.zip (permL π ws))

def wCall (n : Nat) (wf : WF) (wa : WA) : WE := fun ρ P => wa ρ fun ds => ds.length = n ∧ wf ds P
def wCallD (i n : Nat) (wf : WF) (wa : WA) : WE := fun ρ P => ρ[i]? = some .deal ∧ wa ρ fun ds => ds.length = n ∧ wf ds P
def wCallK (m n : Nat) (π : List Nat) (wf : WF) (wa : WA) : WE := fun ρ P => wa ρ fun ds => ds.length = m ∧ (permL π ds).length = n ∧ wf (permL π ds) P
section
variable {X : Cx} {dl : DL} {k j n : Nat} {x : Str} {wf : WF} {wa : WA} {a o : Expr} {es : List Expr} {p pos : Pos}
theorem EnvOk.call {K : PySem.W.Frag} {B0 H0 B : Hp} {σ : L2.St} {H : Hp} {ρ : List Sl} {B' H' : Hp} (e : EnvOk K dl B0 H0 B σ H ρ) (g : Grow none B H B' H') : Grow dl B H B' H' := g.same e.dk
theorem q_call (c : Cal X.prog X.w X.K X.mg X.base k x n wf) (hgd : X.A.guards = some []) (hr : Room j X.A) (hk : k ≤ j) (hg : Gl X x) (h : QA X dl (a :: es) wa)
    (hdb : (x == ("__debug__" : Str)) = false := by decide) (he : starEach (a :: es) X.env = (false, eval a X.env) :: starEach es X.env := by rfl) (hpl : (backTo pos (starEach es X.env)).any (·.1) = false := by rfl) :
    QE X dl (.Call (.Name x p) (a :: es) [] pos) (wCall n wf wa) := by
  obtain ⟨f, fd, ps, F, hm, kp, hb⟩ := c.out
  obtain ⟨ta, pa, sa⟩ := h
  refine ⟨_, pg_call F hgd (hr.mono hk) hg hm kp hb .nil pass0 pa hdb he hpl, fun B0 H0 B σ H ρ P Q hw e kk => sa B0 H0 B σ H ρ _ _ hw e ?_⟩
  rintro vs B1 H1 ds ⟨hl, hp⟩ g hd
  rw [List.append_nil]
  exact ⟨B1, ds, P, g.bh, hd, hl, hp, fun v B' H' d hq g2 hv => kk v B' H' d hq (g.trans (g2.same g.dk)) hv⟩
theorem q_callD {i : Nat} {y : Str} {py : Pos} (c : CalD X.prog X.w X.K X.mg X.base k x n wf) (hgd : X.A.guards = some []) (hr : Room j X.A) (hk : k ≤ j) (hg : Gl X x) (ho : PE X (.Name y py) (tVar i)) (h : QA X dl es wa)
    (hs : starEach (.Name y py :: es) X.env = (false, eval (.Name y py) X.env) :: starEach es X.env := by rfl) (hdb : (x == ("__debug__" : Str)) = false := by decide) (hpl : (backTo pos (starEach es X.env)).any (·.1) = false := by rfl) :
    QE X dl (.Call (.Name x p) (.Name y py :: es) [] pos) (wCallD i n wf wa) := by
  obtain ⟨f, fd, ps, F, hm, kp, hb⟩ := c.out
  obtain ⟨ta, pa, sa⟩ := h
  refine ⟨_, pg_call F hgd (hr.mono hk) hg hm kp hb .nil pass0 (pa_cons ho pa hs) hdb hs hpl, fun B0 H0 B σ H ρ P Q hw e kk => ?_⟩
  obtain ⟨q, hq, hσ⟩ := e.sl i _ hw.1
  refine ⟨.ref q.1, hσ, sa B0 H0 B σ H ρ _ _ hw.2 e ?_⟩
  rintro vs B1 H1 ds ⟨hl, hp⟩ g hd
  rw [List.append_nil]
  have e1 := e.grow g
  have hdl : dl = some (q.1, q.2) := hq
  subst hdl
  exact ⟨B1, ds, P, q.1, q.2, vs, rfl, g.bh, g.dk, (e1.av _ rfl).1, (e1.av _ rfl).2, hd, hl, hp, fun v B' H' d hq g2 hv => kk v B' H' d hq (g.trans g2) hv⟩
/-- keywords' values -/
def QK (X : Cx) (dl : DL) (kws : List Keyword) (wa : WA) : Prop := ∃ tk, PK X kws tk ∧ SA X.K dl tk wa
variable {kws : List Keyword} {ks : List Str} {π : List Nat}
theorem qk_nil : QK X dl [] wNil := ⟨_, pk_nil, fun _ _ _ _ _ _ _ _ hw e k => k [] _ _ [] hw e.self .nil⟩
theorem qk_cons {nm : Option Str} {kpos : Pos} {we : WE} {ws : WA} (h : QE X dl a we) (hr : QK X dl kws ws) : QK X dl (⟨nm, a, kpos⟩ :: kws) (wCons we ws) := by
  obtain ⟨ta, pa, sa⟩ := h
  obtain ⟨tr, pr, sr⟩ := hr
  refine ⟨_, pk_cons pa pr, fun B0 H0 B σ H ρ P Q hw e k => sa B0 H0 B σ H ρ _ _ hw e fun v B1 H1 d hp g1 h1 => ?_⟩
  exact sr B0 H0 B1 σ H1 ρ _ _ hp (e.grow g1) fun vs B2 H2 ds hq g2 h2 => k (v :: vs) B2 H2 (d :: ds) hq (g1.trans g2) (.cons (h1.up g2.bb) h2)
/-- f(k = v, ..) -/
theorem q_callK (c : CalK X.prog X.w X.K X.mg X.base k x n ks π wf) (hgd : X.A.guards = some []) (hr : Room j X.A) (hk : k ≤ j) (hg : Gl X x) (h : QK X dl kws wa)
    (hall : (backToKw pos (keywordEach kws X.env)).all (·.1.isSome) = true := by rfl) (hks : (backToKw pos (keywordEach kws X.env)).filterMap (·.1) = ks := by rfl) (hdb : (x == ("__debug__" : Str)) = false := by decide)
    (hpl : ((backTo pos (starEach [] X.env)).any (·.1) || (backToKw pos (keywordEach kws X.env)).any (·.1.isNone)) = false := by rfl) :
    QE X dl (.Call (.Name x p) [] kws pos) (wCallK ks.length n π wf wa) := by
  obtain ⟨f, fd, ps, F, hm, kp, hb⟩ := c.out
  obtain ⟨tk, pk, sk⟩ := h
  refine ⟨fun σ H Q => tk σ H fun zs H1 => zs.length = ks.length ∧ spF X.K n wf (permL π zs) H1 Q E0, ⟨fun pins s σ H Q I h => ?_⟩, fun B0 H0 B σ H ρ P Q hw e kk => sk B0 H0 B σ H ρ _ _ hw e ?_⟩
  · refine wpAny_Call_Name_kw (ld_glob I hg hm ?_ hdb)
    refine PySem.W.callWith_KW0 (h₀ := X.base) I.ok.mod.kin kp hall ?_ hpl
    refine thn (pk.run pos pins s σ H _ I h) fun ws s2 ⟨zs, H2, I2, rz, hz, q2⟩ => ⟨I2.kIn, ?_⟩
    rw [hks]
    have rp : ∀ π : List Nat, Vals (permL π zs) (permL π ws) := by
      intro π
      induction π with
      | nil => exact .nil
      | cons i π ih =>
        unfold permL at ih ⊢
        rw [List.filterMap_cons, List.filterMap_cons]
        cases hv : zs[i]? with
        | none => rw [rz.none_of hv]; exact ih
        | some v => obtain ⟨u, hu, ru⟩ := rz.get hv; rw [hu]; exact .cons ru ih
    refine wpAny_call (codeAny_mono (F.go X.A hgd X.stack s2 H2 ⟨[], ks.zip ws⟩ (permL π ws) (permL π zs) Q E0 (hr.mono hk) I2.env0 (hb s2 ws (by rw [← rz.length]; exact hz)) (rp π) q2) ?_)
    intro r s' hq
    match r, hq with
    | .error e, hq => exact hq.elim
    | .ok (.ret u), hq => exact I2.after hq
    | .ok .next, hq => exact hq.elim
    | .ok .brk, hq => exact hq.elim
    | .ok .cont, hq => exact hq.elim
  · rintro vs B1 H1 ds ⟨hl, hl2, hp⟩ g hd
    exact ⟨by rw [hd.len]; exact hl, B1, _, P, g.bh, hd.perm π, hl2, hp, fun v B' H' d hq g2 hv => kk v B' H' d hq (g.trans (g2.same g.dk)) hv⟩
end

theorem _root_.L2.Fun.bindsK {K : PySem.W.Frag} {x qual : Str} {st : Stmt} {f : Addr} {fd : FuncData} {ps ks : List Str} {π : List Nat} (F : Fun K x qual st f fd)
    (h : ∀ (kV doc pm : Value) (an : Option Addr) (cdv ct : Value) (ws : List Value), ws.length = ks.length → bindArgs (PySem.W.fnOf x qual (defArgs st) (defBody st) (defScope st) .none kV doc pm an cdv ct) ⟨[], ks.zip ws⟩ = pure (ps.zip (permL π ws))) :
    ∀ (s : Shared) (ws : List Value), ws.length = ks.length → BindsTo s fd ⟨[], ks.zip ws⟩ (ps.zip (permL π ws)) := by
  obtain ⟨oc, od, kV, doc, pm, an, cdv, ct, osl, rfl, lk, hcd⟩ := F.ex
  exact fun s ws hl => .of_eq (h kV doc pm an cdv ct ws hl)
section
variable {P : Program} {w : World} {K : PySem.W.Frag} {mg : Str → Option Value} {base : Heap} {x qual : Str} {st : Stmt} {f : Addr} {fd : FuncData} {ps : List Str} {k n : Nat} {wf : WF}
theorem cal_mk (F : Fun K x qual st f fd) (G : FnG P w K mg base CX0 k f fd ps (spF K n wf)) (hm : mg x = some (.ref f)) (hb : Binds K fd ps []) : Cal P w K mg base k x n wf := ⟨f, fd, ps, G, hm, F.kp, hb⟩
theorem calD_mk (F : Fun K x qual st f fd) (G : FnG P w K mg base CX0 k f fd ps (spD K n wf)) (hm : mg x = some (.ref f)) (hb : Binds K fd ps []) : CalD P w K mg base k x n wf := ⟨f, fd, ps, G, hm, F.kp, hb⟩
theorem calK_mk {ks : List Str} {π : List Nat} (F : Fun K x qual st f fd) (G : FnG P w K mg base CX0 k f fd ps (spF K n wf)) (hm : mg x = some (.ref f)) (hb : ∀ (s : Shared) (ws : List Value), ws.length = ks.length → BindsTo s fd ⟨[], ks.zip ws⟩ (ps.zip (permL π ws))) : CalK P w K mg base k x n ks π wf := ⟨f, fd, ps, G, hm, F.kp, hb⟩
end
/-! ### a def, by its body over data -/
def wDef (n : Nat) (ws : WS) : WF := fun ds P => ws { nx := fun _ => P .none, rt := P } (ds.map Sl.dat ++ List.replicate (n - ds.length) .no)
def wDefD (n : Nat) (ws : WS) : WF := fun ds P => ws { nx := fun _ => P .none, rt := P } (.deal :: ds.map Sl.dat ++ List.replicate (n - (ds.length + 1)) .no)
theorem startE {K : PySem.W.Frag} {dl : DL} {B H : Hp} {vs : List V} {ds : List PyData} {N : List Str} (sm : Same B H) (dk : DealOk dl H) (av : ∀ p, dl = some p → B p.1 = none ∧ B p.2 = none) (hd : DatAll K B vs ds) : EnvOk K dl B H B (L2.start N vs) H (ds.map Sl.dat ++ List.replicate (N.length - ds.length) .no) := by
  have hl := hd.len
  have noOwn : ∀ (i : Nat) (s : Sl), (ds.map Sl.dat ++ List.replicate (N.length - ds.length) .no)[i]? = some s → s.isOwn = true → False := fun i s h o => by
    have := List.mem_of_getElem? h
    rcases List.mem_append.mp this with h | h
    · obtain ⟨d, _, rfl⟩ := List.mem_map.mp h; cases o
    · rw [List.eq_of_mem_replicate h] at o; cases o
  refine ⟨by unfold L2.start; simp [hl], .refl sm dk, av, fun i s h => ?_, fun i j s t a n hi hj os ot es et => noOwn i s hi os⟩
  by_cases hi : i < ds.length
  · rw [List.getElem?_append_left (by simpa using hi), List.getElem?_map, List.getElem?_eq_getElem hi] at h
    cases h
    obtain ⟨v, e1, e2⟩ := hd.get (List.getElem?_eq_getElem hi)
    refine ⟨v, ?_, e2⟩
    unfold L2.start
    rw [List.getElem?_append_left (by simpa [hl] using hi), List.getElem?_map, e1]
    rfl
  · rw [List.getElem?_append_right (by simpa using hi)] at h
    rw [List.eq_of_mem_replicate (List.mem_of_getElem? h)]
    trivial
section
variable {P : Program} {w : World} {K : PySem.W.Frag} {mg : Str → Option Value} {base : Heap} {x qual : Str} {st : Stmt} {f : Addr} {fd : FuncData} {N ps : List Str} {k : Nat} {ws : WS}
theorem okF (F : Fun K x qual st f fd) (S : FnScope N ps (defScope st))
    (body : ∀ (cdv : Value) (A : Around) (outer : List Env) (s : Shared) (H : Hp) (E : XK), A.guards = some [] → Room k (A.deeper (envOfC qual (defScope st) s.heap.objs.size f cdv)) → QSs (cxOf CX0 P w K mg base N qual (defScope st) f cdv A outer s H E).nox none (defBody st) ws) :
    FnG P w K mg base CX0 (k + 1) f fd ps (spF K ps.length (wDef N.length ws)) := by
  refine okG F S (fun vs H Q E h => ?_) fun cdv A outer s H vs Q E hg hr h => ?_
  · obtain ⟨B, ds, P, _, hd, hl, _⟩ := h
    rw [hd.len]; exact hl
  · obtain ⟨B, ds, P, sm, hd, hl, hw, kk⟩ := h
    obtain ⟨t, pt, tt⟩ := body cdv A outer s H E hg hr
    exact ⟨t, pt.nox, tt B H B _ H _ _ _ hw (startE sm deal_none (fun _ h => nomatch h) hd) ⟨fun _ B' _ H' hn e => kk .non B' H' .none hn e.fr .non, fun d v B' H' hp g hv => kk v B' H' d hp g hv, fun _ _ _ _ hn _ => hn.elim, fun _ _ _ _ hn _ => hn.elim⟩⟩
theorem okFD {n : Nat} (F : Fun K x qual st f fd) (S : FnScope N ps (defScope st)) (hn : ps.length = n + 1)
    (body : ∀ (dl : DL) (cdv : Value) (A : Around) (outer : List Env) (s : Shared) (H : Hp) (E : XK), A.guards = some [] → Room k (A.deeper (envOfC qual (defScope st) s.heap.objs.size f cdv)) → QSs (cxOf CX0 P w K mg base N qual (defScope st) f cdv A outer s H E).nox dl (defBody st) ws) :
    FnG P w K mg base CX0 (k + 1) f fd ps (spD K n (wDefD N.length ws)) := by
  refine okG F S (fun vs H Q E h => ?_) fun cdv A outer s H vs Q E hg hr h => ?_
  · obtain ⟨B, ds, P, a, c, rest, rfl, _, _, _, _, hd, hl, _⟩ := h
    rw [List.length_cons, hd.len, hl, hn]
  · obtain ⟨B, ds, P, a, c, rest, rfl, sm, dk, a1, a2, hd, hl, hw, kk⟩ := h
    obtain ⟨t, pt, tt⟩ := body (some (a, c)) cdv A outer s H E hg hr
    have av : ∀ p, (some (a, c) : DL) = some p → B p.1 = none ∧ B p.2 = none := fun p hp => by cases hp; exact ⟨a1, a2⟩
    refine ⟨t, pt.nox, tt B H B _ H _ _ _ hw ?_ ⟨fun _ B' _ H' hn e => kk .non B' H' .none hn e.fr .non, fun d v B' H' hp g hv => kk v B' H' d hp g hv, fun _ _ _ _ hn _ => hn.elim, fun _ _ _ _ hn _ => hn.elim⟩⟩
    have e0 := startE (N := N.drop 1) sm dk av hd
    have hs : start N (.ref a :: rest) = some (.ref a) :: start (N.drop 1) rest := by
      unfold L2.start
      simp [Nat.sub_sub, Nat.add_comm]
    have hr2 : Sl.deal :: ds.map Sl.dat ++ List.replicate (N.length - (ds.length + 1)) Sl.no = Sl.deal :: (ds.map Sl.dat ++ List.replicate ((N.drop 1).length - ds.length) Sl.no) := by
      simp [Nat.sub_sub, Nat.add_comm]
    rw [hs, hr2]
    refine ⟨by rw [List.length_cons, List.length_cons, e0.len], e0.fr, e0.av, fun i s h => ?_, fun i j s t b n hi hj os ot es et => ?_⟩
    · cases i with
      | zero => cases (show some Sl.deal = some s from h); exact ⟨(a, c), rfl, rfl⟩
      | succ i => exact e0.sl i s h
    · cases i with
      | zero => cases (show some Sl.deal = some s from hi); cases os
      | succ i =>
        cases j with
        | zero => cases (show some Sl.deal = some t from hj); cases ot
        | succ j => exact e0.sep i j s t b (fun z => n (by rw [z])) hi hj os ot es et
end
end Lay

namespace Lay
open PySem PySem.Spec PyProof.Rows L2

/-! ### operators over data -/
def dAdd : PyData → PyData → (PyData → Prop) → Prop
  | .int i, .int j, P => P (.int (i + j))
  | .str x, .str y, P => x.length + y.length ≤ 1000000 ∧ P (.str (x ++ y))
  | .list a, .list b, P => a.length + b.length ≤ 1000000 ∧ P (.list (a ++ b))
  | .tuple a, .tuple b, P => a.length + b.length ≤ 1000000 ∧ P (.tuple (a ++ b))
  | _, _, _ => False
def dI (C : Int → Int → Prop) (g : Int → Int → Int) : PyData → PyData → (PyData → Prop) → Prop
  | .int i, .int j, P => C i j ∧ P (.int (g i j))
  | _, _, _ => False
def CAny (_ _ : Int) : Prop := True
def CMulA (i j : Int) : Prop := CMul i j ∨ CMulX i j
def CPos (_ j : Int) : Prop := 0 < j
def CNn (_ j : Int) : Prop := 0 ≤ j
def dSub := dI CAny fun i j => i - j
def dMul := dI CMulA fun i j => i * j
def dFdiv := dI CDivW fun i j => i / j
def dMod := dI CPos fun i j => i % j
def dPow := dI CPow fun i j => i ^ j.toNat
def dShl := dI CPow fun i j => i * 2 ^ j.toNat
def dShr := dI CNn fun i j => i / 2 ^ j.toNat
def dAnd := dI CAny fun i j => Builtin.bitAnd i j
def dOr := dI CAny fun i j => Builtin.bitOr i j
def dXor := dI CAny fun i j => Builtin.bitXor i j
def dNeg : PyData → (PyData → Prop) → Prop
  | .int i, P => P (.int (-i))
  | _, _ => False

section
variable {X : Cx} {dl : DL} {K : PySem.W.Frag}
theorem line_of {n : Nat} (h : n ≤ 1000000) : n ≤ sizeLine := Nat.le_trans h (by decide)
theorem rd_int {r : R2} {C : Int → Int → Prop} {g : Int → Int → Int} (h : ∀ (i j : Int) (H : Hp) (Q : VK), C i j → Q (.int (g i j)) H → r (.int i) (.int j) H Q) : RD K dl r (dI C g) := by
  intro x y d e P B H Q hw hx hy sm dk k
  cases hx with
  | int i =>
    cases hy with
    | int j => exact h i j H Q hw.1 (k _ B H _ hw.2 (.refl sm dk) (.int _))
    | _ => exact hw.elim
  | _ => exact hw.elim
abbrev rAddU (K : PySem.W.Frag) : R2 := fun x y H Q => rI0 (fun i j => .int (i + j)) x y H Q ∨ ((∃ i j, x = .str i ∧ y = .str j ∧ i.length + j.length ≤ sizeLine ∧ Q (.str (i ++ j)) H) ∨ (rCat x y H Q ∨ rCatA K x y H Q))
theorem op_addU : OpR X (binaryOp .Add) (rAddU X.K) := op_add.or (op_add_str.or (op_cat.or op_catA))
theorem rd_add : RD K dl (rAddU K) dAdd := by
  intro x y d e P B H Q hw hx hy sm dk k
  cases hx with
  | int i =>
    cases hy with
    | int j => exact .inl ⟨i, j, rfl, rfl, k _ B H _ hw (.refl sm dk) (.int _)⟩
    | _ => exact hw.elim
  | str i =>
    cases hy with
    | str j => exact .inr (.inl ⟨i, j, rfl, rfl, line_of hw.1, k _ B H _ hw.2 (.refl sm dk) (.str _)⟩)
    | _ => exact hw.elim
  | lst h1 h2 =>
    cases hy with
    | lst g1 g2 =>
      rename_i a vs ds b us es
      refine .inr (.inr (.inl ⟨_, _, _, _, rfl, rfl, sm _ _ h1, sm _ _ g1, by rw [h2.len, g2.len]; exact line_of hw.1, fun p np => ?_⟩))
      have gn := Grow.new sm dk (o := .lst (vs ++ us)) np
      exact k _ _ _ _ hw.2 gn (.lst upd_same ((h2.append g2).up gn.bb))
    | _ => exact hw.elim
  | tup h1 h2 =>
    cases hy with
    | tup g1 g2 =>
      rename_i a vs ds b us es
      refine .inr (.inr (.inr ⟨_, _, _, _, rfl, rfl, sm.tup h1, sm.tup g1, by rw [h2.len, g2.len]; exact line_of hw.1, fun e => ?_, fun _ e => ?_, fun _ _ p np => ?_⟩))
      · subst e
        cases h2
        exact k _ B H _ hw.2 (.refl sm dk) (.tup g1 g2)
      · subst e
        cases g2
        have hw2 : P (.tuple (ds ++ [])) := hw.2
        rw [List.append_nil] at hw2
        exact k _ B H _ hw2 (.refl sm dk) (.tup h1 h2)
      · have gn := Grow.new sm dk (o := .tup (vs ++ us)) np
        exact k _ _ _ _ hw.2 gn (.tup (SqT.of upd_same) ((h2.append g2).up gn.bb))
    | _ => exact hw.elim
  | _ => exact hw.elim
theorem rd_sub : RD K dl (rI0 fun i j => .int (i - j)) dSub := rd_int fun i j H Q _ q => ⟨i, j, rfl, rfl, q⟩
abbrev rMulU : R2 := fun x y H Q => rI CMul (fun i j => .int (i * j)) x y H Q ∨ rI CMulX (fun i j => .int (i * j)) x y H Q
theorem op_mulU : OpR X (binaryOp .Mult) rMulU := op_mul.or op_mulX
theorem rd_mul : RD K dl rMulU dMul := rd_int fun i j H Q c q => c.elim (fun c => .inl ⟨i, j, rfl, rfl, c, q⟩) fun c => .inr ⟨i, j, rfl, rfl, c, q⟩
theorem rd_fdiv : RD K dl (rI CDivW fun i j => .int (i / j)) dFdiv := rd_int fun i j H Q c q => ⟨i, j, rfl, rfl, c, q⟩
theorem rd_mod : RD K dl (rI (fun _ j => 0 < j) fun i j => .int (i % j)) dMod := rd_int fun i j H Q c q => ⟨i, j, rfl, rfl, c, q⟩
theorem rd_pow : RD K dl (rI CPow fun i j => .int (i ^ j.toNat)) dPow := rd_int fun i j H Q c q => ⟨i, j, rfl, rfl, c, q⟩
theorem rd_shl : RD K dl (rI CPow fun i j => .int (i * 2 ^ j.toNat)) dShl := rd_int fun i j H Q c q => ⟨i, j, rfl, rfl, c, q⟩
theorem rd_shr : RD K dl (rI (fun _ j => 0 ≤ j) fun i j => .int (i / 2 ^ j.toNat)) dShr := rd_int fun i j H Q c q => ⟨i, j, rfl, rfl, c, q⟩
theorem rd_and : RD K dl (rI0 fun i j => .int (Builtin.bitAnd i j)) dAnd := rd_int fun i j H Q _ q => ⟨i, j, rfl, rfl, q⟩
theorem rd_or : RD K dl (rI0 fun i j => .int (Builtin.bitOr i j)) dOr := rd_int fun i j H Q _ q => ⟨i, j, rfl, rfl, q⟩
theorem rd_xor : RD K dl (rI0 fun i j => .int (Builtin.bitXor i j)) dXor := rd_int fun i j H Q _ q => ⟨i, j, rfl, rfl, q⟩
variable {a b c e : Expr} {es : List Expr} {wa wb : WE} {ws : WA} {pos p : Pos}
theorem q_add (ha : QE X dl a wa) (hb : QE X dl b wb) : QE X dl (.BinOp a .Add b pos) (wOp dAdd wa wb) := q_op op_addU rd_add ha hb
theorem q_sub (ha : QE X dl a wa) (hb : QE X dl b wb) : QE X dl (.BinOp a .Sub b pos) (wOp dSub wa wb) := q_op op_sub rd_sub ha hb
theorem q_mul (ha : QE X dl a wa) (hb : QE X dl b wb) : QE X dl (.BinOp a .Mult b pos) (wOp dMul wa wb) := q_op op_mulU rd_mul ha hb
theorem q_fdiv (ha : QE X dl a wa) (hb : QE X dl b wb) : QE X dl (.BinOp a .FloorDiv b pos) (wOp dFdiv wa wb) := q_op op_fdivW rd_fdiv ha hb
theorem q_mod (ha : QE X dl a wa) (hb : QE X dl b wb) : QE X dl (.BinOp a .Mod b pos) (wOp dMod wa wb) := q_op op_mod rd_mod ha hb
theorem q_pow (ha : QE X dl a wa) (hb : QE X dl b wb) : QE X dl (.BinOp a .Pow b pos) (wOp dPow wa wb) := q_op op_pow rd_pow ha hb
theorem q_shl (ha : QE X dl a wa) (hb : QE X dl b wb) : QE X dl (.BinOp a .LShift b pos) (wOp dShl wa wb) := q_op op_shl rd_shl ha hb
theorem q_shr (ha : QE X dl a wa) (hb : QE X dl b wb) : QE X dl (.BinOp a .RShift b pos) (wOp dShr wa wb) := q_op op_shr rd_shr ha hb
theorem q_band (ha : QE X dl a wa) (hb : QE X dl b wb) : QE X dl (.BinOp a .BitAnd b pos) (wOp dAnd wa wb) := q_op op_and rd_and ha hb
theorem q_bor (ha : QE X dl a wa) (hb : QE X dl b wb) : QE X dl (.BinOp a .BitOr b pos) (wOp dOr wa wb) := q_op op_or rd_or ha hb
theorem q_bxor (ha : QE X dl a wa) (hb : QE X dl b wb) : QE X dl (.BinOp a .BitXor b pos) (wOp dXor wa wb) := q_op op_xor rd_xor ha hb
theorem q_neg (ha : QE X dl a wa) : QE X dl (.UnaryOp .USub a pos) (wUn dNeg wa) := by
  obtain ⟨ta, pa, sa⟩ := ha
  refine ⟨_, pe_un un_neg pa, fun B0 H0 B σ H ρ P Q hw e k => sa B0 H0 B σ H ρ _ _ hw e fun v B1 H1 d hp g hd => ?_⟩
  cases hd with
  | int i => exact ⟨i, rfl, k _ B1 H1 _ hp g (.int _)⟩
  | _ => exact hp.elim

/-! ### comparisons over data -/
def dEq (d e : PyData) (P : Bool → Prop) : Prop := SeqAt.shaped d = true ∧ SeqAt.shaped e = true ∧ P (PyData.eqv d e)
def dNe (d e : PyData) (P : Bool → Prop) : Prop := SeqAt.shaped d = true ∧ SeqAt.shaped e = true ∧ P (!PyData.eqv d e)
def dCmp (f : Int → Int → Bool) (g : Str → Str → Bool) : PyData → PyData → (Bool → Prop) → Prop
  | .int i, .int j, P => P (f i j)
  | .str x, .str y, P => P (g x y)
  | _, _, _ => False
def dLt := dCmp (fun i j => decide (i < j)) fun x y => decide (x.cps.toList < y.cps.toList)
def dLe := dCmp (fun i j => decide (i ≤ j)) fun x y => !decide (y.cps.toList < x.cps.toList)
def dGt := dCmp (fun i j => decide (j < i)) fun x y => decide (y.cps.toList < x.cps.toList)
def dGe := dCmp (fun i j => decide (j ≤ i)) fun x y => !decide (x.cps.toList < y.cps.toList)
def isNone : PyData → Bool
  | .none => true
  | _ => false
def dIs : PyData → PyData → (Bool → Prop) → Prop
  | d, .none, P => P (isNone d)
  | .bool a, .bool b, P => P (decide (a = b))
  | _, _, _ => False
def dIsNot : PyData → PyData → (Bool → Prop) → Prop
  | d, .none, P => P (!isNone d)
  | .bool a, .bool b, P => P (!decide (a = b))
  | _, _, _ => False
def flatD : PyData → Bool
  | .none => true
  | .bool _ => true
  | .int _ => true
  | .str _ => true
  | _ => false
def dIn : PyData → PyData → (Bool → Prop) → Prop
  | d, .tuple ys, P => flatD d = true ∧ ys.all flatD = true ∧ P (ys.any fun y => PyData.eqv y d)
  | d, .list ys, P => SeqAt.shaped d = true ∧ SeqAt.shaped (.list ys) = true ∧ P (ys.any fun y => PyData.eqv y d)
  | .str x, .str y, P => ∃ c : Nat, x = ⟨#[c]⟩ ∧ P (decide (c ∈ y.cps.toList))
  | _, _, _ => False
def dNotIn (d e : PyData) (P : Bool → Prop) : Prop := dIn d e fun b => P (!b)
theorem rb_eq : RB K (rEqD K) dEq := fun x y d e P H Q hw hx hy k => ⟨d, e, hx.dp, hy.dp, hw.1, hw.2.1, k _ hw.2.2⟩
theorem rb_ne : RB K (rNeD K) dNe := fun x y d e P H Q hw hx hy k => ⟨d, e, hx.dp, hy.dp, hw.1, hw.2.1, k _ hw.2.2⟩
theorem rb_cmp {r r' : R2} {f : Int → Int → Bool} {g : Str → Str → Bool} (hi : ∀ i j H (Q : VK), Q (.bl (f i j)) H → r (.int i) (.int j) H Q) (hs : ∀ x y H (Q : VK), Q (.bl (g x y)) H → r' (.str x) (.str y) H Q) :
    RB K (fun x y H Q => r x y H Q ∨ r' x y H Q) (dCmp f g) := by
  intro x y d e P H Q hw hx hy k
  cases hx with
  | int i =>
    cases hy with
    | int j => exact .inl (hi i j H Q (k _ hw))
    | _ => exact hw.elim
  | str i =>
    cases hy with
    | str j => exact .inr (hs i j H Q (k _ hw))
    | _ => exact hw.elim
  | _ => exact hw.elim
theorem isNone_of {B : Hp} {v : V} {d : PyData} (h : Dat K B v d) : decide (v = .non) = isNone d := by cases h <;> rfl
theorem rb_is : RB K (fun x y H Q => (y = .non ∧ Q (.bl (decide (x = .non))) H) ∨ rIsB x y H Q) dIs := by
  intro x y d e P H Q hw hx hy k
  cases hy with
  | non =>
    have hw' : P (isNone d) := by cases hx <;> exact hw
    exact .inl ⟨rfl, by rw [isNone_of hx]; exact k _ hw'⟩
  | bl b =>
    cases hx with
    | bl a => exact .inr ⟨a, b, rfl, rfl, k _ hw⟩
    | _ => exact hw.elim
  | _ => cases hx <;> exact hw.elim
theorem rb_isnot : RB K (fun x y H Q => (y = .non ∧ Q (.bl (!decide (x = .non))) H) ∨ rNotB x y H Q) dIsNot := by
  intro x y d e P H Q hw hx hy k
  cases hy with
  | non =>
    have hw' : P (!isNone d) := by cases hx <;> exact hw
    exact .inl ⟨rfl, by rw [isNone_of hx]; exact k _ hw'⟩
  | bl b =>
    cases hx with
    | bl a => exact .inr ⟨a, b, rfl, rfl, k _ hw⟩
    | _ => exact hw.elim
  | _ => cases hx <;> exact hw.elim
theorem flat_of {B : Hp} {v : V} {d : PyData} (h : Dat K B v d) (f : flatD d = true) : flatV v = true := by cases h <;> first | rfl | cases f
theorem flat_all {B : Hp} : ∀ {vs : List V} {ds : List PyData}, DatAll K B vs ds → ds.all flatD = true → vs.all flatV = true
  | _, _, .nil, _ => rfl
  | _, _, .cons h t, f => by
    rw [List.all_cons, Bool.and_eq_true] at f
    rw [List.all_cons, flat_of h f.1, flat_all t f.2]
    rfl
theorem eqv_of {B : Hp} {v u : V} {d e : PyData} (h : Dat K B v d) (g : Dat K B u e) (f : flatD d = true) (f2 : flatD e = true) : eqV v u = PyData.eqv d e := by
  cases h <;> cases g <;> first | rfl | cases f | cases f2
theorem inV_of {B : Hp} {u : V} {e : PyData} (g : Dat K B u e) (f2 : flatD e = true) : ∀ {vs : List V} {ds : List PyData}, DatAll K B vs ds → ds.all flatD = true → inV u vs = ds.any fun y => PyData.eqv y e
  | _, _, .nil, _ => rfl
  | _, _, .cons h t, f => by
    rw [List.all_cons, Bool.and_eq_true] at f
    unfold inV
    rw [List.any_cons, List.any_cons, eqv_of h g f.1 f2]
    exact congrArg _ (inV_of g f2 t f.2)
abbrev rInU (K : PySem.W.Frag) (neg : Bool) (rs rd : R2) : R2 := fun x y H Q => rIn K neg x y H Q ∨ (rs x y H Q ∨ rd x y H Q)
theorem rb_in : RB K (rInU K false (fun x y H Q => ∃ (c : Nat) (z : Str), x = .str ⟨#[c]⟩ ∧ y = .str z ∧ Q (.bl (decide (c ∈ z.cps.toList))) H) (rInD K)) dIn := by
  intro x y d e P H Q hw hx hy k
  cases hy with
  | @tup _ _ ys h1 h2 =>
    have hw' : flatD d = true ∧ ys.all flatD = true ∧ P (ys.any fun y => PyData.eqv y d) := by cases hx <;> exact hw
    obtain ⟨f1, f2, q⟩ := hw'
    exact .inl ⟨_, _, rfl, .inr h1, flat_of hx f1, flat_all h2 f2, by rw [if_neg Bool.false_ne_true, inV_of hx f1 h2 f2]; exact k _ q⟩
  | @lst _ _ ys h1 h2 =>
    have hw' : SeqAt.shaped d = true ∧ SeqAt.shaped (.list ys) = true ∧ P (ys.any fun y => PyData.eqv y d) := by cases hx <;> exact hw
    obtain ⟨f1, f2, q⟩ := hw'
    exact .inr (.inr ⟨d, _, hx.dp, (Dat.lst h1 h2).dp, f1, f2, k _ q⟩)
  | str y =>
    cases hx with
    | str x =>
      obtain ⟨c, rfl, q⟩ := hw
      exact .inr (.inl ⟨c, y, rfl, rfl, k _ q⟩)
    | _ => exact hw.elim
  | _ => cases hx <;> exact hw.elim
theorem rb_notin : RB K (rInU K true (fun x y H Q => ∃ (c : Nat) (z : Str), x = .str ⟨#[c]⟩ ∧ y = .str z ∧ Q (.bl (!decide (c ∈ z.cps.toList))) H) (rNotInD K)) dNotIn := by
  intro x y d e P H Q hw hx hy k
  cases hy with
  | @tup _ _ ys h1 h2 =>
    have hw' : flatD d = true ∧ ys.all flatD = true ∧ P (!(ys.any fun y => PyData.eqv y d)) := by cases hx <;> exact hw
    obtain ⟨f1, f2, q⟩ := hw'
    exact .inl ⟨_, _, rfl, .inr h1, flat_of hx f1, flat_all h2 f2, by rw [if_pos rfl, inV_of hx f1 h2 f2]; exact k _ q⟩
  | @lst _ _ ys h1 h2 =>
    have hw' : SeqAt.shaped d = true ∧ SeqAt.shaped (.list ys) = true ∧ P (!(ys.any fun y => PyData.eqv y d)) := by cases hx <;> exact hw
    obtain ⟨f1, f2, q⟩ := hw'
    exact .inr (.inr ⟨d, _, hx.dp, (Dat.lst h1 h2).dp, f1, f2, k _ q⟩)
  | str y =>
    cases hx with
    | str x =>
      obtain ⟨c, rfl, q⟩ := hw
      exact .inr (.inl ⟨c, y, rfl, rfl, k _ q⟩)
    | _ => exact hw.elim
  | _ => cases hx <;> exact hw.elim
/-- room for deep comparisons -/
def Deep (X : Cx) : Prop := X.A.units + 65 < cLine
theorem deep_of {k : Nat} (h : Room k X.A) : Deep X := by have := h.un; unfold Deep; omega
/-- the comparisons, as an operator with what it tells -/
structure CmpO (X : Cx) (op : CmpOp) (w : PyData → PyData → (Bool → Prop) → Prop) : Prop where
  out : ∃ r, OpR X (compareOp op) r ∧ RB X.K r w
theorem c_eq (h : Deep X) : CmpO X .Eq dEq := ⟨_, op_eqD (by unfold Deep at h; omega), rb_eq⟩
theorem c_ne (h : Deep X) : CmpO X .NotEq dNe := ⟨_, op_neD (by unfold Deep at h; omega), rb_ne⟩
theorem c_lt : CmpO X .Lt dLt := ⟨_, op_lt.or op_lt_str, rb_cmp (fun i j _ _ q => ⟨i, j, rfl, rfl, q⟩) fun x y _ _ q => ⟨x, y, rfl, rfl, q⟩⟩
theorem c_le : CmpO X .LtE dLe := ⟨_, op_le.or op_le_str, rb_cmp (fun i j _ _ q => ⟨i, j, rfl, rfl, q⟩) fun x y _ _ q => ⟨x, y, rfl, rfl, q⟩⟩
theorem c_gt : CmpO X .Gt dGt := ⟨_, op_gt.or op_gt_str, rb_cmp (fun i j _ _ q => ⟨i, j, rfl, rfl, q⟩) fun x y _ _ q => ⟨x, y, rfl, rfl, q⟩⟩
theorem c_ge : CmpO X .GtE dGe := ⟨_, op_ge.or op_ge_str, rb_cmp (fun i j _ _ q => ⟨i, j, rfl, rfl, q⟩) fun x y _ _ q => ⟨x, y, rfl, rfl, q⟩⟩
theorem c_is : CmpO X .Is dIs := ⟨_, op_isN.or op_isBl, rb_is⟩
theorem c_isnot : CmpO X .IsNot dIsNot := ⟨_, op_notN.or op_notBl, rb_isnot⟩
theorem c_in (h : Deep X) : CmpO X .In dIn := ⟨_, op_in_seq.or (op_in_sign.or (op_inD h)), rb_in⟩
theorem c_notin (h : Deep X) : CmpO X .NotIn dNotIn := ⟨_, op_notIn_seq.or (op_notIn_sign.or (op_notInD h)), rb_notin⟩
theorem q_rel {op : CmpOp} {w : PyData → PyData → (Bool → Prop) → Prop} (c : CmpO X op w) (ha : QV X dl a wa) (hb : QV X dl b wb) (hm : behindInMarks op b = false := by first | exact nomark _ | rfl) : QE X dl (.Compare a [op] [b] pos) (wBool (wCmp w wa wb)) := c.out.elim fun r h => q_cmp h.1 h.2 ha hb hm
theorem t_rel {op : CmpOp} {w : PyData → PyData → (Bool → Prop) → Prop} (c : CmpO X op w) (ha : QV X dl a wa) (hb : QV X dl b wb) (hm : behindInMarks op b = false := by first | exact nomark _ | rfl) : QT X dl (.Compare a [op] [b] pos) (wCmp w wa wb) := c.out.elim fun r h => t_cmp h.1 h.2 ha hb hm

/-! ### calls of built-ins over data -/
def dLen : WF := fun ds P => match ds with
  | [.list xs] => P (.int xs.length)
  | [.tuple xs] => P (.int xs.length)
  | [.str x] => x.length ≤ 1000000 ∧ P (.int x.length)
  | _ => False
def dAbs : WF := fun ds P => match ds with
  | [.int i] => P (.int (if i < 0 then -i else i))
  | _ => False
def dMax2 : WF := fun ds P => match ds with
  | [.int i, .int j] => P (.int (if j > i then j else i))
  | _ => False
def dMin2 : WF := fun ds P => match ds with
  | [.int i, .int j] => P (.int (if j < i then j else i))
  | _ => False
def dInt : WF := fun ds P => match ds with
  | [.int i] => P (.int i)
  | [.bool b] => P (.int (if b then 1 else 0))
  | _ => False
def dStr : WF := fun ds P => match ds with
  | [.int i] => i.natAbs.log2 < 1920 ∧ P (.str (toString i))
  | _ => False
def dRepr : WF := fun ds P => match ds with
  | [d] => d.showable = true ∧ d.depth ≤ 60 ∧ d.shown.length ≤ sizeLine ∧ P (.str d.shown)
  | _ => False
/-- isinstance with one of the plain types -/
def tyName : PyData → String
  | .none => "NoneType"
  | .bool _ => "bool"
  | .int _ => "int"
  | .str _ => "str"
  | .list _ => "list"
  | .tuple _ => "tuple"
  | .dict _ => "dict"
def isTyN (T t : String) : Bool := T == t || (T == "int" && t == "bool")
def isTy (T : String) (d : PyData) : Bool := isTyN T (tyName d)
theorem rc_len : RC K (fun xs H Q => ∃ x n, xs = [x] ∧ LenV K x H n ∧ Q (.int n) H) dLen := by
  intro xs ds P H Q hw hd k
  cases hd with
  | nil => exact hw.elim
  | cons h1 h2 =>
    cases h2 with
    | cons _ _ => cases h1 <;> exact hw.elim
    | nil =>
      cases h1 with
      | lst g1 g2 => exact ⟨_, _, rfl, .inl ⟨_, SqL.of g1, rfl⟩, by rw [g2.len]; exact k _ _ hw fun B => .int _⟩
      | tup g1 g2 => exact ⟨_, _, rfl, .inr ⟨_, g1, rfl⟩, by rw [g2.len]; exact k _ _ hw fun B => .int _⟩
      | str x => exact ⟨_, _, rfl, ⟨line_of hw.1, rfl⟩, k _ _ hw.2 fun B => .int _⟩
      | _ => exact hw.elim
theorem rc_abs : RC K (fun xs H Q => ∃ i, xs = [.int i] ∧ Q (.int (if i < 0 then -i else i)) H) dAbs := by
  intro xs ds P H Q hw hd k
  cases hd with
  | nil => exact hw.elim
  | cons h1 h2 =>
    cases h2 with
    | cons _ _ => cases h1 <;> exact hw.elim
    | nil =>
      cases h1 with
      | int i => exact ⟨i, rfl, k _ _ hw fun B => .int _⟩
      | _ => exact hw.elim
theorem rc_int : RC K (fun xs H Q => (∃ i, xs = [.int i] ∧ Q (.int i) H) ∨ ∃ k, xs = [.bl k] ∧ Q (.int (if k then 1 else 0)) H) dInt := by
  intro xs ds P H Q hw hd k
  cases hd with
  | nil => exact hw.elim
  | cons h1 h2 =>
    cases h2 with
    | cons _ _ => cases h1 <;> exact hw.elim
    | nil =>
      cases h1 with
      | int i => exact .inl ⟨i, rfl, k _ _ hw fun B => .int _⟩
      | bl b => exact .inr ⟨b, rfl, k _ _ hw fun B => .int _⟩
      | _ => exact hw.elim
theorem rc_str : RC K (fun xs H Q => ∃ i, xs = [.int i] ∧ i.natAbs.log2 < 1920 ∧ Q (.str (toString i)) H) dStr := by
  intro xs ds P H Q hw hd k
  cases hd with
  | nil => exact hw.elim
  | cons h1 h2 =>
    cases h2 with
    | cons _ _ => cases h1 <;> exact hw.elim
    | nil =>
      cases h1 with
      | int i => exact ⟨i, rfl, hw.1, k _ _ hw.2 fun B => .str _⟩
      | _ => exact hw.elim
theorem rc_repr : RC K (rRepr K) dRepr := by
  intro xs ds P H Q hw hd k
  cases hd with
  | nil => exact hw.elim
  | cons h1 h2 =>
    cases h2 with
    | cons _ _ => exact hw.elim
    | nil => exact ⟨_, _, rfl, h1.dp, hw.1, hw.2.1, hw.2.2.1, k _ _ hw.2.2.2 fun B => .str _⟩
theorem rc_2 {f : Int → Int → Int} {w : WF} (h1 : ∀ ds P, w ds P → ∃ i j, ds = [.int i, .int j] ∧ P (.int (f i j))) : RC K (fun xs H Q => ∃ i j, xs = [.int i, .int j] ∧ Q (.int (f i j)) H) w := by
  intro xs ds P H Q hw hd k
  obtain ⟨i, j, rfl, hp⟩ := h1 ds P hw
  cases hd with
  | cons a1 a2 =>
    cases a2 with
    | cons b1 b2 =>
      cases b2
      cases a1
      cases b1
      exact ⟨i, j, rfl, k _ _ hp fun B => .int _⟩
variable {x : Str}
theorem q_len {p : Pos} (hg : Gl X "len") (hm : X.mg "len" = none) (h : QAV X dl (a :: es) ws)
    (he : starEach (a :: es) X.env = (false, eval a X.env) :: starEach es X.env := by rfl) (hpl : (backTo pos (starEach es X.env)).any (·.1) = false := by rfl) : QE X dl (.Call (.Name "len" p) (a :: es) [] pos) (wFn dLen ws) := q_blt call_len rc_len hg hm boot_len h (by decide) (by decide) he hpl
theorem q_abs {p : Pos} (hg : Gl X "abs") (hm : X.mg "abs" = none) (h : QAV X dl (a :: es) ws)
    (he : starEach (a :: es) X.env = (false, eval a X.env) :: starEach es X.env := by rfl) (hpl : (backTo pos (starEach es X.env)).any (·.1) = false := by rfl) : QE X dl (.Call (.Name "abs" p) (a :: es) [] pos) (wFn dAbs ws) := q_blt call_abs rc_abs hg hm (by decide +kernel) h (by decide) (by decide) he hpl
theorem q_intc {p : Pos} (hg : Gl X "int") (hm : X.mg "int" = none) (h : QAV X dl (a :: es) ws)
    (he : starEach (a :: es) X.env = (false, eval a X.env) :: starEach es X.env := by rfl) (hpl : (backTo pos (starEach es X.env)).any (·.1) = false := by rfl) : QE X dl (.Call (.Name "int" p) (a :: es) [] pos) (wFn dInt ws) := q_ty call_int1 rc_int hg hm boot_int h (by decide) (by decide) he hpl
theorem q_strc {p : Pos} (hg : Gl X "str") (hm : X.mg "str" = none) (h : QAV X dl (a :: es) ws)
    (he : starEach (a :: es) X.env = (false, eval a X.env) :: starEach es X.env := by rfl) (hpl : (backTo pos (starEach es X.env)).any (·.1) = false := by rfl) : QE X dl (.Call (.Name "str" p) (a :: es) [] pos) (wFn dStr ws) := q_ty call_str_int rc_str hg hm (by decide +kernel) h (by decide) (by decide) he hpl
theorem q_repr {p : Pos} (hgd : X.A.guards = some []) (hd : Deep X) (hg : Gl X "repr") (hm : X.mg "repr" = none) (h : QAV X dl (a :: es) ws)
    (he : starEach (a :: es) X.env = (false, eval a X.env) :: starEach es X.env := by rfl) (hpl : (backTo pos (starEach es X.env)).any (·.1) = false := by rfl) : QE X dl (.Call (.Name "repr" p) (a :: es) [] pos) (wFn dRepr ws) := q_blt (call_repr hgd (by unfold Deep at hd; omega)) rc_repr hg hm (by decide +kernel) h (by decide) (by decide) he hpl
theorem q_max2 {p : Pos} (hc : X.calm = true) (hg : Gl X "max") (hm : X.mg "max" = none) (h : QAV X dl (a :: es) ws)
    (he : starEach (a :: es) X.env = (false, eval a X.env) :: starEach es X.env := by rfl) (hpl : (backTo pos (starEach es X.env)).any (·.1) = false := by rfl) : QE X dl (.Call (.Name "max" p) (a :: es) [] pos) (wFn dMax2 ws) := by
  refine q_blt (call_max2 hc) (rc_2 fun ds P hw => ?_) hg hm (by decide +kernel) h (by decide) (by decide) he hpl
  unfold dMax2 at hw
  split at hw
  · exact ⟨_, _, rfl, hw⟩
  · exact hw.elim
theorem q_min2 {p : Pos} (hc : X.calm = true) (hg : Gl X "min") (hm : X.mg "min" = none) (h : QAV X dl (a :: es) ws)
    (he : starEach (a :: es) X.env = (false, eval a X.env) :: starEach es X.env := by rfl) (hpl : (backTo pos (starEach es X.env)).any (·.1) = false := by rfl) : QE X dl (.Call (.Name "min" p) (a :: es) [] pos) (wFn dMin2 ws) := by
  refine q_blt (call_min2 hc) (rc_2 fun ds P hw => ?_) hg hm (by decide +kernel) h (by decide) (by decide) he hpl
  unfold dMin2 at hw
  split at hw
  · exact ⟨_, _, rfl, hw⟩
  · exact hw.elim
end
end Lay

namespace Lay
open PySem PySem.Spec PyProof.Rows L2

/-! ### items and cuts -/
section
variable {X : Cx} {dl : DL} {K : PySem.W.Frag} {B : Hp}
theorem DatAll.atI {vs : List V} {ds : List PyData} {i : Int} {d : PyData} (h : DatAll K B vs ds) (e : L2.atI ds i = some d) : ∃ v, L2.atI vs i = some v ∧ Dat K B v d := by
  unfold L2.atI at e ⊢
  rw [h.len]
  cases q : ixN ds.length i with
  | none => rw [q] at e; cases e
  | some j =>
    rw [q] at e
    exact h.get e
def cutD (xs : List PyData) (lo hi : Option Int) : List PyData := (xs.drop (HT.sIx xs.length 0 lo)).take (HT.sIx xs.length xs.length hi - HT.sIx xs.length 0 lo)
theorem DatAll.cut {vs : List V} {ds : List PyData} {lo hi : Option Int} (h : DatAll K B vs ds) : DatAll K B (cutV vs lo hi) (cutD ds lo hi) := by
  unfold cutV cutD
  rw [h.len]
  exact (h.drop _).take _
def dIx : PyData → PyData → (PyData → Prop) → Prop
  | .list ds, .int i, P => ∃ d, L2.atI ds i = some d ∧ P d
  | .tuple ds, .int i, P => ∃ d, L2.atI ds i = some d ∧ P d
  | .str z, .int i, P => z.length ≤ 1000000 ∧ ∃ c, L2.atI z.cps.toList i = some c ∧ P (.str ⟨#[c]⟩)
  | _, _, _ => False
theorem rd_ix : RD K dl (rIx K) dIx := by
  intro x y d e P B H Q hw hx hy sm dk k
  cases hx with
  | lst h1 h2 =>
    cases hy with
    | int i =>
      obtain ⟨d, e1, hp⟩ := hw
      obtain ⟨v, e2, hv⟩ := h2.atI e1
      exact .inl ⟨_, _, i, v, rfl, rfl, SqL.of (sm _ _ h1), e2, k _ B H _ hp (.refl sm dk) hv⟩
    | _ => exact hw.elim
  | tup h1 h2 =>
    cases hy with
    | int i =>
      obtain ⟨d, e1, hp⟩ := hw
      obtain ⟨v, e2, hv⟩ := h2.atI e1
      exact .inr (.inl ⟨_, _, i, v, rfl, rfl, sm.tup h1, e2, k _ B H _ hp (.refl sm dk) hv⟩)
    | _ => exact hw.elim
  | str z =>
    cases hy with
    | int i =>
      obtain ⟨hz, c, e1, hp⟩ := hw
      exact .inr (.inr ⟨z, i, c, rfl, rfl, line_of hz, e1, k _ B H _ hp (.refl sm dk) (.str _)⟩)
    | _ => exact hw.elim
  | _ => exact hw.elim
variable {a b c e lo hi : Expr} {es : List Expr} {wa wb wl wh : WE} {ws : WA} {pos p p2 : Pos}
theorem q_ix (ha : QE X dl a wa) (hb : QE X dl b wb) (hs : PlainIx b := by intro _ _; rfl) : QE X dl (.Subscript a b pos) (wOp dIx wa wb) := by
  obtain ⟨ta, pa, sa⟩ := ha
  obtain ⟨tb, pb, sb⟩ := hb
  refine ⟨_, pe_ix ix_seq pa pb hs, fun B0 H0 B σ H ρ P Q hw e k => sa B0 H0 B σ H ρ _ _ hw e fun v B1 H1 d hp g1 h1 => ?_⟩
  refine sb B0 H0 B1 σ H1 ρ _ _ hp (e.grow g1) fun u B2 H2 f hq g2 h2 => ?_
  exact rd_ix v u d f P B2 H2 Q hq (h1.up g2.bb) h2 g2.bh g2.dk fun v' B3 H3 d' hp' g3 h3 => k v' B3 H3 d' hp' ((g1.trans g2).trans g3) h3
/-- a[..] of a name: data or a list of one's own -/
def wIxN (i : Nat) (wb : WE) : WE := fun ρ P => (∃ d, ρ[i]? = some (.dat d) ∧ wb ρ fun e => dIx d e P) ∨ (∃ ds, ρ[i]? = some (.own ds) ∧ wb ρ fun e => dIx (.list ds) e P)
theorem q_ixN {i : Nat} {x : Str} {px : Pos} (ha : PE X (.Name x px) (tVar i)) (hb : QE X dl b wb) (hs : PlainIx b := by intro _ _; rfl) : QE X dl (.Subscript (.Name x px) b pos) (wIxN i wb) := by
  obtain ⟨tb, pb, sb⟩ := hb
  refine ⟨_, pe_ix ix_seq ha pb hs, fun B0 H0 B σ H ρ P Q hw e k => ?_⟩
  rcases hw with ⟨d, hr, hw⟩ | ⟨ds, hr, hw⟩
  · obtain ⟨v, h1, h2⟩ := e.sl i _ hr
    refine ⟨v, h1, sb B0 H0 B σ H ρ _ _ hw e fun u B2 H2 f hq g2 hu => ?_⟩
    exact rd_ix v u d f P B2 H2 Q hq (h2.up g2.bb) hu g2.bh g2.dk fun v' B3 H3 d' hp' g3 h3 => k v' B3 H3 d' hp' (g2.trans g3) h3
  · obtain ⟨a, vs, h1, h2, h3, h4, h5, h6⟩ := e.sl i _ hr
    refine ⟨.ref a, h1, sb B0 H0 B σ H ρ _ _ hw e fun u B2 H2 f hq g2 hu => ?_⟩
    cases hu with
    | int j =>
      obtain ⟨d, e1, hp⟩ := hq
      obtain ⟨v, e2, hv⟩ := h6.atI e1
      exact .inl ⟨_, _, j, v, rfl, rfl, SqL.of (g2.hh _ _ h5 h2), e2, k _ B2 H2 _ hp g2 (hv.up g2.bb)⟩
    | _ => exact hq.elim

/-! cuts -/
abbrev WO := List Sl → (Option Int → Prop) → Prop
def SP (K : PySem.W.Frag) (dl : DL) (to : TO) (wo : WO) : Prop := ∀ B0 H0 B σ H ρ P Q, wo ρ P → EnvOk K dl B0 H0 B σ H ρ → (∀ o B' H', P o → Grow dl B H B' H' → Q o H') → to σ H Q
def QP (X : Cx) (dl : DL) (e : Option Expr) (wo : WO) : Prop := ∃ to, PO X e to ∧ SP X.K dl to wo
def wPart (w : WE) : WO := fun ρ P => w ρ fun d => ∃ i, d = .int i ∧ P (some i)
def wNoPart : WO := fun _ P => P none
theorem p_none : QP X dl none wNoPart := ⟨_, po_none, fun _ _ _ _ _ _ _ _ hw e k => k none _ _ hw e.self⟩
theorem p_some (h : QE X dl a wa) : QP X dl (some a) (wPart wa) := by
  obtain ⟨ta, pa, sa⟩ := h
  refine ⟨_, po_some pa, fun B0 H0 B σ H ρ P Q hw e k => sa B0 H0 B σ H ρ _ _ hw e ?_⟩
  rintro v B1 H1 d ⟨i, rfl, hp⟩ g hd
  cases hd
  exact ⟨i, rfl, k _ B1 H1 hp g⟩
variable {lo hi : Option Expr} {wl wh : WO}
def dSl (lo hi : Option Int) : PyData → (PyData → Prop) → Prop
  | .list ds, P => P (.list (cutD ds lo hi))
  | .tuple ds, P => P (.tuple (cutD ds lo hi))
  | .str z, P => z.length ≤ 1000000 ∧ P (.str (cutS z lo hi))
  | _, _ => False
def wSl (w : WE) (wl wh : WO) : WE := fun ρ P => w ρ fun d => wl ρ fun l => wh ρ fun h => dSl l h d P
abbrev rSlU (K : PySem.W.Frag) : V → Option Int → Option Int → Hp → VK → Prop := fun x lo hi H Q => rSlL K x lo hi H Q ∨ (rSlA K x lo hi H Q ∨ rSlS x lo hi H Q)
theorem cut_all {vs : List V} {lo hi : Option Int} (h : HT.sIx vs.length 0 lo = 0 ∧ HT.sIx vs.length vs.length hi = vs.length) : cutV vs lo hi = vs := by
  unfold cutV
  rw [h.1, h.2, List.drop_zero, Nat.sub_zero, List.take_length]
theorem q_slice (ha : QE X dl a wa) (hl : QP X dl lo wl) (hh : QP X dl hi wh) : QE X dl (.Subscript a (.Slice lo hi none p2) pos) (wSl wa wl wh) := by
  obtain ⟨ta, pa, sa⟩ := ha
  obtain ⟨tl, pl, sl⟩ := hl
  obtain ⟨th, ph, sh⟩ := hh
  refine ⟨_, pe_slice (sl_list.or (sl_tupA.or sl_str)) pa pl ph, fun B0 H0 B σ H ρ P Q hw e k => sa B0 H0 B σ H ρ _ _ hw e fun v B1 H1 d hp g1 h1 => ?_⟩
  refine sl B0 H0 B1 σ H1 ρ _ _ hp (e.grow g1) fun l B2 H2 hq g2 => sh B0 H0 B2 σ H2 ρ _ _ hq ((e.grow g1).grow g2) fun u B3 H3 hz g3 => ?_
  have g := (g1.trans g2).trans g3
  have h3 := (h1.up g2.bb).up g3.bb
  cases h3 with
  | @lst _ vs _ i1 i2 =>
    refine .inl ⟨_, _, rfl, SqL.of (g3.bh _ _ i1), fun p np => ?_⟩
    have gn := Grow.new g3.bh g3.dk (o := .lst (cutV vs l u)) np
    exact k _ _ _ _ hz (g.trans gn) (.lst upd_same (i2.cut.up gn.bb))
  | @tup _ vs _ i1 i2 =>
    refine .inr (.inl ⟨_, _, rfl, g3.bh.tup i1, fun q => ?_, fun q p np => ?_⟩)
    · have i3 := i2.cut (lo := l) (hi := u)
      rw [cut_all q] at i3
      exact k _ B3 H3 _ hz g (.tup i1 i3)
    · have gn := Grow.new g3.bh g3.dk (o := .tup (cutV vs l u)) np
      exact k _ _ _ _ hz (g.trans gn) (.tup (SqT.of upd_same) (i2.cut.up gn.bb))
  | str z => exact .inr (.inr ⟨z, rfl, line_of hz.1, k _ B3 H3 _ hz.2 g (.str _)⟩)
  | _ => exact hz.elim
theorem fresh0 {B H B' H' : Hp} {p : Addr} (g : Grow dl B H B' H') (np : H' p = none) : H p = none := by
  cases q : H p with
  | none => rfl
  | some o =>
    have := g.hh p o (off_of g.dk np) q
    rw [np] at this
    cases this
/-- a list's cut, one's own -/
def wSlO (w : WE) (wl wh : WO) : WA := fun ρ P => w ρ fun d => wl ρ fun l => wh ρ fun h => ∃ ds, d = .list ds ∧ P (cutD ds l h)
theorem qo_slice (ha : QE X dl a wa) (hl : QP X dl lo wl) (hh : QP X dl hi wh) : QO X dl (.Subscript a (.Slice lo hi none p2) pos) (wSlO wa wl wh) := by
  obtain ⟨ta, pa, sa⟩ := ha
  obtain ⟨tl, pl, sl⟩ := hl
  obtain ⟨th, ph, sh⟩ := hh
  refine ⟨_, pe_slice sl_list pa pl ph, fun B0 H0 B σ H ρ P Q hw e k => sa B0 H0 B σ H ρ _ _ hw e fun v B1 H1 d hp g1 h1 => ?_⟩
  refine sl B0 H0 B1 σ H1 ρ _ _ hp (e.grow g1) fun l B2 H2 hq g2 => sh B0 H0 B2 σ H2 ρ _ _ hq ((e.grow g1).grow g2) fun u B3 H3 hz g3 => ?_
  have g := (g1.trans g2).trans g3
  obtain ⟨ds, rfl, hz⟩ := hz
  cases h1 with
  | @lst _ vs _ i1 i2 =>
    refine ⟨_, _, rfl, SqL.of (g3.bh _ _ (g3.bb _ _ (g2.bb _ _ i1))), fun p np => ?_⟩
    have gn := Grow.newO g3.bh g3.dk (o := .lst (cutV vs l u)) np
    exact k _ _ _ _ _ hz (g.trans gn) (fresh0 g np) (g3.bh.free np) upd_same ((i2.up g2.bb).up g3.bb).cut
/-- xs[::-1] -/
def wRevO (w : WE) : WA := fun ρ P => w ρ fun d => ∃ ds, d = .list ds ∧ P ds.reverse
theorem qo_rev {k1 : Nat} {p1 q1 q3 : Pos} (ha : QE X dl a wa) : QO X dl (.Subscript a (.Slice none none (some (.UnaryOp .USub (.Constant (.int 1) k1 p1) q1)) q3) pos) (wRevO wa) := by
  obtain ⟨ta, pa, sa⟩ := ha
  refine ⟨_, pe_revL pa, fun B0 H0 B σ H ρ P Q hw e k => sa B0 H0 B σ H ρ _ _ hw e fun v B1 H1 d hp g1 h1 => ?_⟩
  obtain ⟨ds, rfl, hz⟩ := hp
  cases h1 with
  | @lst _ vs _ i1 i2 =>
    refine ⟨_, _, rfl, SqL.of (g1.bh _ _ i1), fun p np => ?_⟩
    have gn := Grow.newO g1.bh g1.dk (o := .lst vs.reverse) np
    exact k _ _ _ _ _ hz (g1.trans gn) (fresh0 g1 np) (g1.bh.free np) upd_same i2.rev
/-- list(x) | tuple(x) -/
def dSeq : List PyData → (List PyData → Prop) → Prop
  | [.list ds], P => P ds
  | [.tuple ds], P => P ds
  | _, _ => False
theorem rco_list : RCO K dl (fun xs H Q => ∃ p ys, xs = [.ref p] ∧ (SqL K H p ys ∨ SqT K H p ys) ∧ ∀ l, H l = none → Q (.ref l) (upd H l (.lst ys))) dSeq := by
  intro xs ds P B H Q hw hd sm dk k
  cases hd with
  | nil => exact hw.elim
  | cons h1 h2 =>
    cases h2 with
    | cons _ _ => cases h1 <;> exact hw.elim
    | nil =>
      cases h1 with
      | lst g1 g2 => exact ⟨_, _, rfl, .inl (SqL.of (sm _ _ g1)), fun l nl => k l _ _ hw nl g2⟩
      | tup g1 g2 => exact ⟨_, _, rfl, .inr (sm.tup g1), fun l nl => k l _ _ hw nl g2⟩
      | _ => exact hw.elim
def wSeqO (ws : WA) : WA := fun ρ P => ws ρ fun ds => dSeq ds P
theorem qo_list (hg : Gl X "list") (hm : X.mg "list" = none) (h : QA X dl (a :: es) ws) (he : starEach (a :: es) X.env = (false, eval a X.env) :: starEach es X.env := by rfl) (hpl : (backTo pos (starEach es X.env)).any (·.1) = false := by rfl) :
    QO X dl (.Call (.Name "list" p) (a :: es) [] pos) (wSeqO ws) := qo_ty (w := dSeq) (ws := ws) call_list_of rco_list hg hm (by decide +kernel) h (by decide) (by decide) he hpl
def wTuple (ws : WA) : WE := fun ρ P => ws ρ fun ds => dSeq ds fun es => P (.tuple es)
theorem q_tuple (hg : Gl X "tuple") (hm : X.mg "tuple" = none) (h : QA X dl (a :: es) ws) (he : starEach (a :: es) X.env = (false, eval a X.env) :: starEach es X.env := by rfl) (hpl : (backTo pos (starEach es X.env)).any (·.1) = false := by rfl) :
    QE X dl (.Call (.Name "tuple" p) (a :: es) [] pos) (wTuple ws) := by
  obtain ⟨ta, pa, sa⟩ := h
  refine ⟨_, pe_callTy call_tuple_of hg hm (by decide +kernel) pa (by decide) (by decide) he hpl, fun B0 H0 B σ H ρ P Q hw e k => sa B0 H0 B σ H ρ _ _ hw e fun vs B1 H1 ds hp g hd => ?_⟩
  cases hd with
  | nil => exact hp.elim
  | cons h1 h2 =>
    cases h2 with
    | cons _ _ => cases h1 <;> exact hp.elim
    | nil =>
      cases h1 with
      | @lst _ us _ g1 g2 =>
        refine ⟨_, _, rfl, .inl ⟨SqL.of (g.bh _ _ g1), fun l nl => ?_⟩⟩
        have gn := Grow.new g.bh g.dk (o := .tup us) nl
        exact k _ _ _ _ hp (g.trans gn) (.tup (SqT.of upd_same) (g2.up gn.bb))
      | tup g1 g2 => exact ⟨_, _, rfl, .inr ⟨g.bh.tup g1, k _ B1 H1 _ hp g (.tup g1 g2)⟩⟩
      | _ => exact hp.elim
/-- isinstance(x, T) -/
def wIsi (T : String) (w : WE) : WE := fun ρ P => w ρ fun d => P (.bool (isTy T d))
theorem q_isi {T : String} {q : Pos} (hg : Gl X "isinstance") (hm : X.mg "isinstance" = none) (hgT : Gl X (Str.ofString T)) (hmT : X.mg (Str.ofString T) = none) (hv : bootBuiltins (Str.ofString T) = some (.type T)) (hT : (["bool", "int", "str", "list", "tuple"].contains T) = true) (ha : QV X dl a wa)
    (hn : Str.ofString T ≠ "__name__" := by decide) (hdb : (Str.ofString T == ("__debug__" : Str)) = false := by decide)
    (he : starEach [a, .Name (Str.ofString T) q] X.env = (false, eval a X.env) :: starEach [.Name (Str.ofString T) q] X.env := by rfl) (he2 : starEach [.Name (Str.ofString T) q] X.env = (false, eval (.Name (Str.ofString T) q) X.env) :: starEach [] X.env := by rfl)
    (hpl : (backTo pos (starEach [.Name (Str.ofString T) q] X.env)).any (·.1) = false := by rfl) :
    QE X dl (.Call (.Name "isinstance" p) [a, .Name (Str.ofString T) q] [] pos) (wIsi T wa) := by
  obtain ⟨ta, pa, sa⟩ := ha
  refine ⟨_, pe_callB call_isi hg hm (by decide +kernel) (pa_cons pa (pa_cons (pe_bltn (v := .ty T) hgT hmT hv rfl hn hdb) pa_nil he2) he) (by decide) (by decide) he hpl, fun B0 H0 B σ H ρ P Q hw e k => sa B0 H0 B σ H ρ _ _ hw e fun v B1 H1 d hp g hd => ?_⟩
  have kk : ∀ {t : String}, TyX X.K H1 v (.type t) → kitB t T = some (isTy T d) → rIsi X.K [v, .ty T] H1 Q := fun {t} ty q => ⟨v, .ty T, _, _, _, rfl, .ty T, ty, kit_ty q, k _ B1 H1 _ hp g (.bl _)⟩
  have hd1 := hd.up offH_le
  have cs : T = "bool" ∨ T = "int" ∨ T = "str" ∨ T = "list" ∨ T = "tuple" := by simpa using hT
  have z : ∀ t ∈ ["NoneType", "bool", "int", "str", "list", "tuple"], kitB t T = some (isTyN T t) := by rcases cs with rfl | rfl | rfl | rfl | rfl <;> decide +kernel
  cases hd1 with
  | non => exact kk (.base .non) (z _ (by decide))
  | bl b => exact kk (.base (.bl b)) (z _ (by decide))
  | int i => exact kk (.base (.int i)) (z _ (by decide))
  | str i => exact kk (.base (.str i)) (z _ (by decide))
  | lst h1 h2 => exact kk (.base (.lst h1)) (z _ (by decide))
  | tup h1 h2 =>
    rcases h1 with (h1 | ⟨o, h1⟩) | ⟨o, its, n, h1, h3, _⟩
    · exact kk (.base (.tup h1)) (z _ (by decide))
    · exact kk (.fTuple h1) (z _ (by decide))
    · exact kk (.kTuple h1 h3) (z _ (by decide))
end
end Lay

namespace Lay
open PySem PySem.Spec PyProof.Rows L2

/-! ### one reading for all blocks -/
section
variable (K : PySem.W.Frag) (dl : DL)
def cE (we : WE) : TE := fun σ H Q => ∃ B0 H0 B ρ P, we ρ P ∧ EnvOk K dl B0 H0 B σ H ρ ∧ ∀ v B' H' d, P d → Grow dl B H B' H' → Dat K B' v d → Q v H'
def cT (wb : WB) : TT := fun σ H Q => ∃ B0 H0 B ρ P, wb ρ P ∧ EnvOk K dl B0 H0 B σ H ρ ∧ ∀ b B' H', P b → Grow dl B H B' H' → Q b H'
def cG (ts : List Nat) (wg : WG) : TG := fun v σ H Q => ∃ B0 H0 B ρ d P, wg d ρ P ∧ EnvOk K dl B0 H0 B σ H ρ ∧ Dat K B v d ∧ ∀ ρ' σ', P ρ' → EnvOk K dl B0 H0 B σ' H ρ' → Agree ts σ σ' → Q σ' H
end
section
variable {X : Cx} {dl : DL} {K : PySem.W.Frag} {e tg it : Expr} {we : WE} {wb : WB} {wg : WG} {wi : WA} {ts : List Nat} {pos : Pos}
theorem se_c : SE K dl (cE K dl we) we := fun B0 H0 B σ H ρ P Q hw e k => ⟨B0, H0, B, ρ, P, hw, e, k⟩
theorem st_c : ST K dl (cT K dl wb) wb := fun B0 H0 B σ H ρ P Q hw e k => ⟨B0, H0, B, ρ, P, hw, e, k⟩
theorem sg_c : SG K dl ts (cG K dl ts wg) wg := fun B0 H0 B σ H ρ v d P Q hw e hd k => ⟨B0, H0, B, ρ, d, P, hw, e, hd, k⟩
theorem QE.c (h : QE X dl e we) : PE X e (cE X.K dl we) := by
  obtain ⟨te, pe, se⟩ := h
  refine ⟨fun pins s σ H Q I h => ?_⟩
  obtain ⟨B0, H0, B, ρ, P, hw, e, k⟩ := h
  exact pe.run pins s σ H Q I (se B0 H0 B σ H ρ P Q hw e k)
theorem QT.c (h : QT X dl e wb) : PT X e (cT X.K dl wb) := by
  obtain ⟨te, pe, se⟩ := h
  refine ⟨fun pins s σ H Q I h => ?_⟩
  obtain ⟨B0, H0, B, ρ, P, hw, e, k⟩ := h
  exact pe.run pins s σ H Q I (se B0 H0 B σ H ρ P Q hw e k)
theorem QG.c (h : QG X dl ts e wg) : PG X e (cG X.K dl ts wg) := by
  obtain ⟨g, pg, sg⟩ := h
  refine ⟨fun pins s σ H v u Q I r h => ?_⟩
  obtain ⟨B0, H0, B, ρ, d, P, hw, e, hd, k⟩ := h
  exact pg.run pins s σ H v u Q I r (sg B0 H0 B σ H ρ v d P Q hw e hd k)
/-- tests of a comprehension -/
def QTs (X : Cx) (dl : DL) (es : List Expr) (wb : WB) : Prop := ∃ tt, PTs X es tt ∧ ST X.K dl tt wb
def wYes : WB := fun _ P => P true
theorem ts_nil : QTs X dl [] wYes := ⟨_, pts_nil, fun _ _ _ _ _ _ _ _ hw e k => k _ _ _ hw e.self⟩
theorem ts_one (h : QT X dl e wb) : QTs X dl [e] wb := h.elim fun t h => ⟨t, pts_one h.1, h.2⟩
theorem QTs.c {es : List Expr} (h : QTs X dl es wb) : PTs X es (cT X.K dl wb) := by
  obtain ⟨te, pe, se⟩ := h
  refine ⟨fun pins s σ H Q I h => ?_⟩
  obtain ⟨B0, H0, B, ρ, P, hw, e, k⟩ := h
  exact pe.run pins s σ H Q I (se B0 H0 B σ H ρ P Q hw e k)

/-! comprehensions -/
def wipeR (ρ : List Sl) : List Nat → List Sl
  | [] => ρ
  | v :: vs => (wipeR ρ vs).set v .no
theorem EnvOk.no {B0 H0 B : Hp} {σ : L2.St} {H : Hp} {ρ : List Sl} {i : Nat} (e : EnvOk K dl B0 H0 B σ H ρ) : EnvOk K dl B0 H0 B (σ.set i none) H (ρ.set i .no) := by
  have at_i : ∀ {m : Nat} {u : Sl}, (ρ.set i .no)[m]? = some u → u.isOwn = true → i ≠ m ∧ ρ[m]? = some u := fun {m u} hm hu => by
    by_cases him : i = m
    · subst him
      have hl : i < ρ.length := by have := (List.getElem?_eq_some_iff.mp hm).1; simpa using this
      rw [List.getElem?_set_self hl] at hm
      cases hm
      cases hu
    · exact ⟨him, by rw [List.getElem?_set_ne him] at hm; exact hm⟩
  refine ⟨by rw [List.length_set, List.length_set, e.len], e.fr, e.av, fun j s hj => ?_, fun j k s t a n hj hk os ot es et => ?_⟩
  · by_cases hij : i = j
    · subst hij
      have hl : i < ρ.length := by have := (List.getElem?_eq_some_iff.mp hj).1; simpa using this
      rw [List.getElem?_set_self hl] at hj
      cases hj
      trivial
    · rw [List.getElem?_set_ne hij] at hj ⊢
      exact e.sl j s hj
  · obtain ⟨n1, e1⟩ := at_i hj os
    obtain ⟨n2, e2⟩ := at_i hk ot
    rw [List.getElem?_set_ne n1] at es
    rw [List.getElem?_set_ne n2] at et
    exact e.sep j k s t a n e1 e2 os ot es et
theorem EnvOk.wipe {B0 H0 B : Hp} {σ : L2.St} {H : Hp} {ρ : List Sl} (e : EnvOk K dl B0 H0 B σ H ρ) : ∀ vs : List Nat, EnvOk K dl B0 H0 B (L2.wipe σ vs) H (wipeR ρ vs)
  | [] => e
  | v :: vs => (EnvOk.wipe e vs).no
theorem wipe_in (σ : L2.St) : ∀ (vs : List Nat) (i : Nat), i ∈ vs → i < σ.length → (L2.wipe σ vs)[i]? = some none
  | [], i, h, _ => by cases h
  | v :: vs, i, h, hl => by
    show ((L2.wipe σ vs).set v none)[i]? = _
    by_cases hv : v = i
    · subst hv
      rw [List.getElem?_set_self (by rw [wipe_length]; exact hl)]
    · rw [List.getElem?_set_ne hv]
      exact wipe_in σ vs i ((List.mem_cons.mp h).resolve_left fun z => hv z.symm) hl
theorem wipe_out (σ : L2.St) : ∀ (vs : List Nat) (i : Nat), i ∉ vs → (L2.wipe σ vs)[i]? = σ[i]?
  | [], i, _ => rfl
  | v :: vs, i, h => by
    show ((L2.wipe σ vs).set v none)[i]? = _
    rw [List.getElem?_set_ne (fun z => h (by simp [z]))]
    exact wipe_out σ vs i fun z => h (List.mem_cons_of_mem _ z)
theorem wipe_agree {σ σ2 : L2.St} {vs ts : List Nat} (hs : ∀ i ∈ ts, i ∈ vs) (a : Agree ts (L2.wipe σ vs) σ2) : L2.wipe σ2 vs = L2.wipe σ vs := by
  have hl : σ2.length = σ.length := a.1.trans (wipe_length _ _)
  refine List.ext_getElem? fun i => ?_
  by_cases hi : i ∈ vs
  · by_cases hb : i < σ.length
    · rw [wipe_in σ vs i hi hb, wipe_in σ2 vs i hi (by rw [hl]; exact hb)]
    · rw [List.getElem?_eq_none (by rw [wipe_length, hl]; omega), List.getElem?_eq_none (by rw [wipe_length]; omega)]
  · rw [wipe_out σ2 vs i hi, a.2 i fun z => hi (hs i z)]
def lcGo (wg : WG) (wb : WB) (we : WE) (ρ : List Sl) (P : List PyData → Prop) : List PyData → List PyData → Prop
  | [], acc => P acc
  | d :: ds, acc => wg d ρ fun ρ2 => wb ρ2 fun b => if b = true then we ρ2 fun y => acc.length < 1000000 ∧ lcGo wg wb we ρ P ds (acc ++ [y]) else lcGo wg wb we ρ P ds acc
def wLc (wi : WA) (wg : WG) (wb : WB) (we : WE) (vs : List Nat) : WA := fun ρ P => wi ρ fun ds => lcGo wg wb we (wipeR ρ vs) P ds []
theorem so_lc {ti : TI} {g : TG} {tt : TT} {te : TE} {vs : List Nat} (hts : ∀ i ∈ ts, i ∈ vs) (si : SI K dl ti wi) (sg : SG K dl ts g wg) (st : ST K dl tt wb) (se : SE K dl te we) : SO K dl (tLc ti g tt te vs) (wLc wi wg wb we vs) := fun B0 H0 B σ H ρ P Q hw e k => by
  refine si B0 H0 B σ H ρ _ _ hw e fun J B1 H1 ds hp g1 wk => fun D nD => ?_
  have e1 := e.grow g1
  have nB1 : B1 D = none := g1.bh.free nD
  have oD : Off dl D := off_of g1.dk nD
  refine ⟨fun i m H => ∃ B acc us, m = ds.length - i ∧ i ≤ ds.length ∧ Grow dl B1 H1 B H ∧ B D = none ∧ H D = some (.lst us) ∧ DatAll K B us acc ∧ lcGo wg wb we (wipeR ρ vs) P (ds.drop i) acc,
    ⟨_, B1, [], [], rfl, Nat.zero_le _, .newO g1.bh g1.dk nD, nB1, upd_same, .nil, hp⟩, ?_⟩
  rintro i m H2 ⟨B2, acc, us, rfl, hi, g2, nB2, hD, hacc, hgo⟩
  by_cases hlt : i < ds.length
  · refine .inr ⟨wk.go i B2 H2 g2.bb g2.bh hlt, fun H' => ∃ B acc us, Grow dl B1 H1 B H' ∧ B D = none ∧ H' D = some (.lst us) ∧ DatAll K B us acc ∧ lcGo wg wb we (wipeR ρ vs) P (ds.drop (i + 1)) acc, ?_, fun x H3 hy => ?_⟩
    · rintro H' ⟨B', acc', us', h1, h2, h3, h4, h5⟩
      exact ⟨_, by omega, B', acc', us', rfl, hlt, h1, h2, h3, h4, h5⟩
    · obtain ⟨B3, d, hd, g3, hx⟩ := wk.yld i B2 H2 x H3 g2.bb g2.bh g2.dk hy hlt
      have ed : ds.drop i = d :: ds.drop (i + 1) := by
        rw [List.drop_eq_getElem_cons hlt]
        rw [List.getElem?_eq_getElem hlt] at hd
        cases hd
        rfl
      rw [ed] at hgo
      have keepD : ∀ {Ba Ha Bb Hb : Hp} {o : HO}, Grow dl Ba Ha Bb Hb → Ba D = none → Ha D = some o → Bb D = none := fun {Ba Ha Bb Hb o} g n h => by
        cases q : Bb D with
        | none => rfl
        | some o =>
          rcases g.nw _ _ q with z | z
          · rw [n] at z; cases z
          · rw [h] at z; cases z
      have g23 := g2.trans g3
      have e3 := (e1.grow g23).wipe vs
      refine sg B0 H0 B3 _ H3 _ x d _ _ hgo e3 hx fun ρ4 σ4 hb e4 ag => ⟨wipe_agree hts ag, ?_⟩
      refine st B0 H0 B3 σ4 H3 ρ4 _ _ hb e4 fun b B5 H5 hq g5 => ?_
      have n3 := keepD g3 nB2 hD
      have h3 := g3.hh D _ oD hD
      have n5 := keepD g5 n3 h3
      have h5 := g5.hh D _ oD h3
      cases b with
      | false => exact ⟨B5, acc, us, g23.trans g5, n5, h5, (hacc.up g3.bb).up g5.bb, hq⟩
      | true =>
        refine se B0 H0 B5 σ4 H5 ρ4 _ _ hq (e4.grow g5) fun y B6 H6 dy hr g6 hy => ?_
        have n6 := keepD g6 n5 h5
        have h6 := g6.hh D _ oD h5
        have hl : us.length = acc.length := hacc.len
        refine ⟨us, h6, by rw [hl]; exact Nat.lt_of_lt_of_le hr.1 (by decide), B6, acc ++ [dy], us ++ [y], ?_, n6, upd_same, (((hacc.up g3.bb).up g5.bb).up g6.bb).append (.cons hy .nil), hr.2⟩
        have gg := (g23.trans g5).trans g6
        have off : ∀ x o, x ≠ D → H6 x = some o → upd H6 D (.lst (us ++ [y])) x = some o := fun x o n q => by rw [upd_ne n]; exact q
        refine ⟨gg.bb, fun x o q => off x o (ne_of_none q n6) (gg.bh _ _ q), fun x o f q => off x o (ne_of_none q nD) (gg.hh _ _ f q), gg.nw, fun p hp => ?_⟩
        obtain ⟨n, gl, b, q1, q2, q3⟩ := gg.dk p hp
        obtain ⟨m1, m2⟩ := oD p hp
        exact ⟨n, gl, b, off _ _ (Ne.symm m1) q1, off _ _ (Ne.symm m2) q2, q3⟩
  · have ei : ds.drop i = [] := List.drop_eq_nil_iff.mpr (by omega)
    rw [ei] at hgo
    exact .inl ⟨wk.stop i B2 H2 g2.bb g2.bh (by omega), k D us B2 H2 acc hgo (g1.trans g2) (fresh0 g1 nD) nB2 hD hacc⟩
theorem qo_lc {ifs : List Expr} {scope : Scope} {own : List (Str × Nat)} (hc : X.calm = true) (hN : X.N.Nodup) (hi : QI X dl tg it wi) (ok : BlkOk X.N X.env.scope scope own)
    (hg : ∀ (s : Shared) (H : Hp) (C : Addr) (cl : List (Str × Addr)) (fp : List Addr), QG (X.blk s H scope (compEnvC scope cl C X.env) fp) dl ts tg wg)
    (ht : ∀ (s : Shared) (H : Hp) (C : Addr) (cl : List (Str × Addr)) (fp : List Addr), QTs (X.blk s H scope (compEnvC scope cl C X.env) fp) dl ifs wb)
    (he : ∀ (s : Shared) (H : Hp) (C : Addr) (cl : List (Str × Addr)) (fp : List Addr), QE (X.blk s H scope (compEnvC scope cl C X.env) fp) dl e we)
    (hts : (ts.all fun i => (own.map (·.2)).contains i) = true := by rfl) (hs : ∀ x, foldedSetIterable it X.env x = pure x := by intro _; rfl) : QO X dl (.ListComp e [⟨tg, it, ifs, 0⟩] scope pos) (wLc wi wg wb we (own.map (·.2))) := by
  obtain ⟨ti, pi, si⟩ := hi
  refine ⟨_, pe_lc hc hN pi ok (fun s H C cl fp => (hg s H C cl fp).c) (fun s H C cl fp => (ht s H C cl fp).c) (fun s H C cl fp => (he s H C cl fp).c) hs, so_lc (fun i hi => ?_) si sg_c st_c se_c⟩
  simpa using List.all_eq_true.mp hts i hi
/-- name = [..] -/
theorem qs_setLc {i : Nat} {y : Str} {py spos : Pos} {ifs : List Expr} {scope : Scope} {own : List (Str × Nat)} {ws : WS} (hc : X.calm = true) (hN : X.N.Nodup) (hy : X.N[i]? = some y) (hyl : X.env.scope.names.lookup y = some .local)
    (hsw : swapsWith (.ListComp e [⟨tg, it, ifs, 0⟩] scope pos) (some (.Name y py)) spos.line X.env = pure true) (hi : QI X dl tg it wi) (ok : BlkOk X.N X.env.scope scope own)
    (hg : ∀ (s : Shared) (H : Hp) (C : Addr) (cl : List (Str × Addr)) (fp : List Addr), QG (X.blk s H scope (compEnvC scope cl C X.env) fp) dl ts tg wg)
    (ht : ∀ (s : Shared) (H : Hp) (C : Addr) (cl : List (Str × Addr)) (fp : List Addr), QTs (X.blk s H scope (compEnvC scope cl C X.env) fp) dl ifs wb)
    (he : ∀ (s : Shared) (H : Hp) (C : Addr) (cl : List (Str × Addr)) (fp : List Addr), QE (X.blk s H scope (compEnvC scope cl C X.env) fp) dl e we)
    (kind : ∀ te, SO X.K dl te (wLc wi wg wb we (own.map (·.2))) → SS X.K dl (tAsg te (gName i)) ws)
    (hts : (ts.all fun i => (own.map (·.2)).contains i) = true := by rfl) (hs : ∀ x, foldedSetIterable it X.env x = pure x := by intro _; rfl) : QS X dl (.Assign [.Name y py] (.ListComp e [⟨tg, it, ifs, 0⟩] scope pos) spos) ws := by
  obtain ⟨ti, pi, si⟩ := hi
  refine ⟨_, ps_setLc hc hN hy hyl hsw pi ok (fun s H C cl fp => (hg s H C cl fp).c) (fun s H C cl fp => (ht s H C cl fp).c) (fun s H C cl fp => (he s H C cl fp).c) hs, kind _ (so_lc (fun i hi => ?_) si sg_c st_c se_c)⟩
  simpa using List.all_eq_true.mp hts i hi
theorem kind_own {i : Nat} {wa : WA} : ∀ te, SO K dl te wa → SS K dl (tAsg te (gName i)) (wSetO i wa) := fun _ h => ss_setO h
theorem kind_dat {i : Nat} {wa : WA} : ∀ te, SO K dl te wa → SS K dl (tAsg te (gName i)) (wSet i (wOfO wa)) := fun _ h => ss_set (so_se h)
end
end Lay

namespace Lay
open PySem PySem.Spec PyProof.Rows L2

section
variable {X : Cx} {dl : DL} {K : PySem.W.Frag} {a b c e tg it : Expr} {es : List Expr} {we wa wb : WE} {ws wo wo' : WA} {pos p cpos : Pos}
/-! ### a, b = x, y -/
/-- what a new slot takes, at a later heap -/
structure Ripe (K : PySem.W.Frag) (dl : DL) (H0 B H : Hp) (σ : L2.St) (ρ : List Sl) (v : V) (s : Sl) : Prop where
  ok : (∃ d, s = .dat d ∧ Dat K B v d) ∨ (∃ (p : Addr) (vs : List V) (ds : List PyData), s = .own ds ∧ v = .ref p ∧ H p = some (.lst vs) ∧ B p = none ∧ H0 p = none ∧ Off dl p ∧ DatAll K B vs ds ∧ ∀ (j : Nat) (t : Sl), ρ[j]? = some t → Sl.isOwn t = true → σ[j]? ≠ some (some (V.ref p)))
theorem EnvOk.ripe {B0 H0 B : Hp} {σ : L2.St} {H : Hp} {ρ : List Sl} {v : V} {s : Sl} (i : Nat) (e : EnvOk K dl B0 H0 B σ H ρ) (r : Ripe K dl H0 B H σ ρ v s) : EnvOk K dl B0 H0 B (σ.set i (some v)) H (ρ.set i s) := by
  rcases r.ok with ⟨d, rfl, h⟩ | ⟨p, vs, ds, rfl, rfl, h1, h2, h3, h4, h5, h6⟩
  · exact e.setD h
  · exact e.setO h1 h2 h3 h4 h5 fun j t _ hj ho => h6 j t hj ho
abbrev WX := List Sl → (Sl → Prop) → Prop
def SX (K : PySem.W.Frag) (dl : DL) (te : TE) (wx : WX) : Prop := ∀ B0 H0 B σ H ρ P Q, wx ρ P → EnvOk K dl B0 H0 B σ H ρ → (∀ v B' H' s, P s → Grow dl B H B' H' → Ripe K dl H0 B' H' σ ρ v s → (∀ x, v = .ref x → s.isOwn = true → H x = none) → Q v H') → te σ H Q
def xDat (w : WE) : WX := fun ρ P => w ρ fun d => P (.dat d)
def xOwn (w : WA) : WX := fun ρ P => w ρ fun ds => P (.own ds)
theorem sx_dat {te : TE} (h : SE K dl te we) : SX K dl te (xDat we) := fun B0 H0 B σ H ρ P Q hw e k => h B0 H0 B σ H ρ _ _ hw e fun v B' H' d hp g hd => k v B' H' _ hp g ⟨.inl ⟨d, rfl, hd⟩⟩ fun _ _ z => nomatch z
theorem own_at {B0 H0 B : Hp} {σ : L2.St} {H : Hp} {ρ : List Sl} (e : EnvOk K dl B0 H0 B σ H ρ) {j : Nat} {t : Sl} {p : Addr} (hj : ρ[j]? = some t) (ho : Sl.isOwn t = true) (hs : σ[j]? = some (some (V.ref p))) : ∃ o, H p = some o := by
  cases t with
  | own es =>
    obtain ⟨a, us, h1, h2, _⟩ := e.sl j _ hj
    rw [h1] at hs
    cases hs
    exact ⟨_, h2⟩
  | no => cases ho
  | dat d => cases ho
  | scr d => cases ho
  | dic d => cases ho
  | deal => cases ho
theorem sx_own {te : TE} (h : SO K dl te wo) : SX K dl te (xOwn wo) := fun B0 H0 B σ H ρ P Q hw e k => h B0 H0 B σ H ρ _ _ hw e fun p vs B' H' ds hp g n nB hH hd => by
  refine k (.ref p) B' H' _ hp g ⟨.inr ⟨p, vs, ds, rfl, rfl, hH, nB, ?_, off_of e.dk n, hd, fun j t hj ho hs => ?_⟩⟩ fun x hx _ => by cases hx; exact n
  · cases q : H0 p with
    | none => rfl
    | some o =>
      have := e.fr.hh p o (off_of e.dk n) q
      rw [n] at this
      cases this
  · obtain ⟨o, z⟩ := own_at e hj ho hs
    rw [n] at z
    cases z
theorem Ripe.grow {H0 B H B' H' : Hp} {σ : L2.St} {ρ : List Sl} {v : V} {s : Sl} (r : Ripe K dl H0 B H σ ρ v s) (g : Grow dl B H B' H') : Ripe K dl H0 B' H' σ ρ v s := by
  rcases r.ok with ⟨d, rfl, h⟩ | ⟨p, vs, ds, rfl, rfl, h1, h2, h3, h4, h5, h6⟩
  · exact ⟨.inl ⟨d, rfl, h.up g.bb⟩⟩
  · refine ⟨.inr ⟨p, vs, ds, rfl, rfl, g.hh _ _ h4 h1, ?_, h3, h4, h5.up g.bb, h6⟩⟩
    cases q : B' p with
    | none => rfl
    | some o =>
      rcases g.nw _ _ q with z | z
      · rw [h2] at z; cases z
      · rw [h1] at z; cases z
theorem Ripe.behind {B0 H0 B H : Hp} {σ : L2.St} {ρ : List Sl} {v u : V} {s t : Sl} {i : Nat} (r : Ripe K dl H0 B H σ ρ v s) (q : ∀ x, v = .ref x → s.isOwn = true → u = .ref x → t.isOwn = true → False) : Ripe K dl H0 B H (σ.set i (some u)) (ρ.set i t) v s := by
  rcases r.ok with h | ⟨p, vs, ds, rfl, rfl, h1, h2, h3, h4, h5, h6⟩
  · exact ⟨.inl h⟩
  · refine ⟨.inr ⟨p, vs, ds, rfl, rfl, h1, h2, h3, h4, h5, fun j t' hj ho hs => ?_⟩⟩
    by_cases hij : i = j
    · subst hij
      have hl : i < ρ.length := by have := (List.getElem?_eq_some_iff.mp hj).1; simpa using this
      rw [List.getElem?_set_self hl] at hj
      cases hj
      by_cases hl2 : i < σ.length
      · rw [List.getElem?_set_self hl2] at hs
        cases hs
        exact q p rfl rfl rfl ho
      · rw [List.getElem?_eq_none (by simpa using hl2)] at hs
        cases hs
    · rw [List.getElem?_set_ne hij] at hj hs
      exact h6 j t' hj ho hs
def wPar (i j : Nat) (x y : WX) : WS := fun E ρ => x ρ fun s => y ρ fun t => E.nx ((ρ.set i s).set j t)
theorem qs_par {i j : Nat} {st : Stmt} {ta tb : TE} {wx wy : WX} (hp : PS X st (tPar i j (tCons ta (tCons tb tNil)))) (sx : SX X.K dl ta wx) (sy : SX X.K dl tb wy) : QS X dl st (wPar i j wx wy) := by
  refine ⟨_, hp, fun B0 H0 B σ H ρ E D hw e l => sx B0 H0 B σ H ρ _ _ hw e fun v B1 H1 s hp g1 r1 f1 => ?_⟩
  refine sy B0 H0 B1 σ H1 ρ _ _ hp (e.grow g1) fun u B2 H2 t hq g2 r2 f2 => ⟨v, u, rfl, ?_⟩
  have e2 := (e.grow g1).grow g2
  have r1' := r1.grow g2
  refine l.nx _ _ _ _ hq ((e2.ripe i r1').ripe j (r2.behind (B0 := B0) fun x hu ht hv hs => ?_))
  subst hu
  have n := f2 x rfl ht
  rcases r1.ok with ⟨d, rfl, _⟩ | ⟨p, vs, ds, rfl, rfl, h1, _⟩
  · cases hs
  · cases hv
    rw [n] at h1
    cases h1

/-! ### name op= e -/
def wAug (i : Nat) (w : PyData → PyData → (PyData → Prop) → Prop) (we : WE) : WS := fun E ρ => ∃ d, ρ[i]? = some (.dat d) ∧ we ρ fun f => w d f fun g => E.nx (ρ.set i (.dat g))
theorem qs_aug {i : Nat} {st : Stmt} {w : PyData → PyData → (PyData → Prop) → Prop} {ti : TIp} (h : QE X dl e we) (ps : ∀ te, PE X e te → PS X st (tAug i te ti)) (hr : RD X.K dl (fun x y H Q => ti x y H Q) w) : QS X dl st (wAug i w we) := by
  obtain ⟨te, pe, se⟩ := h
  refine ⟨_, ps te pe, fun B0 H0 B σ H ρ E D hw e l => ?_⟩
  obtain ⟨d, hr1, hw⟩ := hw
  obtain ⟨v, h1, h2⟩ := e.sl i _ hr1
  refine ⟨v, h1, se B0 H0 B σ H ρ _ _ hw e fun u B1 H1 f hp g hu => ?_⟩
  exact hr v u d f _ B1 H1 _ hp (h2.up g.bb) hu g.bh g.dk fun v' B2 H2 d' hq g2 hd => l.nx _ _ _ _ hq (((e.grow g).grow g2).setD hd)
def dAddI := dI CAny fun i j => i + j
theorem rd_ipadd : RD K dl (fun x y H Q => ipI (fun i j => i + j) x y H Q) dAddI := rd_int fun i j H Q _ q => ⟨i, j, rfl, rfl, q⟩
theorem rd_ipsub : RD K dl (fun x y H Q => ipI (fun i j => i - j) x y H Q) dSub := rd_int fun i j H Q _ q => ⟨i, j, rfl, rfl, q⟩

/-! ### lists of one's own: pop, extend, an item stored -/
/-- y = x.pop() -/
def wPop (i j : Nat) : WS := fun E ρ => ∃ ds d, ρ[i]? = some (.own (ds ++ [d])) ∧ i ≠ j ∧ E.nx ((ρ.set i (.own ds)).set j (.dat d))
theorem qs_pop {i j : Nat} {st : Stmt} (ps : PS X st (tAsg (tBM0 X.K "list" rPop (tVar i)) (gName j))) : QS X dl st (wPop i j) := by
  refine ⟨_, ps, fun B0 H0 B σ H ρ E D hw e l => ?_⟩
  obtain ⟨ds, d, hr, hij, hw⟩ := hw
  obtain ⟨a, vs, h1, h2, h3, h4, h5, h6⟩ := e.sl i _ hr
  have hl : vs.length = ds.length + 1 := by rw [h6.len]; simp
  obtain ⟨v, e1, hv⟩ := h6.get (i := ds.length) (d := d) (by simp)
  refine ⟨.ref a, h1, .inl ⟨rfl, _, SqL.of h2⟩, a, vs, v, rfl, rfl, h2, by rw [hl]; exact e1, l.nx _ _ _ _ hw ((e.put hr h1 ?_).setD hv)⟩
  have := h6.dropLast
  rw [List.dropLast_concat] at this
  exact this
/-- x.pop(), what it gives being dropped -/
def wPop0 (i : Nat) : WS := fun E ρ => ∃ ds d, ρ[i]? = some (.own (ds ++ [d])) ∧ E.nx (ρ.set i (.own ds))
theorem qs_pop0 {i : Nat} {st : Stmt} (ps : PS X st (tDrop (tBM0 X.K "list" rPop (tVar i)))) : QS X dl st (wPop0 i) := by
  refine ⟨_, ps, fun B0 H0 B σ H ρ E D hw e l => ?_⟩
  obtain ⟨ds, d, hr, hw⟩ := hw
  obtain ⟨a, vs, h1, h2, h3, h4, h5, h6⟩ := e.sl i _ hr
  have hl : vs.length = ds.length + 1 := by rw [h6.len]; simp
  obtain ⟨v, e1, hv⟩ := h6.get (i := ds.length) (d := d) (by simp)
  refine ⟨.ref a, h1, .inl ⟨rfl, _, SqL.of h2⟩, a, vs, v, rfl, rfl, h2, by rw [hl]; exact e1, l.nx _ _ _ _ hw (e.put hr h1 ?_)⟩
  have := h6.dropLast
  rw [List.dropLast_concat] at this
  exact this
/-- x.extend(e) -/
def wExt (i : Nat) (w : WE) : WS := fun E ρ => ∃ ds, ρ[i]? = some (.own ds) ∧ w ρ fun d => ∃ es, d = .list es ∧ ds.length + es.length ≤ 1000000 ∧ E.nx (ρ.set i (.own (ds ++ es)))
theorem qs_ext {i : Nat} {st : Stmt} (h : QE X dl e we) (ps : ∀ te, PE X e te → PS X st (tDrop (tBM X.K "list" rExtend (tVar i) (tCons te tNil)))) : QS X dl st (wExt i we) := by
  obtain ⟨te, pe, se⟩ := h
  refine ⟨_, ps te pe, fun B0 H0 B σ H ρ E D hw e l => ?_⟩
  obtain ⟨ds, hr, hw⟩ := hw
  obtain ⟨a, vs, h1, h2, h3, h4, h5, h6⟩ := e.sl i _ hr
  refine ⟨.ref a, h1, .inl ⟨rfl, _, SqL.of h2⟩, se B0 H0 B σ H ρ _ _ hw e ?_⟩
  rintro v B1 H1 d ⟨es, rfl, hz, hp⟩ g hd
  have e1 := e.grow g
  obtain ⟨a', vs', k1, k2, k3, k4, k5, k6⟩ := e1.sl i _ hr
  rw [h1] at k1
  cases k1
  cases hd with
  | lst i1 i2 => exact ⟨a, _, vs', _, rfl, rfl, k2, g.bh _ _ i1, by rw [k6.len, i2.len]; exact line_of hz, l.nx _ _ _ _ hp (e1.put hr h1 (k6.append i2))⟩
/-- x[k] = e -/
def wSetI (i : Nat) (w wk : WE) : WS := fun E ρ => (∃ ds, ρ[i]? = some (.own ds)) ∧ w ρ fun d => wk ρ fun f => ∃ k j ds, f = .int k ∧ ρ[i]? = some (.own ds) ∧ ixN ds.length k = some j ∧ E.nx (ρ.set i (.own (ds.set j d)))
theorem qs_setI {i : Nat} {st : Stmt} {wk : WE} (h : QE X dl e we) (hk : QE X dl b wk) (ps : ∀ te tk, PE X e te → PE X b tk → PS X st (tAsg te (gSub (tVar i) tk rSetL))) : QS X dl st (wSetI i we wk) := by
  obtain ⟨te, pe, se⟩ := h
  obtain ⟨tk, pk, sk⟩ := hk
  refine ⟨_, ps te tk pe pk, fun B0 H0 B σ H ρ E D hw e l => ?_⟩
  obtain ⟨⟨ds0, hr0⟩, hw⟩ := hw
  refine se B0 H0 B σ H ρ _ _ hw e fun v B1 H1 d hp g hd => ?_
  have e1 := e.grow g
  obtain ⟨a, vs, h1, _⟩ := e1.sl i _ hr0
  refine ⟨.ref a, h1, sk B0 H0 B1 σ H1 ρ _ _ hp e1 ?_⟩
  rintro u B2 H2 f ⟨k, j, ds, rfl, hr, hj, hq⟩ g2 hu
  have e2 := e1.grow g2
  obtain ⟨a', us, k1, k2, k3, k4, k5, k6⟩ := e2.sl i _ hr
  rw [h1] at k1
  cases k1
  cases hu
  exact ⟨a, us, k, j, rfl, rfl, k2, by rw [k6.len]; exact hj, l.nx _ _ _ _ hq (e2.put hr h1 (k6.setAt j (hd.up g2.bb)))⟩

/-! ### all, any of a list -/
def boolsOf : List PyData → Option (List Bool)
  | [] => some []
  | .bool b :: r => (boolsOf r).map (b :: ·)
  | _ :: _ => none
theorem bools_of {H : Hp} : ∀ {vs : List V} {ds : List PyData} {bs : List Bool}, DatAll K H vs ds → boolsOf ds = some bs → vs = bs.map V.bl
  | _, _, bs, .nil, h => by cases (show some [] = some bs from h); rfl
  | _, _, bs, .cons (d := d) h t, e => by
    cases d with
    | bool b =>
      cases h
      obtain ⟨r, hr, rfl⟩ := Option.map_eq_some_iff.mp e
      rw [bools_of t hr]
      rfl
    | _ => cases e
def dAll : WF := fun ds P => match ds with
  | [.list xs] => ∃ bs, boolsOf xs = some bs ∧ P (.bool (bs.all id))
  | _ => False
def dAny : WF := fun ds P => match ds with
  | [.list xs] => ∃ bs, boolsOf xs = some bs ∧ P (.bool (bs.any id))
  | _ => False
theorem rc_all : RC K (rAll K) dAll := by
  intro xs ds P H Q hw hd k
  cases hd with
  | nil => exact hw.elim
  | cons h1 h2 =>
    cases h2 with
    | cons _ _ => cases h1 <;> exact hw.elim
    | nil =>
      cases h1 with
      | lst g1 g2 =>
        obtain ⟨bs, e, hp⟩ := hw
        obtain rfl := bools_of g2 e
        exact ⟨_, bs, rfl, SqL.of g1, k _ _ hp fun B => .bl _⟩
      | _ => exact hw.elim
theorem rc_any : RC K (rAny K) dAny := by
  intro xs ds P H Q hw hd k
  cases hd with
  | nil => exact hw.elim
  | cons h1 h2 =>
    cases h2 with
    | cons _ _ => cases h1 <;> exact hw.elim
    | nil =>
      cases h1 with
      | lst g1 g2 =>
        obtain ⟨bs, e, hp⟩ := hw
        obtain rfl := bools_of g2 e
        exact ⟨_, bs, rfl, SqL.of g1, k _ _ hp fun B => .bl _⟩
      | _ => exact hw.elim
theorem q_all (hc : X.calm = true) (hg : Gl X "all") (hm : X.mg "all" = none) (h : QAV X dl (a :: es) ws) (he : starEach (a :: es) X.env = (false, eval a X.env) :: starEach es X.env := by rfl) (hpl : (backTo pos (starEach es X.env)).any (·.1) = false := by rfl) :
    QE X dl (.Call (.Name "all" p) (a :: es) [] pos) (wFn dAll ws) := q_blt (cr_all hc) rc_all hg hm (by decide +kernel) h (by decide) (by decide) he hpl
theorem q_any (hc : X.calm = true) (hg : Gl X "any") (hm : X.mg "any" = none) (h : QAV X dl (a :: es) ws) (he : starEach (a :: es) X.env = (false, eval a X.env) :: starEach es X.env := by rfl) (hpl : (backTo pos (starEach es X.env)).any (·.1) = false := by rfl) :
    QE X dl (.Call (.Name "any" p) (a :: es) [] pos) (wFn dAny ws) := q_blt (cr_any hc) rc_any hg hm (by decide +kernel) h (by decide) (by decide) he hpl

/-! ### enumerate, zip of lists -/
theorem walks_enum {B : Hp} {a : Addr} {vs : List V} {ds : List PyData} (h : B a = some (.lst vs)) (hd : DatAll K B vs ds) : Walks K dl (Ite K a) B (ds.zipIdx.map fun q => .tuple [.int (q.2 : Nat), q.1]) where
  go := fun i B2 H2 s1 s2 hi => by
    have hi : i < vs.length := by rw [hd.len]; simpa using hi
    exact ⟨vs, vs[i], SqL.of (s2 _ _ (s1 _ _ h)), List.getElem?_eq_getElem hi⟩
  stop := fun i B2 H2 s1 s2 hi => ⟨vs, SqL.of (s2 _ _ (s1 _ _ h)), by rw [hd.len]; simpa using hi⟩
  yld := fun i B2 H2 x H3 s1 s2 dk hy hi => by
    obtain ⟨T, y, rfl, nT, rfl, f⟩ := hy
    obtain ⟨d, e1, e2⟩ := hd.getV (f vs (SqL.of (s2 _ _ (s1 _ _ h))))
    have gn := Grow.new (o := .tup [.int (i : Nat), y]) s2 dk nT
    exact ⟨_, .tuple [.int (i : Nat), d], by simp [e1], gn, .tup (SqT.of upd_same) (.cons (.int _) (.cons ((e2.up s1).up gn.bb) .nil))⟩
theorem walks_zip {B : Hp} {a b : Addr} {vs us : List V} {ds es : List PyData} (h : B a = some (.lst vs)) (hd : DatAll K B vs ds) (h' : B b = some (.lst us)) (hd' : DatAll K B us es) : Walks K dl (Itz K a b) B ((ds.zip es).map fun q => .tuple [q.1, q.2]) where
  go := fun i B2 H2 s1 s2 hi => by
    have hi : i < vs.length ∧ i < us.length := by rw [hd.len, hd'.len]; simp at hi; omega
    exact ⟨vs, us, vs[i], us[i], SqL.of (s2 _ _ (s1 _ _ h)), SqL.of (s2 _ _ (s1 _ _ h')), List.getElem?_eq_getElem hi.1, List.getElem?_eq_getElem hi.2⟩
  stop := fun i B2 H2 s1 s2 hi => ⟨vs, us, SqL.of (s2 _ _ (s1 _ _ h)), SqL.of (s2 _ _ (s1 _ _ h')), by rw [hd.len, hd'.len]; simp at hi; omega⟩
  yld := fun i B2 H2 x H3 s1 s2 dk hy hi => by
    obtain ⟨T, y, z, rfl, nT, rfl, f, f'⟩ := hy
    obtain ⟨d, e1, e2⟩ := hd.getV (f vs (SqL.of (s2 _ _ (s1 _ _ h))))
    obtain ⟨d', e1', e2'⟩ := hd'.getV (f' us (SqL.of (s2 _ _ (s1 _ _ h'))))
    have gn := Grow.new (o := .tup [y, z]) s2 dk nT
    refine ⟨_, .tuple [d, d'], ?_, gn, .tup (SqT.of upd_same) (.cons ((e2.up s1).up gn.bb) (.cons ((e2'.up s1).up gn.bb) .nil))⟩
    rw [List.getElem?_map, show (ds.zip es)[i]? = some (d, d') from List.getElem?_zip_eq_some.mpr ⟨e1, e1'⟩]
    rfl
def wEnum (w : WA) : WA := fun ρ P => w ρ fun ds => ∃ xs, ds = [.list xs] ∧ P (xs.zipIdx.map fun q => .tuple [.int (q.2 : Nat), q.1])
def wZip (w : WA) : WA := fun ρ P => w ρ fun ds => ∃ xs ys, ds = [.list xs, .list ys] ∧ P ((xs.zip ys).map fun q => .tuple [q.1, q.2])
theorem i_enum {elts : List Expr} {kk : Nat} {tpos : Pos} (hg : Gl X "enumerate") (hm : X.mg "enumerate" = none) (h : QA X dl [a] ws) (hs : starEach [a] X.env = [(false, eval a X.env)] := by rfl) : QI X dl (.Tuple elts kk tpos) (.Call (.Name "enumerate" p) [a] [] cpos) (wEnum ws) := by
  obtain ⟨ta, pa, sa⟩ := h
  refine ⟨_, pi_enum hg hm pa hs, fun B0 H0 B σ H ρ P R hw e k => sa B0 H0 B σ H ρ _ _ hw e ?_⟩
  rintro vs B' H' ds ⟨xs, rfl, hp⟩ g hd
  cases hd with
  | cons h1 h2 =>
    cases h2
    cases h1 with
    | lst g1 g2 => exact ⟨_, _, rfl, SqL.of (g.bh _ _ g1), k _ B' H' _ hp g (walks_enum g1 g2)⟩
theorem i_zip {elts : List Expr} {kk : Nat} {tpos : Pos} (hg : Gl X "zip") (hm : X.mg "zip" = none) (h : QA X dl [a, b] ws) (hs : starEach [a, b] X.env = (false, eval a X.env) :: starEach [b] X.env := by rfl) (hpl : (backTo cpos (starEach [b] X.env)).any (·.1) = false := by rfl) :
    QI X dl (.Tuple elts kk tpos) (.Call (.Name "zip" p) [a, b] [] cpos) (wZip ws) := by
  obtain ⟨ta, pa, sa⟩ := h
  refine ⟨_, pi_zip hg hm pa hs hpl, fun B0 H0 B σ H ρ P R hw e k => sa B0 H0 B σ H ρ _ _ hw e ?_⟩
  rintro vs B' H' ds ⟨xs, ys, rfl, hp⟩ g hd
  cases hd with
  | cons h1 h2 =>
    cases h2 with
    | cons h3 h4 =>
      cases h4
      cases h1 with
      | lst g1 g2 =>
        cases h3 with
        | lst g3 g4 => exact ⟨_, _, _, _, rfl, SqL.of (g.bh _ _ g1), SqL.of (g.bh _ _ g3), k _ B' H' _ hp g (walks_zip g1 g2 g3 g4)⟩
/-! ### the script -/
def wScrSl (i : Nat) (wl wh : WO) : WA := fun ρ P => ∃ ns, ρ[i]? = some (.scr ns) ∧ wl ρ fun l => wh ρ fun h => P (cutD (ns.map .int) l h)
theorem qo_scr {i : Nat} {lo hi : Option Expr} {wl wh : WO} {p2 : Pos} (ha : PE X a (tVar i)) (hl : QP X dl lo wl) (hh : QP X dl hi wh) : QO X dl (.Subscript a (.Slice lo hi none p2) pos) (wScrSl i wl wh) := by
  obtain ⟨tl, pl, sl⟩ := hl
  obtain ⟨th, ph, sh⟩ := hh
  refine ⟨_, pe_slice sl_list ha pl ph, fun B0 H0 B σ H ρ P Q hw e k => ?_⟩
  obtain ⟨ns, hr, hw⟩ := hw
  obtain ⟨x, h1, h2⟩ := e.sl i _ hr
  refine ⟨.ref x, h1, sl B0 H0 B σ H ρ _ _ hw e fun l B2 H2 hq g2 => sh B0 H0 B2 σ H2 ρ _ _ hq (e.grow g2) fun u B3 H3 hz g3 => ?_⟩
  have g := g2.trans g3
  refine ⟨_, _, rfl, g3.bh.seq (g.bb.seq h2), fun p np => ?_⟩
  have gn := Grow.newO g3.bh g3.dk (o := .lst (cutV (ns.map V.int) l u)) np
  exact k _ _ _ _ _ hz (g.trans gn) (fresh0 g np) (g3.bh.free np) upd_same ((DatAll.ints ns).cut)
end
end Lay

namespace Lay
open PySem PySem.Spec PyProof.Rows L2

/-! ### a deal turns -/
section
variable {K : PySem.W.Frag} {a c : Addr} {B H B' H' : Hp}
theorem Grow.off2 {x : Addr} (h : Off (some (a, c)) x) : x ≠ a ∧ x ≠ c := h (a, c) rfl
theorem Grow.setC {gl : List Int} {b : Int} (g : Grow (some (a, c)) B H B' H') (n : B' c = none) (ac : a ≠ c) (ha : H' a = some (.lst [.ref c, .int b])) (hb : 0 ≤ b ∧ b < 2147483647) (hl : gl.length ≤ 1000) (hg : ∀ x ∈ gl, 0 ≤ x) : Grow (some (a, c)) B H B' (upd H' c (.lst (gl.map V.int))) := by
  refine ⟨g.bb, fun x o e => ?_, fun x o f e => ?_, g.nw, fun p hp => ?_⟩
  · rw [upd_ne (ne_of_none e n)]; exact g.bh _ _ e
  · rw [upd_ne (f (a, c) rfl).2]; exact g.hh _ _ f e
  · cases hp
    exact ⟨ac, gl, b, by rw [upd_ne ac]; exact ha, upd_same, hl, hg, hb.1, hb.2⟩
theorem Grow.setA {gl : List Int} {b : Int} (g : Grow (some (a, c)) B H B' H') (n : B' a = none) (ac : a ≠ c) (hc : H' c = some (.lst (gl.map V.int))) (hb : 0 ≤ b ∧ b < 2147483647) (hl : gl.length ≤ 1000) (hg : ∀ x ∈ gl, 0 ≤ x) : Grow (some (a, c)) B H B' (upd H' a (.lst [.ref c, .int b])) := by
  refine ⟨g.bb, fun x o e => ?_, fun x o f e => ?_, g.nw, fun p hp => ?_⟩
  · rw [upd_ne (ne_of_none e n)]; exact g.bh _ _ e
  · rw [upd_ne (f (a, c) rfl).1]; exact g.hh _ _ f e
  · cases hp
    exact ⟨ac, gl, b, upd_same, by rw [upd_ne (Ne.symm ac)]; exact hc, hl, hg, hb.1, hb.2⟩
theorem Grow.junk {p : Addr} {o : HO} (g : Grow (some (a, c)) B H B' H') (n : H' p = none) : Grow (some (a, c)) B H B' (upd H' p o) := g.trans (.newO g.bh g.dk n)
theorem dpAll_ints {H : Hp} : ∀ ns : List Int, DpAll K H (ns.map V.int) (ns.map PyData.int)
  | [] => .nil
  | n :: r => .cons (.int n) (dpAll_ints r)
theorem ints_can : ∀ ns : List Int, PyData.canLayAll0 (ns.map PyData.int) = true
  | [] => rfl
  | n :: r => by
    show (PyData.canLay0 (.int n) && PyData.canLayAll0 (r.map PyData.int)) = true
    rw [ints_can r]
    rfl
theorem ints_depth : ∀ ns : List Int, PyData.depthAll (ns.map PyData.int) = 0
  | [] => rfl
  | n :: r => by
    show max (PyData.depth (.int n)) (PyData.depthAll (r.map PyData.int)) = 0
    rw [ints_depth r]
    rfl
theorem ints_shaped (ns : List Int) : SeqAt.shaped (.list (ns.map PyData.int)) = true := by
  unfold SeqAt.shaped
  show (PyData.canLayAll0 (ns.map PyData.int) && decide (PyData.depthAll (ns.map PyData.int) + 1 ≤ 64)) = true
  rw [ints_can, ints_depth]
  decide
theorem last_int {gl : List Int} {x : Int} : ((gl ++ [x]).map V.int)[((gl ++ [x]).map V.int).length - 1]? = some (.int x) := by simp
end
/-- what _law_any tells: any number below the bound -/
def wAny : WF := fun ds P => ∃ n, ds = [.int n] ∧ 0 < n ∧ n.natAbs.log2 < 9000 ∧ ∀ r, 0 ≤ r → r < n → P (.int r)
/-- what _law_draw makes: a deal -/
def spDraw (K : PySem.W.Frag) : Sp := fun vs H Q _ => ∃ (s : Addr) (salt : Int) (ns : List Int), vs = [.ref s, .int salt] ∧ SqL K H s (ns.map V.int) ∧ 0 ≤ salt ∧ salt ≤ 1000 ∧
  ∀ a c H', Same H H' → H a = none → H c = none → DealOk (some (a, c)) H' → Q (.ref a) H'
end Lay
namespace Lay
open PySem PySem.Spec PyProof.Rows L2
theorem ints_back {K : PySem.W.Frag} {B : Hp} : ∀ {vs : List V} {gl : List Int}, DatAll K B vs (gl.map PyData.int) → vs = gl.map V.int
  | [], [], _ => rfl
  | v :: vs, g :: gl, .cons h t => by
    cases h
    rw [ints_back t]
    rfl
/-- abs of each -/
theorem draw_abs {P : List PyData → Prop} {a : Sl} {b : Sl} {c : Sl} {d : Sl} : ∀ (ms acc : List Int), (∀ cs : List Int, cs.length = acc.length + ms.length → (∀ x ∈ cs, x ∈ acc ∨ 0 ≤ x) → P (cs.map .int)) → acc.length + ms.length ≤ 1000 →
    lcGo (gDat 4) wYes (wFn dAbs (wCons (wFn dInt (wCons (wLook 4) wNil)) wNil)) [a, b, c, d, .no] P (ms.map .int) (acc.map .int)
  | [], acc, h, _ => h acc (by simp) fun x hx => .inl hx
  | m :: ms, acc, h, hl => by
    refine ⟨.int m, .inl rfl, ?_⟩
    show (acc.map PyData.int).length < 1000000 ∧ lcGo _ _ _ _ P (ms.map .int) (acc.map .int ++ [.int (if m < 0 then -m else m)])
    refine ⟨by simp at hl ⊢; omega, ?_⟩
    have e : acc.map PyData.int ++ [.int (if m < 0 then -m else m)] = (acc ++ [if m < 0 then -m else m]).map .int := by simp
    rw [e]
    refine draw_abs ms _ (fun cs h1 h2 => h cs (by simp at h1 ⊢; omega) fun x hx => ?_) (by simp at hl ⊢; omega)
    rcases h2 x hx with z | z
    · rcases List.mem_append.mp z with z | z
      · exact .inl z
      · refine .inr ?_
        rw [List.mem_singleton.mp z]
        split <;> omega
    · exact .inr z
/-- those at least 10 ^ 18 -/
theorem draw_filter {P : List PyData → Prop} {a b c d : Sl} : ∀ (ms acc : List Int), (∀ cs : List Int, cs.length ≤ acc.length + ms.length → (∀ x ∈ cs, x ∈ acc ∨ x ∈ ms) → P (cs.map .int)) → acc.length + ms.length ≤ 1000 →
    lcGo (gDat 4) (wCmp dGe (wLook 4) (wOp dPow (wC (.int 10)) (wC (.int 18)))) (wVar 4) [a, b, c, d, .no] P (ms.map .int) (acc.map .int)
  | [], acc, h, _ => h acc (by simp) fun x hx => .inl hx
  | m :: ms, acc, h, hl => by
    refine ⟨.int m, .inl rfl, ⟨by decide, by decide, by decide⟩, ?_⟩
    show if decide ((10 : Int) ^ (18 : Int).toNat ≤ m) = true then _ else _
    split
    · refine ⟨.int m, rfl, by simp at hl ⊢; omega, ?_⟩
      have e : acc.map PyData.int ++ [.int m] = (acc ++ [m]).map .int := by simp
      rw [e]
      refine draw_filter ms _ (fun cs h1 h2 => h cs (by simp at h1 ⊢; omega) fun x hx => ?_) (by simp at hl ⊢; omega)
      rcases h2 x hx with z | z
      · rcases List.mem_append.mp z with z | z
        · exact .inl z
        · exact .inr (by rw [List.mem_singleton.mp z]; exact List.mem_cons_self)
      · exact .inr (List.mem_cons_of_mem _ z)
    · refine draw_filter ms _ (fun cs h1 h2 => h cs (by simp at h1 ⊢; omega) fun x hx => ?_) (by simp at hl ⊢; omega)
      rcases h2 x hx with z | z
      · exact .inl z
      · exact .inr (List.mem_cons_of_mem _ z)
theorem draw_pick {cs : List Int} {a b d x : Sl} (hl : cs.length ≤ 48) (hn : ∀ x ∈ cs, 0 ≤ x) :
    wOfO (wLc (wList (wVar 2)) (gDat 4) (wCmp dGe (wLook 4) (wOp dPow (wC (.int 10)) (wC (.int 18)))) (wVar 4) [4]) [a, b, .dat (.list (cs.map .int)), d, x] fun e => ∃ ds, e = .list ds ∧ ∃ gl : List Int, ds.reverse = gl.map .int ∧ gl.length ≤ 48 ∧ ∀ x ∈ gl, 0 ≤ x := by
  refine ⟨_, rfl, _, rfl, ?_⟩
  refine draw_filter cs [] (fun es h1 h2 => ⟨_, rfl, es.reverse, by simp, by simp at h1 ⊢; omega, fun x hx => ?_⟩) (by simp; omega)
  rcases h2 x (by simpa using hx) with z | z
  · cases z
  · exact hn x z
/-- the blend -/
abbrev wBlend : WS := wSet 3 (wOp dMod (wFn dInt (wCons (wOp dAdd (wOp dAdd (wOp dMul (wVar 3) (wC (.int 48271))) (wOp dMod (wVar 4) (wC (.int 2147483549)))) (wC (.int 11))) wNil)) (wC (.int 2147483647)))
theorem draw_blend {E : DEnds} {a b c : Sl} : ∀ (ms : List Int) (t : Int) (x : Sl), (-(2 ^ 40) ≤ t ∧ t ≤ 2 ^ 40) → (ms = [] → 0 ≤ t ∧ t < 2147483647) → (∀ (t : Int) (x : Sl), 0 ≤ t → t < 2147483647 → E.nx [a, b, c, .dat (.int t), x]) →
    wForGo (gDat 4) wBlend E (ms.map .int) [a, b, c, .dat (.int t), x]
  | [], t, x, _, h, k => k t x (h rfl).1 (h rfl).2
  | m :: ms, t, x, ht, _, k => by
    refine ⟨_, rfl, .inl (.inl ⟨by omega, by omega⟩), ?_⟩
    refine ⟨_, rfl, by show (0 : Int) < 2147483549; decide, ?_⟩
    refine ⟨by show (0 : Int) < 2147483647; decide, ?_⟩
    have c1 : 0 ≤ (t * 48271 + m % 2147483549 + 11) % 2147483647 := Int.emod_nonneg _ (by decide)
    have c2 : (t * 48271 + m % 2147483549 + 11) % 2147483647 < 2147483647 := Int.emod_lt_of_pos _ (by decide)
    exact draw_blend ms ((t * 48271 + m % 2147483549 + 11) % 2147483647) (.dat (.int m)) (by omega) (fun _ => ⟨c1, c2⟩) k
theorem cut_ints {ns : List Int} : cutD (ns.map .int) none (some 48) = (ns.take 48).map .int := by
  unfold cutD
  rw [HT.sIx_none, show HT.sIx (ns.map PyData.int).length (ns.map PyData.int).length (some 48) = min 48 (ns.map PyData.int).length from HT.sIx_nat _ _ 48, List.drop_zero, Nat.sub_zero, List.map_take]
  rcases Nat.le_total 48 (ns.map PyData.int).length with h | h
  · rw [Nat.min_eq_left h]
  · rw [Nat.min_eq_right h, List.take_length, List.take_of_length_le h]
theorem draw_runs {ns : List Int} {salt : Int} (h0 : 0 ≤ salt) (h1 : salt ≤ 1000) : wSeq (wSet 2 (wOfO (wLc (wList (wOfO (wScrSl 0 wNoPart (wPart (wC (.int 48)))))) (gDat 4) wYes (wFn dAbs (wCons (wFn dInt (wCons (wLook 4) wNil)) wNil)) [4])))
    (wSeq (wSet 3 (wOp dAdd (wC (.int 7919)) (wOp dMul (wC (.int 104729)) (wVar 1)))) (wFor (wList (wVar 2)) (gDat 4) (wSet 3 (wOp dMod (wFn dInt (wCons (wOp dAdd (wOp dAdd (wOp dMul (wVar 3) (wC (.int 48271))) (wOp dMod (wVar 4) (wC (.int 2147483549)))) (wC (.int 11))) wNil)) (wC (.int 2147483647))))))
    { nx := fun ρ => ∃ (cs : List Int) (b : Int) (x : Sl), ρ = [.scr ns, .dat (.int salt), .dat (.list (cs.map .int)), .dat (.int b), x] ∧ cs.length ≤ 48 ∧ (∀ x ∈ cs, 0 ≤ x) ∧ 0 ≤ b ∧ b < 2147483647, rt := fun _ => False } [.scr ns, .dat (.int salt), .no, .no, .no] := by
  refine ⟨ns, rfl, _, rfl, _, rfl, ?_⟩
  rw [cut_ints]
  have hl : (ns.take 48).length ≤ 48 := by rw [List.length_take]; omega
  refine draw_abs (ns.take 48) [] (fun cs e1 e2 => ?_) (by simp; omega)
  have hn : ∀ x ∈ cs, 0 ≤ x := fun x hx => (e2 x hx).elim (fun z => nomatch z) id
  have hcl : cs.length ≤ 48 := by simp at e1; omega
  refine ⟨_, rfl, .inl (.inl ⟨by omega, by omega⟩), ?_⟩
  refine ⟨_, rfl, _, rfl, ?_⟩
  refine draw_blend cs (7919 + 104729 * salt) .no (by omega) (fun _ => by omega) fun t x t0 t1 => ⟨cs, t, x, rfl, hcl, hn, t0, t1⟩
end Lay

namespace Lay
open PySem PySem.Spec PyProof.Rows L2

/-- a constant of the module -/
structure Glo (K : PySem.W.Frag) (mg : Str → Option Value) (x : Str) (d : PyData) : Prop where
  out : ∃ u v, mg x = some u ∧ RelV v u ∧ ∀ B, Dat K B v d
theorem glo_tup {K : PySem.W.Frag} {h : Heap} {mg : Str → Option Value} {x : Str} {t : Addr} {od : Option Addr} {its : Array Value} {n : Nat} {sl : Array (Option Value)} {xs : List V} {ds : List PyData} (X : K.In h) (G : h.Ns mainGlobals mg)
    (t1 : PySem.W.nsIn K mainGlobals x = some (some (.ref t))) (t2 : K.lookup t = some ⟨.type "tuple", od, .seq its n, sl⟩) (t3 : its.size ≤ sizeLine) (t4 : Vals xs its.toList) (t5 : ∀ B, DatAll K B xs ds) : Glo K mg x (.tuple ds) :=
  ⟨_, .ref t, PySem.W.mg_of X G t1, rfl, fun B => .tup (.inr ⟨_, its, n, t2, rfl, rfl, t3, t4⟩) (t5 B)⟩
section
variable {X : Cx} {dl : DL} {K : PySem.W.Frag} {pos : Pos}
theorem q_g {x : Str} {d : PyData} (hg : Gl X x) (h : Glo X.K X.mg x d) (hd : (x == ("__debug__" : Str)) = false := by decide) : QE X dl (.Name x pos) (wC d) := by
  obtain ⟨u, v, h1, h2, h3⟩ := h.out
  exact q_glob hg h1 h2 h3 hd
theorem qs_par2 {i j : Nat} {x y : Str} {a b : Expr} {wa wb : WE} {px py pt pt2 : Pos} {kt k2 : Nat} (hN : X.N.Nodup) (hi : X.N[i]? = some x) (hj : X.N[j]? = some y) (hx : X.env.scope.names.lookup x = some .local) (hy : X.env.scope.names.lookup y = some .local) (ha : QE X dl a wa) (hb : QE X dl b wb)
    (hc : X.calm = true := by rfl) (hij : i ≠ j := by decide) (h1 : starEach (a :: [b]) X.env = (false, eval a X.env) :: starEach [b] X.env := by rfl) (h2 : starEach (b :: []) X.env = (false, eval b X.env) :: starEach [] X.env := by rfl)
    (hw : swappedStores [.Tuple [.Name x px, .Name y py] kt pt] (.Tuple [a, b] k2 pt2) X.env = pure (some [x, y]) := by rfl)
    (hs : swapsWithSole [.Tuple [.Name x px, .Name y py] kt pt] (.Tuple [a, b] k2 pt2) pos.line X.env = pure false := by rfl) : QS X dl (.Assign [.Tuple [.Name x px, .Name y py] kt pt] (.Tuple [a, b] k2 pt2) pos) (wPar i j (xDat wa) (xDat wb)) := by
  obtain ⟨ta, pa, sa⟩ := ha
  obtain ⟨tb, pb, sb⟩ := hb
  exact qs_par (ps_par hc hN hi hj hij hx hy (pa_cons pa (pa_cons pb pa_nil h2) h1) hw hs) (sx_dat sa) (sx_dat sb)
/-- one reading for all deals -/
def cSs (X : Cx) (sts : List Stmt) : TS := fun D σ H => ∃ t, PSs X sts t ∧ t D σ H
theorem pss_c {sts : List Stmt} : PSs X sts (cSs X sts) := ⟨fun pins s σ H D I h => h.elim fun t h => h.1.run pins s σ H D I h.2⟩
theorem QSs.c {sts : List Stmt} {ws : WS} (h : QSs X dl sts ws) : SS X.K dl (cSs X sts) ws := fun B0 H0 B σ H ρ E D hw e l => h.elim fun t h => ⟨t, h.1, h.2 B0 H0 B σ H ρ E D hw e l⟩
end
def spLaw (K : PySem.W.Frag) (n : Nat) (W : List Int → Prop) : Sp := fun vs H Q _ => ∃ (s : Addr) (ns : List Int), vs = [.ref s] ∧ SqL K H s (ns.map V.int) ∧ ns.length ≤ n ∧ W ns ∧ ∀ H', Q (.bl true) H'
def lawE : DEnds := { nx := fun _ => False, rt := fun d => d = .bool true }
section
variable {P : Program} {w : World} {K : PySem.W.Frag} {mg : Str → Option Value} {base : Heap} {x qual : Str} {st : Stmt} {f : Addr} {fd : FuncData} {N : List Str} {k j : Nat} {ws : WS}
theorem okLaw {s0 : Stmt} {rest : List Stmt} {salt : Int} {n : Nat} (N2 : List Str) (hN : N = Str.ofString "script" :: Str.ofString "deal" :: N2) (F : Fun K x qual st f fd) (S : FnScope N ["script"] (defScope st)) (hb : defBody st = s0 :: rest) (s1 : 0 ≤ salt) (s2 : salt ≤ 1000)
    (first : ∀ (cdv : Value) (A : Around) (outer : List Env) (s : Shared) (H : Hp) (E : XK), A.guards = some [] → Room k (A.deeper (envOfC qual (defScope st) s.heap.objs.size f cdv)) →
      PS (cxOf CX0 P w K mg base N qual (defScope st) f cdv A outer s H E).nox s0 (tAsg (tCall (spDraw K) [] E0 (tCons (tVar 0) (tCons (tC (V.int salt)) tNil))) (gName 1)))
    (body : ∀ (dl : DL) (cdv : Value) (A : Around) (outer : List Env) (s : Shared) (H : Hp) (E : XK), A.guards = some [] → Room k (A.deeper (envOfC qual (defScope st) s.heap.objs.size f cdv)) → QSs (cxOf CX0 P w K mg base N qual (defScope st) f cdv A outer s H E).nox dl rest ws)
    {W : List Int → Prop} (math : ∀ ns : List Int, W ns → ws lawE (.scr ns :: .deal :: List.replicate N2.length .no)) : FnG P w K mg base CX0 (k + 1) f fd ["script"] (spLaw K n W) := by
  refine okG F S (fun vs H Q E h => ?_) fun cdv A outer s H vs Q E hg hr h => ?_
  · obtain ⟨s, ns, rfl, _⟩ := h
    rfl
  · obtain ⟨s', ns, rfl, hS, hn, hW, kk⟩ := h
    have p0 := first cdv A outer s H E hg hr
    refine ⟨tSeq (tAsg (tCall (spDraw K) [] E0 (tCons (tVar 0) (tCons (tC (V.int salt)) tNil))) (gName 1)) (cSs _ rest), by rw [hb]; exact (pss_cons p0 pss_c).nox, ?_⟩
    subst hN
    refine ⟨.ref s', rfl, s', salt, ns, rfl, hS, s1, s2, fun a c H' sm na nc dk => ?_⟩
    refine (body (some (a, c)) cdv A outer s H E hg hr).c H H' H _ H' (.scr ns :: .deal :: List.replicate N2.length .no) lawE _ (math ns hW) ?_ ⟨fun _ _ _ _ h _ => h.elim, ?_, fun _ _ _ _ h _ => ?_, fun _ _ _ _ h _ => ?_⟩
    · refine ⟨by simp [L2.start], .refl sm dk, fun p hp => by cases hp; exact ⟨na, nc⟩, fun i t h => ?_, fun i j u t x m hi hj os ot es et => ?_⟩
      · match i, h with
        | 0, h => cases h; exact ⟨s', rfl, hS⟩
        | 1, h => cases h; exact ⟨(a, c), rfl, rfl⟩
        | i + 2, h =>
          rw [List.eq_of_mem_replicate (List.mem_of_getElem? (show (List.replicate N2.length Sl.no)[i]? = some t from h))]
          trivial
      · match i, hi with
        | 0, h => cases h; cases os
        | 1, h => cases h; cases os
        | i + 2, h =>
          rw [List.eq_of_mem_replicate (List.mem_of_getElem? (show (List.replicate N2.length Sl.no)[i]? = some u from h))] at os
          cases os
    · rintro d v B1 H1 rfl g hd
      cases hd
      exact kk H1
    · exact h
    · exact h
end
end Lay

namespace Lay
open PySem PySem.Spec PyProof.Rows L2
theorem w_cst {d : PyData} {ρ : List Sl} {P : PyData → Prop} (h : P d) : wC d ρ P := h
/-! ### shapes -/
def Sh (n : Nat) (d : PyData) : Prop := d.canLay0 = true ∧ d.depth ≤ n
theorem Sh.shaped {n : Nat} {d : PyData} (h : Sh n d) (hn : n ≤ 64 := by decide) : SeqAt.shaped d = true := by
  unfold SeqAt.shaped
  rw [h.1, decide_eq_true (Nat.le_trans h.2 hn)]
  rfl
theorem Sh.mono {m n : Nat} {d : PyData} (h : Sh m d) (hn : m ≤ n) : Sh n d := ⟨h.1, Nat.le_trans h.2 hn⟩
theorem Sh.all {n : Nat} : ∀ {ds : List PyData}, (∀ x ∈ ds, Sh n x) → PyData.canLayAll0 ds = true ∧ PyData.depthAll ds ≤ n
  | [], _ => ⟨rfl, Nat.zero_le _⟩
  | x :: r, h => by
    have h1 := h x List.mem_cons_self
    have h2 := Sh.all fun y hy => h y (List.mem_cons_of_mem _ hy)
    refine ⟨?_, ?_⟩
    · show (PyData.canLay0 x && PyData.canLayAll0 r) = true
      rw [h1.1, h2.1]; rfl
    · show max (PyData.depth x) (PyData.depthAll r) ≤ n
      exact Nat.max_le.mpr ⟨h1.2, h2.2⟩
theorem Sh.list {n : Nat} {ds : List PyData} (h : ∀ x ∈ ds, Sh n x) : Sh (n + 1) (.list ds) := ⟨(Sh.all h).1, Nat.succ_le_succ (Sh.all h).2⟩
theorem Sh.tuple {n : Nat} {ds : List PyData} (h : ∀ x ∈ ds, Sh n x) : Sh (n + 1) (.tuple ds) := ⟨(Sh.all h).1, Nat.succ_le_succ (Sh.all h).2⟩
theorem Sh.int {i : Int} {n : Nat} : Sh n (.int i) := ⟨rfl, Nat.zero_le _⟩
theorem Sh.bool {b : Bool} {n : Nat} : Sh n (.bool b) := ⟨rfl, Nat.zero_le _⟩
theorem Sh.none {n : Nat} : Sh n .none := ⟨rfl, Nat.zero_le _⟩
theorem Sh.ints {n : Nat} {ns : List Int} : ∀ x ∈ ns.map PyData.int, Sh n x := fun x hx => by
  obtain ⟨i, _, rfl⟩ := List.mem_map.mp hx
  exact .int
/-! ### == over data -/
theorem eqv_ints : ∀ (a b : List Int), PyData.eqvAll (a.map .int) (b.map .int) = decide (a = b)
  | [], [] => rfl
  | [], _ :: _ => rfl
  | _ :: _, [] => rfl
  | x :: a, y :: b => by
    show (decide (x = y) && PyData.eqvAll (a.map .int) (b.map .int)) = _
    rw [eqv_ints a b]
    by_cases h1 : x = y <;> by_cases h2 : a = b <;> simp [h1, h2]
theorem dIs_none {d : PyData} {P : Bool → Prop} (h : P (isNone d)) : dIs d .none P := by cases d <;> exact h
theorem atI_0 {α : Type} {x : α} {xs : List α} : L2.atI (x :: xs) 0 = some x := atI_nat (j := 0) rfl
theorem cut_to {xs : List PyData} {n : Nat} : cutD xs none (some (n : Int)) = xs.take n := by
  unfold cutD
  rw [HT.sIx_none, HT.sIx_nat, List.drop_zero, Nat.sub_zero]
  rcases Nat.le_total n xs.length with h | h
  · rw [Nat.min_eq_left h]
  · rw [Nat.min_eq_right h, List.take_length, List.take_of_length_le h]
theorem cut_from {xs : List PyData} {n : Nat} : cutD xs (some (n : Int)) none = xs.drop n := by
  unfold cutD
  rw [HT.sIx_none, HT.sIx_nat]
  rcases Nat.le_total n xs.length with h | h
  · rw [Nat.min_eq_left h]; exact List.take_of_length_le (by simp)
  · rw [Nat.min_eq_right h, Nat.sub_self, List.take_zero, List.drop_eq_nil_of_le h]
theorem boolsOf_map : ∀ bs : List Bool, boolsOf (bs.map PyData.bool) = some bs
  | [] => rfl
  | b :: r => by simp [boolsOf, boolsOf_map r]
theorem lc_yes {i : Nat} {we : WE} {ρ : List Sl} {P : List PyData → Prop} {d : PyData} {ds acc : List PyData} (h : we (ρ.set i (.dat d)) fun y => acc.length < 1000000 ∧ lcGo (gDat i) wYes we ρ P ds (acc ++ [y])) : lcGo (gDat i) wYes we ρ P (d :: ds) acc := by
  show if true = true then we (ρ.set i (.dat d)) (fun y => acc.length < 1000000 ∧ lcGo (gDat i) wYes we ρ P ds (acc ++ [y])) else lcGo (gDat i) wYes we ρ P ds acc
  exact iteT h
theorem d_is {a b : Bool} {P : Bool → Prop} (h : P (decide (a = b))) : dIs (.bool a) (.bool b) P := h
theorem d_isnot {a b : Bool} {P : Bool → Prop} (h : P (!decide (a = b))) : dIsNot (.bool a) (.bool b) P := h
theorem d_lt {i j : Int} {P : Bool → Prop} (h : P (decide (i < j))) : dLt (.int i) (.int j) P := h
theorem d_le {i j : Int} {P : Bool → Prop} (h : P (decide (i ≤ j))) : dLe (.int i) (.int j) P := h
theorem d_gt {i j : Int} {P : Bool → Prop} (h : P (decide (j < i))) : dGt (.int i) (.int j) P := h
theorem d_ge {i j : Int} {P : Bool → Prop} (h : P (decide (j ≤ i))) : dGe (.int i) (.int j) P := h
/-- any(..) of a drawn number -/
theorem any_spec {n : Int} {P : PyData → Prop} (h0 : 0 < n) (h1 : n ≤ 18446744073709551616) (h : ∀ r : Nat, (r : Int) < n → P (.int r)) : wAny [.int n] P := by
  refine ⟨n, rfl, h0, ?_, fun r r0 r1 => ?_⟩
  · have hn : n.natAbs ≠ 0 := by omega
    have : n.natAbs < 2 ^ 65 := by omega
    exact Nat.lt_trans ((Nat.log2_lt hn).mpr this) (by decide)
  · obtain ⟨k, rfl⟩ := Int.eq_ofNat_of_zero_le r0
    exact h k r1
end Lay

namespace Lay
open PySem PySem.Spec PyProof.Rows L2

/-! ### dicts with keys that are texts -/
def wSetDic (i : Nat) (ks : List Str) (wa : WA) : WS := fun E ρ => wa ρ fun ds => E.nx (ρ.set i (.dic (ks.zip ds)))
def wDGet (i : Nat) (w : WE) : WE := fun ρ P => ∃ ds, ρ[i]? = some (.dic ds) ∧ w ρ fun d => ∃ s e, d = .str s ∧ ds.lookup s = some e ∧ P e
def KvAll (K : PySem.W.Frag) (B : Hp) (kvs : List (Key × V)) (ds : List (Str × PyData)) : Prop := kvs.map (·.1) = ds.map (fun p => (.inr p.1 : Key)) ∧ DatAll K B (kvs.map (·.2)) (ds.map (·.2))
theorem KvAll.up {K : PySem.W.Frag} {B B' : Hp} {kvs : List (Key × V)} {ds : List (Str × PyData)} (h : KvAll K B kvs ds) (e : Same B B') : KvAll K B' kvs ds := ⟨h.1, h.2.up e⟩
theorem KvAll.find {K : PySem.W.Frag} {B : Hp} : ∀ {kvs : List (Key × V)} {ds : List (Str × PyData)} {k : Str} {d : PyData}, KvAll K B kvs ds → ds.lookup k = some d → ∃ v, (.inr k, v) ∈ kvs ∧ Dat K B v d
  | [], [], _, _, _, h => nomatch h
  | [], _ :: _, _, _, h, _ => nomatch h.1
  | _ :: _, [], _, _, h, _ => nomatch h.1
  | (k1, v1) :: kvs, (s1, d1) :: ds, k, d, h, e => by
    obtain ⟨h1, h2⟩ := h
    injection h1 with h3 h4
    cases h2 with
    | cons h5 h6 =>
      rw [List.lookup_cons] at e
      by_cases q : k = s1
      · subst q
        rw [beq_self_eq_true] at e
        cases e
        exact ⟨v1, by rw [show k1 = .inr k from h3]; exact List.mem_cons_self, h5⟩
      · rw [beq_false_of_ne q] at e
        obtain ⟨v, m, hv⟩ := KvAll.find (kvs := kvs) ⟨h4, h6⟩ e
        exact ⟨v, List.mem_cons_of_mem _ m, hv⟩
theorem merge_out : ∀ (more kvs : List (Key × V)) (k : Key), k ∉ more.map (·.1) → valV (mergeK kvs more) k = valV kvs k
  | [], _, _, _ => rfl
  | p :: r, kvs, k, h => by
    show valV (mergeK (putK kvs p.1 p.2) r) k = _
    rw [merge_out r _ k fun z => h (List.mem_cons_of_mem _ z), valV_put, if_neg fun z => h (by rw [z]; exact List.mem_cons_self)]
theorem merge_in : ∀ (more kvs : List (Key × V)) (k : Key) (v : V), (more.map (·.1)).Nodup → (k, v) ∈ more → valV (mergeK kvs more) k = some v
  | p :: r, kvs, k, v, hn, hm => by
    rw [List.map_cons, List.nodup_cons] at hn
    show valV (mergeK (putK kvs p.1 p.2) r) k = _
    rcases List.mem_cons.mp hm with rfl | hm
    · rw [merge_out r _ k hn.1, valV_put, if_pos rfl]
    · exact merge_in r _ k v hn.2 hm
def SPs (K : PySem.W.Frag) (dl : DL) (trs : List (TE × TE)) (ks : List Str) (wa : WA) : Prop := ∀ B0 H0 B σ H ρ P Q, wa ρ P → EnvOk K dl B0 H0 B σ H ρ →
  (∀ vs B' H' ds, P ds → vs.length = ks.length → Grow dl B H B' H' → DatAll K B' vs ds → Q ((ks.zip vs).map fun kv => (.str kv.1, kv.2)) H') → tPairs trs σ H Q
def QPs (X : Cx) (dl : DL) (pos : Pos) (keys : List (Option Expr)) (values : List Expr) (ks : List Str) (wa : WA) : Prop := ∃ trs, PPs X pos keys values trs ∧ SPs X.K dl trs ks wa
theorem kvAll_zip {K : PySem.W.Frag} {B : Hp} : ∀ {ks : List Str} {vs : List V} {ds : List PyData}, vs.length = ks.length → DatAll K B vs ds → KvAll K B ((ks.zip vs).map fun p => (.inr p.1, p.2)) (ks.zip ds)
  | [], _, _, _, _ => ⟨rfl, .nil⟩
  | k :: ks, [], _, h, _ => nomatch h
  | k :: ks, v :: vs, _, h, .cons h1 h2 => by
    have ih := kvAll_zip (ks := ks) (Nat.succ.inj h) h2
    exact ⟨congrArg (_ :: ·) ih.1, .cons h1 ih.2⟩
theorem zip_fst : ∀ {ks : List Str} {vs : List V}, vs.length = ks.length → ((ks.zip vs).map fun p => ((.inr p.1, p.2) : Key × V)).map (·.1) = ks.map Sum.inr
  | [], _, _ => rfl
  | k :: ks, [], h => nomatch h
  | k :: ks, v :: vs, h => congrArg (_ :: ·) (zip_fst (ks := ks) (Nat.succ.inj h))
section
variable {X : Cx} {dl : DL} {K : PySem.W.Frag} {pos : Pos}
theorem qps_nil : QPs X dl pos [] [] [] wNil := ⟨[], pps_nil, fun _ _ B _ H _ _ _ hw e k => k [] B H [] hw rfl e.self .nil⟩
theorem qps_cons {x : Str} {j : Nat} {p : Pos} {v : Expr} {ks : List (Option Expr)} {vs : List Expr} {wv : WE} {xs : List Str} {wa : WA} (hv : QE X dl v wv) (hr : QPs X dl pos ks vs xs wa) : QPs X dl pos (some (.Constant (.str x) j p) :: ks) (v :: vs) (x :: xs) (wCons wv wa) := by
  obtain ⟨tv, pv, sv⟩ := hv
  obtain ⟨trs, pr, sr⟩ := hr
  refine ⟨_, pps_cons pe_str pv pr, fun B0 H0 B σ H ρ P Q hw e k => ?_⟩
  refine sv B0 H0 B σ H ρ _ _ hw e fun v B1 H1 d hp g1 h1 => sr B0 H0 B1 σ H1 ρ _ _ hp (e.grow g1) fun us B2 H2 ds hq hl g2 h2 => ?_
  exact k (v :: us) B2 H2 (d :: ds) hq (congrArg (· + 1) hl) (g1.trans g2) (.cons (h1.up g2.bb) h2)
/-- x = {..} -/
theorem qs_setDic {i : Nat} {x : Str} {px dpos spos : Pos} {keys : List (Option Expr)} {values : List Expr} {ks : List Str} {wa : WA} (h : QPs X dl dpos keys values ks wa)
    (st : ∀ te, PE X (.Dict keys values dpos) te → PS X (.Assign [.Name x px] (.Dict keys values dpos) spos) (tAsg te (gName i))) (hn : ks.Nodup := by decide +kernel) (h15 : keys.length ≤ 15 := by decide)
    (hall : keys.all (·.isSome) = true := by rfl) (hl : keys.length = values.length := by rfl) (h0 : keys ≠ [] := by exact fun h => nomatch h) (hlp : ks.length ≤ 15 := by decide) :
    QS X dl (.Assign [.Name x px] (.Dict keys values dpos) spos) (wSetDic i ks wa) := by
  obtain ⟨trs, pp, sp⟩ := h
  refine ⟨_, st _ (pe_disp pp hall hl h0 h15), fun B0 H0 B σ H ρ E D hw e l => ?_⟩
  intro p np
  have gn := Grow.newO e.bh e.dk (o := .dK []) np
  have e1 := e.grow gn
  refine sp B0 H0 B σ _ ρ _ _ hw e1 fun vs B2 H2 ds hp hlen g2 hvs => ?_
  have hkv := kvAll_zip hlen hvs
  have oP : Off dl p := off_of e.dk np
  have h2 : H2 p = some (.dK []) := g2.hh p _ oP upd_same
  have nB : B p = none := e.bh.free np
  have nB2 : B2 p = none := by
    cases q : B2 p with
    | none => rfl
    | some o =>
      rcases g2.nw _ _ q with z | z
      · rw [nB] at z; cases z
      · rw [upd_same] at z; cases z
  have hz : ((ks.zip vs).map fun p => ((.inr p.1, p.2) : Key × V)).length ≤ 15 := by
    rw [List.length_map, List.length_zip]
    omega
  refine ⟨h2, (ks.zip vs).map fun p => (.inr p.1, p.2), by rw [List.map_map]; rfl, hz, ?_⟩
  generalize hkvs : (ks.zip vs).map (fun p => ((.inr p.1, p.2) : Key × V)) = kvs at hkv
  have hnod : (kvs.map (·.1)).Nodup := by
    rw [← hkvs, zip_fst hlen]
    rw [List.Nodup, List.pairwise_map]
    exact hn.imp fun n z => n (Sum.inr.inj z)
  have sB : Same B2 (upd B2 p (.dK (mergeK [] kvs))) := fun x o q => by rw [upd_ne (ne_of_none q nB2)]; exact q
  have g3 : Grow dl B H (upd B2 p (.dK (mergeK [] kvs))) (upd H2 p (.dK (mergeK [] kvs))) := by
    refine ⟨(g2.bb).trans sB, fun x o q => ?_, fun x o f q => ?_, fun x o q => ?_, fun pr hpr => ?_⟩
    · by_cases hx : x = p
      · subst hx; rw [upd_same] at q ⊢; exact q
      · rw [upd_ne hx] at q ⊢; exact g2.bh _ _ q
    · rw [upd_ne (ne_of_none q np)]
      exact g2.hh x o f (by rw [upd_ne (ne_of_none q np)]; exact q)
    · by_cases hx : x = p
      · subst hx; exact .inr np
      · rw [upd_ne hx] at q
        rcases g2.nw _ _ q with z | z
        · exact .inl z
        · rw [upd_ne hx] at z; exact .inr z
    · obtain ⟨n, gl, b, a1, a2, a3⟩ := g2.dk pr hpr
      obtain ⟨n1, n2⟩ := oP pr hpr
      exact ⟨n, gl, b, by rw [upd_ne (Ne.symm n1)]; exact a1, by rw [upd_ne (Ne.symm n2)]; exact a2, a3⟩
  refine l.nx _ _ _ _ hp ((e.grow g3).setN rfl ⟨p, _, rfl, upd_same, fun k d q => ?_⟩)
  obtain ⟨v, m, hv⟩ := hkv.find q
  exact ⟨v, merge_in kvs [] _ v hnod m, hv.up sB⟩
theorem q_dget {i : Nat} {x : Str} {px : Pos} {b : Expr} {wb : WE} (hu : X.A.units + 1 < cLine) (ha : PE X (.Name x px) (tVar i)) (hb : QE X dl b wb) (hs : NoSl b := by intro _ _; rfl) : QE X dl (.Subscript (.Name x px) b pos) (wDGet i wb) := by
  obtain ⟨tb, pb, sb⟩ := hb
  refine ⟨_, pe_dget hu ha pb hs, fun B0 H0 B σ H ρ P Q hw e k => ?_⟩
  obtain ⟨ds, hr, hw⟩ := hw
  obtain ⟨a, kvs, h1, h2, h3⟩ := e.sl i _ hr
  refine ⟨.ref a, h1, sb B0 H0 B σ H ρ _ _ hw e fun y B1 H1 d hp g hd => ?_⟩
  obtain ⟨s, f, rfl, hf, hp⟩ := hp
  obtain ⟨v, e1, e2⟩ := h3 s f hf
  cases hd
  exact ⟨a, v, rfl, .inl ⟨kvs, .inr s, .inl (g.bh _ _ (g.bb _ _ h2)), rfl, e1.symm⟩, k v B1 H1 f hp g (e2.up g.bb)⟩
theorem dget_room {k : Nat} (h : Room k X.A) : X.A.units + 1 < cLine := by have := h.un; omega
end
/-! ### order of data -/
def dLtA (d e : PyData) (P : Bool → Prop) : Prop := PySem.W.alike d e = true ∧ d ≠ .none ∧ d.depth ≤ 64 ∧ P (PySem.W.dataLt d e)
def dLeA (d e : PyData) (P : Bool → Prop) : Prop := PySem.W.alike d e = true ∧ d ≠ .none ∧ d.depth ≤ 64 ∧ P (!PySem.W.dataLt e d)
section
variable {X : Cx} {dl : DL} {K : PySem.W.Frag}
theorem op_ltA (hu : X.A.units + 64 < cLine) : OpR X (compareOp .Lt) (fun x y H Q => ∃ d e, Dp X.K H x d ∧ Dp X.K H y e ∧ PySem.W.alike d e = true ∧ d ≠ .none ∧ d.depth ≤ 64 ∧ Q (.bl (PySem.W.dataLt d e)) H) := by
  intro pins s σ H x y v u Q I rx ry h
  obtain ⟨d, e, hd, he, h1, h2, h3, q⟩ := h
  obtain ⟨as, r1⟩ := Dp.reads I d x v hd rx
  obtain ⟨bs, r2⟩ := Dp.reads I e y u he ry
  refine PySem.W.lt_data r1 r2 h1 h2 (by have := Nat.min_le_left d.depth e.depth; omega) ⟨.bl _, H, I, rfl, q⟩
theorem op_leA (hu : X.A.units + 64 < cLine) : OpR X (compareOp .LtE) (fun x y H Q => ∃ d e, Dp X.K H x d ∧ Dp X.K H y e ∧ PySem.W.alike d e = true ∧ d ≠ .none ∧ d.depth ≤ 64 ∧ Q (.bl (!PySem.W.dataLt e d)) H) := by
  intro pins s σ H x y v u Q I rx ry h
  obtain ⟨d, e, hd, he, h1, h2, h3, q⟩ := h
  obtain ⟨as, r1⟩ := Dp.reads I d x v hd rx
  obtain ⟨bs, r2⟩ := Dp.reads I e y u he ry
  refine PySem.W.le_data r1 r2 h1 h2 (by have := Nat.min_le_left d.depth e.depth; omega) ⟨.bl _, H, I, rfl, q⟩
theorem c_ltA (h : Deep X) : CmpO X .Lt dLtA := ⟨_, op_ltA (by unfold Deep at h; omega), fun x y d e P H Q hw hx hy k => ⟨d, e, hx.dp, hy.dp, hw.1, hw.2.1, hw.2.2.1, k _ hw.2.2.2⟩⟩
theorem c_leA (h : Deep X) : CmpO X .LtE dLeA := ⟨_, op_leA (by unfold Deep at h; omega), fun x y d e P H Q hw hx hy k => ⟨d, e, hx.dp, hy.dp, hw.1, hw.2.1, hw.2.2.1, k _ hw.2.2.2⟩⟩
/-- [..] * n -/
def dRep : PyData → PyData → (PyData → Prop) → Prop
  | .list xs, .int k, P => -(2 ^ 62) ≤ k ∧ k < 2 ^ 62 ∧ xs.length * k.toNat ≤ 1000000 ∧ P (.list (List.replicate k.toNat xs).flatten)
  | _, _, _ => False
theorem DatAll.rep {B : Hp} {vs : List V} {ds : List PyData} (h : DatAll K B vs ds) : ∀ n, DatAll K B (List.replicate n vs).flatten (List.replicate n ds).flatten
  | 0 => .nil
  | n + 1 => by
    rw [List.replicate_succ, List.replicate_succ, List.flatten_cons, List.flatten_cons]
    exact h.append (DatAll.rep h n)
theorem rd_rep : RD K dl rRep dRep := by
  intro x y d e P B H Q hw hx hy sm dk k
  cases hx with
  | @lst l xs ds h1 h2 =>
    cases hy with
    | int i =>
      obtain ⟨w1, w2, w3, w4⟩ := hw
      refine ⟨l, i, xs, rfl, rfl, sm _ _ h1, by omega, by omega, by rw [h2.len]; exact line_of w3, fun p np => ?_⟩
      have gn := Grow.new sm dk (o := .lst (List.replicate i.toNat xs).flatten) np
      exact k _ _ _ _ w4 gn (.lst upd_same ((h2.rep _).up gn.bb))
    | _ => exact hw.elim
  | _ => exact hw.elim
theorem q_rep {a b : Expr} {wa wb : WE} {pos : Pos} (ha : QE X dl a wa) (hb : QE X dl b wb) : QE X dl (.BinOp a .Mult b pos) (wOp dRep wa wb) := q_op op_rep rd_rep ha hb
end
/-! ### a, b = x, y, lists of one's own among them -/
def QX (X : Cx) (dl : DL) (e : Expr) (wx : WX) : Prop := ∃ te, PE X e te ∧ SX X.K dl te wx
section
variable {X : Cx} {dl : DL} {pos : Pos}
theorem qx_dat {e : Expr} {we : WE} (h : QE X dl e we) : QX X dl e (xDat we) := h.elim fun te h => ⟨te, h.1, sx_dat h.2⟩
theorem qx_own {e : Expr} {wa : WA} (h : QO X dl e wa) : QX X dl e (xOwn wa) := h.elim fun te h => ⟨te, h.1, sx_own h.2⟩
theorem qs_parX {i j : Nat} {x y : Str} {a b : Expr} {wa wb : WX} {px py pt pt2 : Pos} {kt k2 : Nat} (hN : X.N.Nodup) (hi : X.N[i]? = some x) (hj : X.N[j]? = some y) (hx : X.env.scope.names.lookup x = some .local) (hy : X.env.scope.names.lookup y = some .local) (ha : QX X dl a wa) (hb : QX X dl b wb)
    (hc : X.calm = true := by rfl) (hij : i ≠ j := by decide) (h1 : starEach (a :: [b]) X.env = (false, eval a X.env) :: starEach [b] X.env := by rfl) (h2 : starEach (b :: []) X.env = (false, eval b X.env) :: starEach [] X.env := by rfl)
    (hw : swappedStores [.Tuple [.Name x px, .Name y py] kt pt] (.Tuple [a, b] k2 pt2) X.env = pure (some [x, y]) := by rfl)
    (hs : swapsWithSole [.Tuple [.Name x px, .Name y py] kt pt] (.Tuple [a, b] k2 pt2) pos.line X.env = pure false := by rfl) : QS X dl (.Assign [.Tuple [.Name x px, .Name y py] kt pt] (.Tuple [a, b] k2 pt2) pos) (wPar i j wa wb) := by
  obtain ⟨ta, pa, sa⟩ := ha
  obtain ⟨tb, pb, sb⟩ := hb
  exact qs_par (ps_par hc hN hi hj hij hx hy (pa_cons pa (pa_cons pb pa_nil h2) h1) hw hs) sa sb
theorem qs_append {i : Nat} {o : Str} {po : Pos} {x : Expr} {we : WE} {apos cpos : Pos} (ho : PE X (.Name o po) (tVar i)) (h : QE X dl x we)
    (ps : ∀ tx, PE X x tx → PS X (.Expr (.Call (.Attribute (.Name o po) "append" apos) [x] [] cpos) pos) (tDrop (tBM X.K "list" rAppend (tVar i) (tCons tx tNil)))) : QS X dl (.Expr (.Call (.Attribute (.Name o po) "append" apos) [x] [] cpos) pos) (wApp i we) := qs_app ho h ps
end
end Lay

namespace Lay
open PySem PySem.Spec PyProof.Rows L2
/-! ### repr of ints -/
theorem lay_text (t : String) : PyData.canLay0 (.str (Str.ofString t)) = true := by
  show Array.all _ _ = true
  rw [Str.ofString_eq_toList, ← Array.all_toList, List.all_eq_true]
  intro c hc
  simp only [List.mem_map] at hc
  obtain ⟨x, _, rfl⟩ := hc
  refine decide_eq_true ?_
  have hv := x.valid
  rcases hv with hv | hv
  · have : x.toNat < 0xd800 := hv
    omega
  · exact hv.2
theorem sh_shown {i : Int} {n : Nat} : Sh n (.str (PyData.int i).shown) := ⟨lay_text _, Nat.zero_le _⟩
def small (i : Int) : Prop := 0 ≤ i ∧ i < 10 ^ 100
theorem small_show {i : Int} (h : small i) : (PyData.int i).showable = true := by
  obtain ⟨h0, h1⟩ := h
  refine decide_eq_true ?_
  by_cases hz : i.natAbs = 0
  · rw [hz]; decide
  · refine (Nat.log2_lt hz).mpr ?_
    have : i.natAbs < 10 ^ 100 := by omega
    exact Nat.lt_trans this (by decide +kernel)
theorem small_len {i : Int} (h : small i) : (PyData.int i).shown.length ≤ sizeLine := by
  have := PyProof.Rows.toString_length_le h.1 (k := 100) (by decide) h.2
  exact Nat.le_trans this (by decide)
theorem ne_text {x : Str} {P : Bool → Prop} (hx : PyData.canLay0 (.str x) = true) (h : P false) : dNe (.str x) (.str x) P := by
  refine ⟨Sh.shaped (n := 0) ⟨hx, Nat.zero_le _⟩, Sh.shaped (n := 0) ⟨hx, Nat.zero_le _⟩, ?_⟩
  rw [SeqAt.eqv_refl _ hx]
  exact h
theorem ne_int {i : Int} {P : Bool → Prop} (h : P false) : dNe (.str (PyData.int i).shown) (.str (PyData.int i).shown) P := ne_text (lay_text _) h
/-! ### bits, the highest first -/
def val : List Int → Int := fun ds => ds.foldl (fun t d => t + t + d) 0
theorem fold_val : ∀ (ds : List Int) (t : Int), ds.foldl (fun t d => t + t + d) t = t * 2 ^ ds.length + val ds
  | [], t => by show t = t * 1 + 0; omega
  | d :: ds, t => by
    show ds.foldl _ (t + t + d) = _
    have e1 := fold_val ds (t + t + d)
    have e2 := fold_val ds (0 + 0 + d)
    have e3 : val (d :: ds) = ds.foldl (fun t d => t + t + d) (0 + 0 + d) := rfl
    rw [e1, e3, e2, List.length_cons, Int.pow_succ]
    have : (t + t + d) * 2 ^ ds.length = t * (2 ^ ds.length * 2) + d * 2 ^ ds.length := by
      rw [Int.add_mul, Int.add_mul, ← Int.mul_assoc]
      omega
    rw [this]
    have : (0 + 0 + d) = d := by omega
    rw [this]
    omega
theorem val_cons (d : Int) (ds : List Int) : val (d :: ds) = d * 2 ^ ds.length + val ds := by
  have e : val (d :: ds) = ds.foldl (fun t d => t + t + d) (0 + 0 + d) := rfl
  rw [e, fold_val]
  congr 2
  omega
theorem val_app (a b : List Int) : val (a ++ b) = val a * 2 ^ b.length + val b := by
  show (a ++ b).foldl _ 0 = _
  rw [List.foldl_append]
  exact fold_val b _
def bits (ds : List Int) : Prop := ∀ x ∈ ds, x = 0 ∨ x = 1
theorem pow2_pos (n : Nat) : (0 : Int) < 2 ^ n := Int.pow_pos (by decide)
theorem val_lt : ∀ {ds : List Int}, bits ds → 0 ≤ val ds ∧ val ds < 2 ^ ds.length
  | [], _ => ⟨by decide, by decide⟩
  | d :: ds, h => by
    obtain ⟨h1, h2⟩ := val_lt fun x hx => h x (List.mem_cons_of_mem _ hx)
    rw [val_cons, List.length_cons, Int.pow_succ]
    rcases h d List.mem_cons_self with rfl | rfl <;> omega
theorem eqv_one (x y : Int) : PyData.eqv (.int x) (.int y) = decide (x = y) := rfl
theorem alike_ints : ∀ (a b : List Int), a.length = b.length → PySem.W.alikeAll (a.map .int) (b.map .int) = true
  | [], [], _ => rfl
  | x :: a, y :: b, h => by
    show (PySem.W.alike (.int x) (.int y) && PySem.W.alikeAll (a.map .int) (b.map .int)) = true
    rw [alike_ints a b (Nat.succ.inj h)]
    rfl
theorem lex_val : ∀ (a b : List Int), bits a → bits b → a.length = b.length → PyProof.Rows.lexLt PyProof.Rows.itemOrd (PySem.W.keyToksAll (a.map .int)) (PySem.W.keyToksAll (b.map .int)) = decide (val a < val b)
  | [], [], _, _, _ => by decide +kernel
  | x :: a, y :: b, ha, hb, hl => by
    have a' : bits a := fun z hz => ha z (List.mem_cons_of_mem _ hz)
    have b' : bits b := fun z hz => hb z (List.mem_cons_of_mem _ hz)
    have hl' : a.length = b.length := Nat.succ.inj hl
    obtain ⟨p1, p2⟩ := val_lt a'
    obtain ⟨q1, q2⟩ := val_lt b'
    rw [val_cons, val_cons, hl']
    rw [hl'] at p2
    by_cases e : x = y
    · have z := PySem.W.dataLt_all_yes (x := .int x) (y := .int y) (xs := a.map .int) (ys := b.map .int) rfl (by rw [eqv_one]; exact decide_eq_true e)
      rw [List.map_cons, List.map_cons, z, lex_val a b a' b' hl', e]
      exact decide_eq_decide.mpr ⟨fun h => by omega, fun h => by omega⟩
    · have z := PySem.W.dataLt_all_no (x := .int x) (y := .int y) (xs := a.map .int) (ys := b.map .int) rfl (by rw [eqv_one]; exact decide_eq_false e)
      rw [List.map_cons, List.map_cons, z, PySem.W.dataLt_int]
      refine decide_eq_decide.mpr ?_
      rcases ha x List.mem_cons_self with rfl | rfl <;> rcases hb y List.mem_cons_self with rfl | rfl <;> omega
theorem lt_bits {a b : List Int} {P : Bool → Prop} (ha : bits a) (hb : bits b) (hl : a.length = b.length) (h : P (decide (val a < val b))) : dLtA (.list (a.map .int)) (.list (b.map .int)) P := by
  refine ⟨alike_ints a b hl, by simp, ?_, ?_⟩
  · show PyData.depthAll (a.map .int) + 1 ≤ 64
    rw [ints_depth]; decide
  · rw [PySem.W.dataLt_list, lex_val a b ha hb hl]
    exact h
theorem le_bits {a b : List Int} {P : Bool → Prop} (ha : bits a) (hb : bits b) (hl : a.length = b.length) (h : P (decide (val a ≤ val b))) : dLeA (.list (a.map .int)) (.list (b.map .int)) P := by
  refine ⟨alike_ints a b hl, by simp, ?_, ?_⟩
  · show PyData.depthAll (a.map .int) + 1 ≤ 64
    rw [ints_depth]; decide
  · rw [PySem.W.dataLt_list, lex_val b a hb ha hl.symm]
    have : (!decide (val b < val a)) = decide (val a ≤ val b) := by
      by_cases z : val b < val a
      · rw [decide_eq_true z, decide_eq_false (by omega)]; rfl
      · rw [decide_eq_false z, decide_eq_true (by omega)]; rfl
    rw [this]
    exact h
/-- bits of a number, the lowest first -/
def low : Nat → Int → List Int
  | 0, _ => []
  | k + 1, n => n % 2 :: low k (n / 2)
theorem low_len : ∀ (k : Nat) (n : Int), (low k n).length = k
  | 0, _ => rfl
  | k + 1, n => congrArg (· + 1) (low_len k (n / 2))
theorem low_bits : ∀ (k : Nat) (n : Int), bits (low k n)
  | 0, _ => fun _ h => nomatch h
  | k + 1, n => fun x hx => by
    rcases List.mem_cons.mp hx with rfl | hx
    · omega
    · exact low_bits k (n / 2) x hx
def high (k : Nat) (n : Int) : List Int := (low k n).reverse
theorem high_len (k : Nat) (n : Int) : (high k n).length = k := by unfold high; rw [List.length_reverse, low_len]
theorem high_bits (k : Nat) (n : Int) : bits (high k n) := fun x hx => low_bits k n x (List.mem_reverse.mp hx)
theorem high_val : ∀ (k : Nat) (n : Int), val (high k n) = n % 2 ^ k
  | 0, n => by show (0 : Int) = n % 1; omega
  | k + 1, n => by
    unfold high
    show val (n % 2 :: low k (n / 2)).reverse = _
    rw [List.reverse_cons, val_app]
    have ih := high_val k (n / 2)
    unfold high at ih
    rw [ih]
    show n / 2 % 2 ^ k * 2 ^ 1 + val [n % 2] = n % 2 ^ (k + 1)
    have e : val [n % 2] = n % 2 := by show 0 + 0 + n % 2 = n % 2; omega
    rw [e, show (2 : Int) ^ 1 = 2 from rfl, Int.pow_succ]
    have hp := pow2_pos k
    generalize (2 : Int) ^ k = m at hp
    have h1 := Int.emod_nonneg (n / 2) (show m ≠ 0 by omega)
    have h2 := Int.emod_lt_of_pos (n / 2) hp
    have h3 : n = (n / 2 % m * 2 + n % 2) + (m * 2) * (n / 2 / m) := by
      have a1 := Int.emod_add_mul_ediv (n / 2) m
      have a2 : m * 2 * (n / 2 / m) = m * (n / 2 / m) * 2 := by rw [Int.mul_assoc, Int.mul_comm 2, ← Int.mul_assoc]
      rw [a2]
      omega
    have h4 : n % (m * 2) = (n / 2 % m * 2 + n % 2) % (m * 2) := by
      conv => lhs; rw [h3]
      exact Int.add_mul_emod_self_left ..
    rw [h4]
    exact (Int.emod_eq_of_lt (by omega) (by omega)).symm
end Lay

namespace Lay
open PySem PySem.Spec PyProof.Rows L2
/-! ### {..}[k] -/
def wDicAt (ks : List Str) (wa : WA) (w : WE) : WE := fun ρ P => wa ρ fun ds => w ρ fun d => ∃ s e, d = .str s ∧ (ks.zip ds).lookup s = some e ∧ P e
section
variable {X : Cx} {dl : DL} {K : PySem.W.Frag} {pos : Pos}
/-- a dict that is made here -/
def SDic (K : PySem.W.Frag) (dl : DL) (te : TE) (ks : List Str) (wa : WA) : Prop := ∀ B0 H0 B σ H ρ P Q, wa ρ P → EnvOk K dl B0 H0 B σ H ρ →
  (∀ (a : Addr) (kvs : List (Key × V)) B' H' ds, P ds → Grow dl B H B' H' → B' a = some (.dK kvs) → (∀ k d, (ks.zip ds).lookup k = some d → ∃ v, valV kvs (.inr k) = some v ∧ Dat K B' v d) → Q (.ref a) H') → te σ H Q
theorem disp_dic {dpos : Pos} {keys : List (Option Expr)} {values : List Expr} {ks : List Str} {wa : WA} (h : QPs X dl dpos keys values ks wa) (hn : ks.Nodup) (h15 : keys.length ≤ 15) (hall : keys.all (·.isSome) = true) (hl : keys.length = values.length) (h0 : keys ≠ []) (hlp : ks.length ≤ 15) :
    ∃ te, PE X (.Dict keys values dpos) te ∧ SDic X.K dl te ks wa := by
  obtain ⟨trs, pp, sp⟩ := h
  refine ⟨_, pe_disp pp hall hl h0 h15, fun B0 H0 B σ H ρ P Q hw e kk => ?_⟩
  intro p np
  have gn := Grow.newO e.bh e.dk (o := .dK []) np
  have e1 := e.grow gn
  refine sp B0 H0 B σ _ ρ _ _ hw e1 fun vs B2 H2 ds hp hlen g2 hvs => ?_
  have hkv := kvAll_zip hlen hvs
  have oP : Off dl p := off_of e.dk np
  have h2 : H2 p = some (.dK []) := g2.hh p _ oP upd_same
  have nB : B p = none := e.bh.free np
  have nB2 : B2 p = none := by
    cases q : B2 p with
    | none => rfl
    | some o =>
      rcases g2.nw _ _ q with z | z
      · rw [nB] at z; cases z
      · rw [upd_same] at z; cases z
  have hz : ((ks.zip vs).map fun p => ((.inr p.1, p.2) : Key × V)).length ≤ 15 := by
    rw [List.length_map, List.length_zip]
    omega
  refine ⟨h2, (ks.zip vs).map fun p => (.inr p.1, p.2), by rw [List.map_map]; rfl, hz, ?_⟩
  generalize hkvs : (ks.zip vs).map (fun p => ((.inr p.1, p.2) : Key × V)) = kvs at hkv
  have hnod : (kvs.map (·.1)).Nodup := by
    rw [← hkvs, zip_fst hlen]
    rw [List.Nodup, List.pairwise_map]
    exact hn.imp fun n z => n (Sum.inr.inj z)
  have sB : Same B2 (upd B2 p (.dK (mergeK [] kvs))) := fun x o q => by rw [upd_ne (ne_of_none q nB2)]; exact q
  have g3 : Grow dl B H (upd B2 p (.dK (mergeK [] kvs))) (upd H2 p (.dK (mergeK [] kvs))) := by
    refine ⟨(g2.bb).trans sB, fun x o q => ?_, fun x o f q => ?_, fun x o q => ?_, fun pr hpr => ?_⟩
    · by_cases hx : x = p
      · subst hx; rw [upd_same] at q ⊢; exact q
      · rw [upd_ne hx] at q ⊢; exact g2.bh _ _ q
    · rw [upd_ne (ne_of_none q np)]
      exact g2.hh x o f (by rw [upd_ne (ne_of_none q np)]; exact q)
    · by_cases hx : x = p
      · subst hx; exact .inr np
      · rw [upd_ne hx] at q
        rcases g2.nw _ _ q with z | z
        · exact .inl z
        · rw [upd_ne hx] at z; exact .inr z
    · obtain ⟨n, gl, b, a1, a2, a3⟩ := g2.dk pr hpr
      obtain ⟨n1, n2⟩ := oP pr hpr
      exact ⟨n, gl, b, by rw [upd_ne (Ne.symm n1)]; exact a1, by rw [upd_ne (Ne.symm n2)]; exact a2, a3⟩
  refine kk p _ _ _ _ hp g3 upd_same fun k d q => ?_
  obtain ⟨v, m, hv⟩ := hkv.find q
  exact ⟨v, merge_in kvs [] _ v hnod m, hv.up sB⟩
theorem q_dicAt {dpos : Pos} {keys : List (Option Expr)} {values : List Expr} {ks : List Str} {wa : WA} {b : Expr} {wb : WE} (hu : X.A.units + 1 < cLine) (h : QPs X dl dpos keys values ks wa) (hb : QE X dl b wb)
    (hs : NoSl b := by intro _ _; rfl) (hn : ks.Nodup := by decide +kernel) (h15 : keys.length ≤ 15 := by decide) (hall : keys.all (·.isSome) = true := by rfl) (hl : keys.length = values.length := by rfl) (h0 : keys ≠ [] := by exact fun h => nomatch h) (hlp : ks.length ≤ 15 := by decide) :
    QE X dl (.Subscript (.Dict keys values dpos) b pos) (wDicAt ks wa wb) := by
  obtain ⟨td, pd, sd⟩ := disp_dic h hn h15 hall hl h0 hlp
  obtain ⟨tb, pb, sb⟩ := hb
  refine ⟨_, pe_dget hu pd pb hs, fun B0 H0 B σ H ρ P Q hw e k => ?_⟩
  refine sd B0 H0 B σ H ρ _ _ hw e fun a kvs B1 H1 ds hp g1 ha hk => sb B0 H0 B1 σ H1 ρ _ _ hp (e.grow g1) fun y B2 H2 d hq g2 hd => ?_
  obtain ⟨s, f, rfl, hf, hq⟩ := hq
  obtain ⟨v, e1, e2⟩ := hk s f hf
  cases hd
  exact ⟨a, v, rfl, .inl ⟨kvs, .inr s, .inl (g2.bh _ _ (g2.bb _ _ ha)), rfl, e1.symm⟩, k v B2 H2 f hq (g1.trans g2) (e2.up g2.bb)⟩
end
theorem any_big {n : Int} {P : PyData → Prop} (h0 : 0 < n) (h1 : n.natAbs.log2 < 9000) (h : ∀ r : Int, 0 ≤ r → r < n → P (.int r)) : wAny [.int n] P := ⟨n, rfl, h0, h1, h⟩
/-! ### list(range(n)) -/
def wListRg (w : WE) : WA := fun ρ P => w ρ fun d => ∃ n : Nat, d = .int (n : Int) ∧ n ≤ 1000000 ∧ P (rangeD 0 n)
section
variable {X : Cx} {dl : DL} {pos : Pos}
theorem qo_listRg {p p2 rpos : Pos} {a : Expr} {wa : WE} (hc : X.calm = true) (hg : Gl X "list") (hm : X.mg "list" = none) (hg2 : Gl X "range") (hm2 : X.mg "range" = none) (h : QE X dl a wa)
    (na : starEach [.Call (.Name "range" p2) [a] [] rpos] X.env = (false, eval (.Call (.Name "range" p2) [a] [] rpos) X.env) :: starEach [] X.env := by rfl) (nb : starEach [a] X.env = (false, eval a X.env) :: starEach [] X.env := by rfl) :
    QO X dl (.Call (.Name "list" p) [.Call (.Name "range" p2) [a] [] rpos] [] pos) (wListRg wa) := by
  obtain ⟨ta, pa, sa⟩ := h
  refine ⟨_, pe_listRg hc hg hm (prg_1 hg2 hm2 pa nb) na, fun B0 H0 B σ H ρ P Q hw e k => sa B0 H0 B σ H ρ _ _ hw e fun v B1 H1 d hp g hd => ?_⟩
  obtain ⟨n, rfl, hn, hp⟩ := hp
  cases hd
  refine ⟨(n : Int), rfl, RgOk.of_le (by decide) (by omega) (by decide) (by omega), fun q nq => ?_⟩
  have gn := Grow.newO g.bh g.dk (o := .lst (rgV 0 n)) nq
  refine k q (rgV 0 n) B1 _ (rangeD 0 n) hp (g.trans gn) (fresh0 g nq) (g.bh.free nq) upd_same ?_
  have e1 : rgV 0 (n : Int) = ((List.range n).map fun i => (0 + (i : Nat) : Int)).map V.int := by unfold rgV; rw [List.map_map]; simp
  have e2 : rangeD 0 n = ((List.range n).map fun i => (0 + (i : Nat) : Int)).map PyData.int := by unfold rangeD; rw [List.map_map]; rfl
  rw [e1, e2]
  exact DatAll.ints _
end
/-! ### a def that a written dict holds -/
structure HeldG (P : Program) (w : World) (K : PySem.W.Frag) (mg : Str → Option Value) (base : Heap) (k : Nat) (f : Addr) (sp : Sp) : Prop where
  ex : ∃ (fd : FuncData) (ps : List Str), FnG P w K mg base CX0 k f fd ps sp ∧ PySem.W.keepIn K (.ref f) = true ∧ Binds K fd ps []
def tCallG (P : Program) (w : World) (K : PySem.W.Frag) (mg : Str → Option Value) (base : Heap) (k i : Nat) (t : TA) : TE := fun σ H Q => ∃ f sp, σ[i]? = some (some (.ref f)) ∧ HeldG P w K mg base k f sp ∧ t σ H fun vs H1 => sp vs H1 Q E0
section
variable {X : Cx} {k i : Nat} {x : Str} {p pos : Pos} {e : Expr} {es : List Expr} {t : TA}
theorem pe_callG (hgd : X.A.guards = some []) (hr : Room k X.A) (hN : X.N[i]? = some x) (hv : Vis X.env.scope x) (ha : PA X (e :: es) t)
    (hdb : (x == ("__debug__" : Str)) = false := by decide) (hcd : (x == ("__classdict__" : Str)) = false := by decide)
    (he : starEach (e :: es) X.env = (false, eval e X.env) :: starEach es X.env := by rfl) (hpl : (backTo pos (starEach es X.env)).any (·.1) = false := by rfl) : PE X (.Call (.Name x p) (e :: es) [] pos) (tCallG X.prog X.w X.K X.mg X.base k i t) := by
  refine ⟨fun pins s σ H Q I h => ?_⟩
  obtain ⟨f, sp, hs, hF, ht⟩ := h
  obtain ⟨fd, ps, F, hk, hb⟩ := hF.ex
  refine wpAny_Call_Name_kw (thn ((pe_var (pos := p) hN hv hdb hcd).run pins s σ H (fun v H1 => v = .ref f ∧ H1 = H) I ⟨.ref f, hs, rfl, rfl⟩) fun u s1 ⟨v, H1, I1, r1, q1⟩ => ?_)
  obtain ⟨rfl, rfl⟩ := q1
  cases r1
  refine PySem.W.callWith_K (h₀ := X.base) I.ok.mod.kin hk (thn (ha.run pos pins s1 σ _ _ I1 ht) fun us s2 ⟨vs, H2, I2, r, q⟩ => ⟨I2.kIn, ?_⟩) he hpl
  exact runG F hgd hr hb .nil pass0 I2 r (by rw [List.append_nil]; exact q)
end
def wTab (table : Str → Option WF) : WF := fun ds P => ∃ s rest wf, ds = .str s :: rest ∧ table s = some wf ∧ wf rest P
end Lay

namespace Lay
open PySem PySem.Spec PyProof.Rows L2
/-! ### bits, the lowest first -/
def lval : List Int → Int
  | [] => 0
  | d :: ds => d + 2 * lval ds
theorem lval_app : ∀ (a b : List Int), lval (a ++ b) = lval a + 2 ^ a.length * lval b
  | [], b => by show lval b = 0 + 1 * lval b; omega
  | d :: a, b => by
    show d + 2 * lval (a ++ b) = d + 2 * lval a + 2 ^ (a.length + 1) * lval b
    rw [lval_app a b, Int.pow_succ, Int.mul_comm (2 ^ a.length) 2, Int.mul_assoc]
    generalize 2 ^ a.length * lval b = z
    omega
theorem lval_bits : ∀ {ds : List Int}, bits ds → 0 ≤ lval ds ∧ lval ds < 2 ^ ds.length
  | [], _ => ⟨by decide, by decide⟩
  | d :: ds, h => by
    obtain ⟨h1, h2⟩ := lval_bits fun x hx => h x (List.mem_cons_of_mem _ hx)
    show 0 ≤ d + 2 * lval ds ∧ d + 2 * lval ds < 2 ^ (ds.length + 1)
    rw [Int.pow_succ]
    rcases h d List.mem_cons_self with rfl | rfl <;> omega
theorem lval_rep (c : Int) : ∀ k : Nat, lval (List.replicate k c) = c * (2 ^ k - 1)
  | 0 => by show (0 : Int) = c * 0; omega
  | k + 1 => by
    show c + 2 * lval (List.replicate k c) = _
    rw [lval_rep c k, Int.pow_succ]
    generalize (2 : Int) ^ k = m
    have e1 : c * (m * 2 - 1) = c * m * 2 - c := by rw [Int.mul_sub, ← Int.mul_assoc, Int.mul_one]
    have e2 : c * (m - 1) = c * m - c := by rw [Int.mul_sub, Int.mul_one]
    rw [e1, e2]
    omega
theorem split_mod (n m : Int) (hp : 0 < m) : n % (m * 2) = n / 2 % m * 2 + n % 2 := by
  have h1 := Int.emod_nonneg (n / 2) (show m ≠ 0 by omega)
  have h2 := Int.emod_lt_of_pos (n / 2) hp
  have h3 : n = (n / 2 % m * 2 + n % 2) + (m * 2) * (n / 2 / m) := by
    have a1 := Int.emod_add_mul_ediv (n / 2) m
    have a2 : m * 2 * (n / 2 / m) = m * (n / 2 / m) * 2 := by rw [Int.mul_assoc, Int.mul_comm 2, ← Int.mul_assoc]
    rw [a2]
    omega
  have h4 : n % (m * 2) = (n / 2 % m * 2 + n % 2) % (m * 2) := by
    conv => lhs; rw [h3]
    exact Int.add_mul_emod_self_left ..
  rw [h4]
  exact Int.emod_eq_of_lt (by omega) (by omega)
theorem lval_low : ∀ (k : Nat) (n : Int), lval (low k n) = n % 2 ^ k
  | 0, n => by show (0 : Int) = n % 1; omega
  | k + 1, n => by
    show n % 2 + 2 * lval (low k (n / 2)) = n % 2 ^ (k + 1)
    rw [lval_low k, Int.pow_succ, split_mod n _ (pow2_pos k)]
    omega
theorem low_mod (k : Nat) (n : Int) : low k (n % 2 ^ k) = low k n := by
  induction k generalizing n with
  | zero => rfl
  | succ k ih =>
    have hp := pow2_pos k
    show n % 2 ^ (k + 1) % 2 :: low k (n % 2 ^ (k + 1) / 2) = n % 2 :: low k (n / 2)
    rw [Int.pow_succ, split_mod n _ hp, show (n / 2 % 2 ^ k * 2 + n % 2) % 2 = n % 2 by omega, show (n / 2 % 2 ^ k * 2 + n % 2) / 2 = n / 2 % 2 ^ k by omega, ih]
/-- the numbers in range -/
def InW (w : Nat) (n : Int) : Prop := 0 ≤ n ∧ n < 2 ^ w
theorem InW.mod {w : Nat} {n : Int} (h : InW w n) : n % 2 ^ w = n := Int.emod_eq_of_lt h.1 h.2
theorem inW_mod (w : Nat) (n : Int) : InW w (n % 2 ^ w) := ⟨Int.emod_nonneg _ (by have := pow2_pos w; omega), Int.emod_lt_of_pos _ (pow2_pos w)⟩
/-- signed reading -/
def sgnd (w : Nat) (n : Int) : Int := if n < 2 ^ (w - 1) then n else n - 2 ^ w
theorem pow_pred {w : Nat} (h : 1 ≤ w) : (2 : Int) ^ w = 2 ^ (w - 1) * 2 := by conv => lhs; rw [show w = (w - 1) + 1 by omega, Int.pow_succ]
/-- the last of the bits -/
theorem low_last {w : Nat} {n : Int} (h1 : 1 ≤ w) (h : InW w n) : ∃ r d, low w n = r ++ [d] ∧ r.length = w - 1 ∧ bits r ∧ (d = 0 ∨ d = 1) ∧ n = lval r + 2 ^ (w - 1) * d ∧ sgnd w n = lval r - 2 ^ (w - 1) * d := by
  have hl := low_len w n
  have hb := low_bits w n
  have hv := lval_low w n
  rw [h.mod] at hv
  rcases List.eq_nil_or_concat (low w n) with e | ⟨r, d, e⟩
  · rw [e] at hl; simp at hl; omega
  · rw [List.concat_eq_append] at e
    rw [e] at hl hb hv
    have lr : r.length = w - 1 := by simp at hl; omega
    have br : bits r := fun x hx => hb x (List.mem_append_left _ hx)
    have hd := hb d (List.mem_append_right _ (List.mem_singleton.mpr rfl))
    rw [lval_app, lr, show lval [d] = d by show d + 2 * 0 = d; omega] at hv
    refine ⟨r, d, e, lr, br, hd, hv.symm, ?_⟩
    obtain ⟨v0, v1⟩ := lval_bits br
    rw [lr] at v1
    unfold sgnd
    rw [pow_pred h1]
    rcases hd with rfl | rfl
    · rw [if_pos (by omega)]; omega
    · rw [if_neg (by omega)]; omega
theorem lval_take {ds : List Int} (h : bits ds) {k : Nat} (hk : k ≤ ds.length) : lval (ds.take k) = lval ds % 2 ^ k := by
  have e := lval_app (ds.take k) (ds.drop k)
  rw [List.take_append_drop] at e
  have hl : (ds.take k).length = k := by rw [List.length_take]; omega
  obtain ⟨v0, v1⟩ := lval_bits (ds := ds.take k) fun x hx => h x (List.mem_of_mem_take hx)
  rw [hl] at e v1
  rw [e, Int.add_mul_emod_self_left, Int.emod_eq_of_lt v0 v1]
theorem lval_drop {ds : List Int} (h : bits ds) {k : Nat} (hk : k ≤ ds.length) : lval (ds.drop k) = lval ds / 2 ^ k := by
  have e := lval_app (ds.take k) (ds.drop k)
  rw [List.take_append_drop] at e
  have hl : (ds.take k).length = k := by rw [List.length_take]; omega
  obtain ⟨v0, v1⟩ := lval_bits (ds := ds.take k) fun x hx => h x (List.mem_of_mem_take hx)
  rw [hl] at e v1
  have hp := pow2_pos k
  rw [e, Int.add_mul_ediv_left _ _ (by omega), Int.ediv_eq_zero_of_lt v0 v1, Int.zero_add]
/-! ### and, or, xor -/
def bitD (f : Int → Int) : List Int → List Int → List Int
  | x :: xs, y :: ys => f (x + y) :: bitD f xs ys
  | _, _ => []
theorem nat_cast_div2 (x : Nat) : ((x : Int) / 2) = ((x / 2 : Nat) : Int) := rfl
theorem nat_cast_mod2 (x : Nat) : ((x : Int) % 2) = ((x % 2 : Nat) : Int) := rfl
theorem bit_step {op : Nat → Nat → Nat} {f : Int → Int} (hd : ∀ x y, op x y / 2 = op (x / 2) (y / 2)) (hm : ∀ x y, ((op x y % 2 : Nat) : Int) = f (((x % 2 : Nat) : Int) + ((y % 2 : Nat) : Int))) (h0 : op 0 0 = 0) :
    ∀ (w x y : Nat), x < 2 ^ w → y < 2 ^ w → lval (bitD f (low w (x : Int)) (low w (y : Int))) = ((op x y : Nat) : Int)
  | 0, x, y, hx, hy => by
    have e1 : x = 0 := by simpa using hx
    have e2 : y = 0 := by simpa using hy
    rw [e1, e2, h0]; rfl
  | w + 1, x, y, hx, hy => by
    have ih := bit_step hd hm h0 w (x / 2) (y / 2) (by rw [Nat.pow_succ] at hx; omega) (by rw [Nat.pow_succ] at hy; omega)
    show f ((x : Int) % 2 + (y : Int) % 2) + 2 * lval (bitD f (low w ((x : Int) / 2)) (low w ((y : Int) / 2))) = _
    rw [nat_cast_div2, nat_cast_div2, ih, ← hd, nat_cast_mod2, nat_cast_mod2, ← hm]
    omega
theorem and_low {w : Nat} {a b : Int} (ha : InW w a) (hb : InW w b) : lval (bitD (fun s => if s = 2 then 1 else 0) (low w a) (low w b)) = Builtin.bitAnd a b := by
  obtain ⟨x, rfl⟩ := Int.eq_ofNat_of_zero_le ha.1
  obtain ⟨y, rfl⟩ := Int.eq_ofNat_of_zero_le hb.1
  rw [PySem.W.os_band]
  refine bit_step (op := fun x y => x &&& y) (fun x y => Nat.and_div_two) (fun x y => ?_) (by decide) w x y (by have := ha.2; rw [show ((2 : Int) ^ w) = ((2 ^ w : Nat) : Int) by simp] at this; omega) (by have := hb.2; rw [show ((2 : Int) ^ w) = ((2 ^ w : Nat) : Int) by simp] at this; omega)
  rcases Nat.mod_two_eq_zero_or_one x with e1 | e1 <;> rcases Nat.mod_two_eq_zero_or_one y with e2 | e2 <;> rcases Nat.mod_two_eq_zero_or_one (x &&& y) with e3 | e3 <;> rw [e1, e2, e3] <;> first
    | rfl
    | (exfalso; have := (Nat.and_mod_two_eq_one (a := x) (b := y)); simp [e1, e2, e3] at this)
theorem low_nat {w x : Nat} (h : InW w (x : Int)) : x < 2 ^ w := by
  have := h.2
  rw [show ((2 : Int) ^ w) = ((2 ^ w : Nat) : Int) by simp] at this
  omega
theorem bitD_or : ∀ (a b : List Int), bits a → bits b → a.length = b.length → lval (bitD (fun s => if s = 1 ∨ s = 2 then 1 else 0) a b) = lval a + lval b - lval (bitD (fun s => if s = 2 then 1 else 0) a b)
  | [], [], _, _, _ => rfl
  | x :: a, y :: b, ha, hb, hl => by
    have ih := bitD_or a b (fun z hz => ha z (List.mem_cons_of_mem _ hz)) (fun z hz => hb z (List.mem_cons_of_mem _ hz)) (Nat.succ.inj hl)
    show (if x + y = 1 ∨ x + y = 2 then (1 : Int) else 0) + 2 * lval (bitD _ a b) = (x + 2 * lval a) + (y + 2 * lval b) - ((if x + y = 2 then (1 : Int) else 0) + 2 * lval (bitD _ a b))
    rw [ih]
    rcases ha x List.mem_cons_self with rfl | rfl <;> rcases hb y List.mem_cons_self with rfl | rfl <;> simp <;> omega
theorem bitD_xor : ∀ (a b : List Int), bits a → bits b → a.length = b.length → lval (bitD (fun s => if s = 1 then 1 else 0) a b) = lval a + lval b - 2 * lval (bitD (fun s => if s = 2 then 1 else 0) a b)
  | [], [], _, _, _ => rfl
  | x :: a, y :: b, ha, hb, hl => by
    have ih := bitD_xor a b (fun z hz => ha z (List.mem_cons_of_mem _ hz)) (fun z hz => hb z (List.mem_cons_of_mem _ hz)) (Nat.succ.inj hl)
    show (if x + y = 1 then (1 : Int) else 0) + 2 * lval (bitD _ a b) = (x + 2 * lval a) + (y + 2 * lval b) - 2 * ((if x + y = 2 then (1 : Int) else 0) + 2 * lval (bitD _ a b))
    rw [ih]
    rcases ha x List.mem_cons_self with rfl | rfl <;> rcases hb y List.mem_cons_self with rfl | rfl <;> simp <;> omega
theorem or_low {w : Nat} {a b : Int} (ha : InW w a) (hb : InW w b) : lval (bitD (fun s => if s = 1 ∨ s = 2 then 1 else 0) (low w a) (low w b)) = Builtin.bitOr a b := by
  rw [bitD_or _ _ (low_bits w a) (low_bits w b) (by rw [low_len, low_len]), lval_low, lval_low, ha.mod, hb.mod, and_low ha hb, PyProof.Rows.bitOr_and]
theorem xor_low {w : Nat} {a b : Int} (ha : InW w a) (hb : InW w b) : lval (bitD (fun s => if s = 1 then 1 else 0) (low w a) (low w b)) = Builtin.bitXor a b := by
  rw [bitD_xor _ _ (low_bits w a) (low_bits w b) (by rw [low_len, low_len]), lval_low, lval_low, ha.mod, hb.mod, and_low ha hb, PyProof.Rows.bitXor_and]
/-! ### shifts -/
theorem shl_low {w k : Nat} {n : Int} (hn : InW w n) : lval ((List.replicate k 0 ++ low w n).take w) = n * 2 ^ k % 2 ^ w := by
  have hb : bits (List.replicate k 0 ++ low w n) := fun x hx => (List.mem_append.mp hx).elim (fun h => .inl (List.eq_of_mem_replicate h)) (low_bits w n x)
  rw [lval_take hb (by rw [List.length_append, low_len]; omega), lval_app, lval_rep, List.length_replicate, lval_low, hn.mod, Int.zero_mul, Int.zero_add, Int.mul_comm]
theorem shr_low {w k : Nat} {n d : Int} (hn : InW w n) (hd : d = 0 ∨ d = 1) : lval ((low w n ++ List.replicate k d).drop k) = (n - 2 ^ w * d) / 2 ^ k + 2 ^ w * d := by
  have hb : bits (low w n ++ List.replicate k d) := fun x hx => (List.mem_append.mp hx).elim (low_bits w n x) fun h => by rw [List.eq_of_mem_replicate h]; exact hd
  have hp := pow2_pos k
  rw [lval_drop hb (by rw [List.length_append, List.length_replicate]; omega), lval_app, lval_rep, low_len, lval_low, hn.mod]
  have e : n + 2 ^ w * (d * (2 ^ k - 1)) = n - 2 ^ w * d + 2 ^ k * (2 ^ w * d) := by
    rw [Int.mul_sub, Int.mul_sub, Int.mul_one, Int.mul_comm (2 ^ k) (2 ^ w * d), Int.mul_assoc]
    omega
  rw [e, Int.add_mul_ediv_left _ _ (by omega)]
/-! ### division by doubling -/
def tdiv (o : Int) : Nat → Int → Int → Int
  | 0, _, f => f
  | k + 1, r, f => if 2 ^ k * o ≤ r then tdiv o k (r - 2 ^ k * o) (f + 2 ^ k) else tdiv o k r f
theorem tdiv_eq {o : Int} (ho : 0 < o) : ∀ (k : Nat) (r f : Int), 0 ≤ r → r < 2 ^ k * o → tdiv o k r f = f + r / o
  | 0, r, f, h0, h1 => by
    show f = f + r / o
    rw [Int.pow_zero, Int.one_mul] at h1
    rw [Int.ediv_eq_zero_of_lt h0 h1]
    omega
  | k + 1, r, f, h0, h1 => by
    rw [Int.pow_succ, Int.mul_comm (2 ^ k) 2, Int.mul_assoc] at h1
    show (if 2 ^ k * o ≤ r then tdiv o k (r - 2 ^ k * o) (f + 2 ^ k) else tdiv o k r f) = _
    by_cases h : 2 ^ k * o ≤ r
    · rw [if_pos h, tdiv_eq ho k _ _ (by omega) (by omega)]
      have e : (r - 2 ^ k * o) / o = r / o - 2 ^ k := by
        have := Int.add_mul_ediv_right r (-(2 ^ k)) (show o ≠ 0 by omega)
        rw [Int.neg_mul] at this
        have e2 : r + -(2 ^ k * o) = r - 2 ^ k * o := by omega
        rw [e2] at this
        omega
      rw [e]
      omega
    · rw [if_neg h]
      exact tdiv_eq ho k r f h0 (by omega)
end Lay

namespace K01
open PySem PySem.Spec PyProof.Rows L2 Lay
def topS (i : Nat) : Stmt := PySem.Challenge.pw_anypasses_k01_operations_on_numbers.main.body.getD i (.Pass ⟨0, 0, 0, 0⟩)
section
variable {P : Program} {w : World} {K : PySem.W.Frag} {mg : Str → Option Value} {base : Heap}
abbrev s__law_draw : Stmt := topS 26
theorem sc__law_draw : FnScope ["script", "salt", "cells", "blend", "cell"] ["script", "salt"] (defScope s__law_draw) := ⟨rfl, rfl, rfl, by decide +kernel, rfl, by decide +kernel, by decide +kernel⟩
theorem ok_draw {f : Addr} {fd : FuncData} {k : Nat} (F : Fun K "_law_draw" "_law_draw" s__law_draw f fd) (mI : mg "int" = none) (mA : mg "abs" = none) : FnOk P w K mg base CX0 (k + 1) f fd ["script", "salt"] (spDraw K) := by
  refine F.ok sc__law_draw (fun vs H Q E h => ?_) (fun cdv A outer s H vs Q E hr h => ?_)
  · obtain ⟨s, salt, ns, rfl, _⟩ := h
    rfl
  · obtain ⟨s', salt, ns, rfl, hS, sa0, sa1, kk⟩ := h
    have q1 : QS (cxOf CX0 P w K mg base ["script", "salt", "cells", "blend", "cell"] "_law_draw" (defScope s__law_draw) f cdv A outer s H E).nox none ((defBody s__law_draw).getD 0 (.Pass ⟨0, 0, 0, 0⟩)) (wSet 2 (wOfO (wLc (wList (wOfO (wScrSl 0 wNoPart (wPart (wC (.int 48)))))) (gDat 4) wYes (wFn dAbs (wCons (wFn dInt (wCons (wLook 4) wNil)) wNil)) [4]))) :=
      qs_setLc (own := [("cell", 4)]) rfl sc__law_draw.nd rfl rfl (sw_true rfl rfl rfl (by decide +kernel)) (i_list (q_ofO (qo_scr (pv 0) p_none (p_some q_int)))) (blkOk_by (own := [("cell", 4)]) (N := ["script", "salt", "cells", "blend", "cell"]) (sc := defScope s__law_draw) (by decide +kernel))
        (fun _ _ _ _ _ => g_name (pg_name (i := 4) sc__law_draw.nd rfl (Or.inl rfl))) (fun _ _ _ _ _ => ts_nil) (fun _ _ _ _ _ => q_abs (by rfl) mA (qv_cons (q_look (q_intc (by rfl) mI (qv_cons (q_own (pv 4)) qv_nil))) qv_nil)) kind_dat
    have q2 : QS (cxOf CX0 P w K mg base ["script", "salt", "cells", "blend", "cell"] "_law_draw" (defScope s__law_draw) f cdv A outer s H E).nox none ((defBody s__law_draw).getD 1 (.Pass ⟨0, 0, 0, 0⟩)) (wSet 3 (wOp dAdd (wC (.int 7919)) (wOp dMul (wC (.int 104729)) (wVar 1)))) :=
      qs_set (q_add q_int (q_mul q_int (q_var (pv 1)))) fun te h => ps_set (i := 3) sc__law_draw.nd rfl (.inl rfl) h
    have q3 : QS (cxOf CX0 P w K mg base ["script", "salt", "cells", "blend", "cell"] "_law_draw" (defScope s__law_draw) f cdv A outer s H E).nox none ((defBody s__law_draw).getD 2 (.Pass ⟨0, 0, 0, 0⟩))
        (wFor (wList (wVar 2)) (gDat 4) (wSet 3 (wOp dMod (wFn dInt (wCons (wOp dAdd (wOp dAdd (wOp dMul (wVar 3) (wC (.int 48271))) (wOp dMod (wVar 4) (wC (.int 2147483549)))) (wC (.int 11))) wNil)) (wC (.int 2147483647))))) :=
      qs_for PassesOwn.never rfl (i_list (q_var (pv 2))) (g_name (pg_name (i := 4) sc__law_draw.nd rfl (Or.inl rfl)))
        (qss_one (qs_set (q_mod (q_intc (by rfl) mI (qv_cons (q_look (q_add (q_add (q_mul (q_var (pv 3)) q_int) (q_mod (q_var (pv 4)) q_int)) q_int)) qv_nil)) q_int) fun te h => ps_set (i := 3) sc__law_draw.nd rfl (.inl rfl) h))
    obtain ⟨t1, p1, s1⟩ := q1
    obtain ⟨t2, p2, s2⟩ := q2
    obtain ⟨t3, p3, s3⟩ := q3
    have q4 : ∃ tr, PE (cxOf CX0 P w K mg base ["script", "salt", "cells", "blend", "cell"] "_law_draw" (defScope s__law_draw) f cdv A outer s H E).nox (match (defBody s__law_draw).getD 3 (.Pass ⟨0, 0, 0, 0⟩) with | .Return (some (.List (e :: _) _)) _ => e | _ => .Constant .none 0 ⟨0, 0, 0, 0⟩) tr ∧ SO K none tr (wRevO (wOfO (wLc (wList (wVar 2)) (gDat 4) (wCmp dGe (wLook 4) (wOp dPow (wC (.int 10)) (wC (.int 18)))) (wVar 4) [4]))) :=
      qo_rev (q_ofO (qo_lc (own := [("cell", 4)]) rfl sc__law_draw.nd (i_list (q_var (pv 2))) (blkOk_by (own := [("cell", 4)]) (N := ["script", "salt", "cells", "blend", "cell"]) (sc := defScope s__law_draw) (by decide +kernel))
        (fun _ _ _ _ _ => g_name (pg_name (i := 4) sc__law_draw.nd rfl (Or.inl rfl))) (fun _ _ _ _ _ => ts_one (t_rel c_ge (q_own (pv 4)) (q_look (q_pow q_int q_int)))) (fun _ _ _ _ _ => q_var (pv 4))))
    obtain ⟨tr, pr, sr⟩ := q4
    refine ⟨_, pss_cons p1 (pss_cons p2 (pss_cons p3 (pss_one (ps_ret (pe_lst (pa_cons pr (pa_cons (pv 3) pa_nil))))))), ?_⟩
    have e0 : EnvOk K none H H H (L2.start ["script", "salt", "cells", "blend", "cell"] [.ref s', .int salt]) H [.scr ns, .dat (.int salt), .no, .no, .no] := by
      refine ⟨rfl, .refl (Same.refl _) deal_none, (fun _ h => nomatch h), fun i t h => ?_, fun i j u t x n hi hj os ot es et => ?_⟩
      · match i, h with
        | 0, h => cases h; exact ⟨s', rfl, hS⟩
        | 1, h => cases h; exact ⟨_, rfl, .int _⟩
        | 2, h => cases h; trivial
        | 3, h => cases h; trivial
        | 4, h => cases h; trivial
        | n + 5, h => simp at h
      · match i, hi with
        | 0, h => cases h; cases os
        | 1, h => cases h; cases os
        | 2, h => cases h; cases os
        | 3, h => cases h; cases os
        | 4, h => cases h; cases os
        | n + 5, h => simp at h
    have fin : ∀ ρ B σ H', (∃ (cs : List Int) (b : Int) (x : Sl), ρ = [.scr ns, .dat (.int salt), .dat (.list (cs.map .int)), .dat (.int b), x] ∧ cs.length ≤ 48 ∧ (∀ x ∈ cs, 0 ≤ x) ∧ 0 ≤ b ∧ b < 2147483647) → EnvOk K none H H B σ H' ρ →
        tRet (tLst (tCons tr (tCons (tVar 3) tNil))) { nx := fun _ H' => Q .non H', rt := Q } σ H' := by
      rintro ρ B σ H' ⟨cs, b, x, rfl, hl, hn, b0, b1⟩ e
      obtain ⟨v3, h3, d3⟩ := e.sl 3 _ rfl
      cases d3
      refine sr H H B σ H' _ (fun ds => ∃ gl : List Int, ds = gl.map .int ∧ gl.length ≤ 48 ∧ ∀ x ∈ gl, 0 ≤ x) _ (draw_pick hl hn) e ?_
      rintro c vs B' H1 ds ⟨gl, rfl, gl1, gl2⟩ g n nB hc hd
      refine ⟨.int b, h3, by show 2 ≤ sizeLine; decide, fun p np => ?_⟩
      have hv := ints_back hd
      subst hv
      have cp : p ≠ c := fun z => by rw [z, hc] at np; cases np
      have nH : ∀ {x}, H' x = none → H x = none := fun {x} h => fresh0 e.fr h
      refine kk p c _ ((e.fr.all).trans (g.all.trans fun x o q => by rw [upd_ne (ne_of_none q np)]; exact q)) (nH (fresh0 g np)) (nH n) fun q hq => ?_
      cases hq
      exact ⟨cp, gl, b, upd_same, by rw [upd_ne (Ne.symm cp)]; exact hc, by omega, gl2, b0, b1⟩
    have S := ss_seq s1 (ss_seq s2 s3)
    refine S H H H _ H _ { nx := fun ρ => ∃ (cs : List Int) (b : Int) (x : Sl), ρ = [.scr ns, .dat (.int salt), .dat (.list (cs.map .int)), .dat (.int b), x] ∧ cs.length ≤ 48 ∧ (∀ x ∈ cs, 0 ≤ x) ∧ 0 ≤ b ∧ b < 2147483647, rt := fun _ => False } { nx := tRet (tLst (tCons tr (tCons (tVar 3) tNil))) { nx := fun _ H' => Q .non H', rt := Q }, rt := Q } ?_ e0 ⟨fin, fun _ _ _ _ h => h.elim, fun _ _ _ _ h => h.elim, fun _ _ _ _ h => h.elim⟩
    exact draw_runs sa0 sa1

abbrev s__law_any : Stmt := topS 27
theorem sc__law_any : FnScope ["deal", "bound", "rest"] ["deal", "bound"] (defScope s__law_any) := ⟨rfl, rfl, rfl, by decide +kernel, rfl, by decide +kernel, by decide +kernel⟩
theorem ok_any {f : Addr} {fd : FuncData} {k : Nat} (F : Fun K "_law_any" "_law_any" s__law_any f fd) (mI : mg "int" = none) : FnOk P w K mg base CX0 (k + 1) f fd ["deal", "bound"] (spD K 1 wAny) := by
  refine F.ok sc__law_any (fun vs H Q E h => ?_) (fun cdv A outer s H vs Q E hr h => ?_)
  · obtain ⟨B, ds, PP, a, c, rest, rfl, _, _, _, _, hd, hl, _⟩ := h
    rw [List.length_cons, hd.len, hl]
    rfl
  · obtain ⟨B, ds, PP, a, c, rest, rfl, sm, dk, nBa, nBc, hd, hl, ⟨n, rfl, n0, n9, hP⟩, kk⟩ := h
    obtain ⟨v, rfl, hv⟩ : ∃ v, rest = [v] ∧ v = .int n := by
      cases hd with
      | cons h1 h2 => cases h2; cases h1; exact ⟨_, rfl, rfl⟩
    subst hv
    refine ⟨_, Evl.pss_cut (ps_while PassesOwn.never (pw_and (pt_cmpR (op_neD hr.units) (pe_ix ix_list (pv 0) pe_int (fun _ _ => rfl)) (pe_lst pa_nil) (nomark _)) (pw_and1 (pt_cmpR op_eq (pe_ix ix_list (pe_ix ix_list (pv 0) pe_int (fun _ _ => rfl)) (pe_un un_neg pe_int) (fun _ _ => rfl)) pe_int (nomark _)))).pt
        (pss_one (ps_expr (pe_bm0 PySem.F.plainAttrs_list PySem.F.slot_list_pop PySem.F.type_list_pop mt_pop (pe_ix ix_list (pv 0) pe_int (fun _ _ => rfl))))))
      (pss_cons (ps_if (pt_cmpR (op_neD hr.units) (pe_ix ix_list (pv 0) pe_int (fun _ _ => rfl)) (pe_lst pa_nil) (nomark _))
        (pss_cons (ps_set (i := 2) sc__law_any.nd rfl (.inl rfl) (pe_callTy call_int1 (by rfl) mI boot_int (pa_cons (pe_bm0 PySem.F.plainAttrs_list PySem.F.slot_list_pop PySem.F.type_list_pop mt_pop (pe_ix ix_list (pv 0) pe_int (fun _ _ => rfl))) pa_nil)))
        (pss_cons (ps_expr (pe_bm PySem.F.plainAttrs_list PySem.F.slot_list_append PySem.F.type_list_append mt_append (pe_ix ix_list (pv 0) pe_int (fun _ _ => rfl)) (pa_cons (pe_op op_fdivW (pv 2) (pv 1)) pa_nil)))
        (pss_one (ps_ret (pe_op op_mod (pv 2) (pv 1)))))) pss_nil)
      (pss_cons (ps_asg (pe_op op_mod (pe_callTy call_int1 (by rfl) mI boot_int (pa_cons (pe_op op_add (pe_op op_mul (pe_ix ix_list (pv 0) pe_int (fun _ _ => rfl)) pe_int) pe_int) pa_nil)) pe_int) (pg_sub (pv 0) pe_int set_list))
      (pss_one (ps_ret (pe_op op_mod (pe_callTy call_int1 (by rfl) mI boot_int (pa_cons (pe_op op_fdiv (pe_ix ix_list (pv 0) pe_int (fun _ _ => rfl)) pe_int) pa_nil)) (pv 1)))))), ?_⟩
    obtain ⟨ac, gl, b, Ha, Hc, gl1, gl2, b1, b2⟩ := dk (a, c) rfl
    have at0 : ∀ b : Int, atI [V.ref c, V.int b] 0 = some (V.ref c) := fun b => atI_nat (j := 0) rfl
    have at1 : ∀ b : Int, atI [V.ref c, V.int b] 1 = some (V.int b) := fun b => atI_nat (j := 1) rfl
    have dpl : ∀ (gl : List Int) (H' : Hp), H' c = some (.lst (gl.map V.int)) → Dp K H' (.ref c) (.list (gl.map PyData.int)) := fun gl H' h => .lst (SqL.of h) (dpAll_ints gl)
    have emp : ∀ gl : List Int, PyData.eqv (.list (gl.map PyData.int)) (.list []) = gl.isEmpty := fun gl => by cases gl <;> rfl
    let St (σ : L2.St) (H' : Hp) (gl : List Int) (b : Int) : Prop := σ = [some (.ref a), some (.int n), none] ∧ Grow (some (a, c)) B H B H' ∧ H' a = some (.lst [.ref c, .int b]) ∧ H' c = some (.lst (gl.map V.int)) ∧ gl.length ≤ 1000 ∧ (∀ x ∈ gl, 0 ≤ x) ∧ 0 ≤ b ∧ b < 2147483647
    refine ⟨fun σ H' => ∃ gl b, St σ H' gl b, ⟨fun m σ H' => ∃ gl b, m = gl.length ∧ St σ H' gl b, ⟨_, gl, b, rfl, rfl, .refl sm dk, Ha, Hc, gl1, gl2, b1, b2⟩, ?_⟩, ?_⟩
    · rintro m σ H1 ⟨gl, b, rfl, rfl, g1, Ha, Hc, gl1, gl2, b1, b2⟩
      refine ⟨.ref a, rfl, a, _, 0, .ref c, rfl, rfl, SqL.of Ha, at0 b, Nat.zero_le _, fun p np => ?_⟩
      have pa : p ≠ a := fun z => by rw [z, Ha] at np; cases np
      have pc : p ≠ c := fun z => by rw [z, Hc] at np; cases np
      have Ha2 : upd H1 p (.lst []) a = some (.lst [.ref c, .int b]) := by rw [upd_ne (Ne.symm pa)]; exact Ha
      have Hc2 : upd H1 p (.lst []) c = some (.lst (gl.map V.int)) := by rw [upd_ne (Ne.symm pc)]; exact Hc
      have g2 : Grow (some (a, c)) B H B (upd H1 p (.lst [])) := g1.junk np
      refine ⟨_, _, dpl gl _ Hc2, .lst (SqL.of upd_same) .nil, ints_shaped gl, by decide +kernel, _, rfl, ?_⟩
      rw [emp gl]
      generalize upd H1 p (.lst []) = H2 at Ha2 Hc2 g2
      rcases List.eq_nil_or_concat gl with rfl | ⟨l, x, rfl⟩
      · exact ⟨[], b, rfl, g2, Ha2, Hc2, gl1, gl2, b1, b2⟩
      · have e1 : (!(l ++ [x]).isEmpty) = true := by cases l <;> rfl
        rw [List.concat_eq_append] at *
        rw [e1]
        refine iteT ?_
        have el : atI ((l ++ [x]).map V.int) (-1) = some (V.int x) := by
          rw [List.map_append]
          exact atI_last _ _
        refine ⟨.ref a, rfl, a, _, 0, .ref c, rfl, rfl, SqL.of Ha2, at0 b, 1, rfl, c, _, -1, .int x, rfl, rfl, SqL.of Hc2, el, rfl, _, rfl, ?_⟩
        by_cases hx : x = 0
        · rw [decide_eq_true (show V.int x = V.int 0 by rw [hx])]
          refine iteT ⟨fun σ' H' => ∃ gl b, gl.length < (l ++ [x]).length ∧ St σ' H' gl b, fun σ' H' ⟨gl', b', hl', hs⟩ => ⟨gl'.length, hl', gl', b', rfl, hs⟩, ?_⟩
          refine ⟨.ref a, rfl, a, _, 0, .ref c, rfl, rfl, SqL.of Ha2, at0 b, .inl ⟨rfl, _, SqL.of Hc2⟩, c, _, .int x, rfl, rfl, Hc2, last_int, l, b, by simp, rfl, ?_, by rw [upd_ne ac]; exact Ha2, ?_, by simp at gl1; omega, fun y hy => gl2 y (List.mem_append_left _ hy), b1, b2⟩
          · rw [List.map_append, List.map_cons, List.map_nil, List.dropLast_concat]
            exact g2.setC nBc ac Ha2 ⟨b1, b2⟩ (by simp at gl1; omega) fun y hy => gl2 y (List.mem_append_left _ hy)
          · rw [upd_same, List.map_append, List.map_cons, List.map_nil, List.dropLast_concat]
        · rw [decide_eq_false (show ¬ V.int x = V.int 0 from fun z => hx (V.int.inj z))]
          exact iteF ⟨l ++ [x], b, rfl, g2, Ha2, Hc2, gl1, gl2, b1, b2⟩
    · rintro σ H1 ⟨gl, b, rfl, g1, Ha, Hc, gl1, gl2, b1, b2⟩
      refine ⟨.ref a, rfl, a, _, 0, .ref c, rfl, rfl, SqL.of Ha, at0 b, Nat.zero_le _, fun p np => ?_⟩
      have pa : p ≠ a := fun z => by rw [z, Ha] at np; cases np
      have pc : p ≠ c := fun z => by rw [z, Hc] at np; cases np
      have Ha2 : upd H1 p (.lst []) a = some (.lst [.ref c, .int b]) := by rw [upd_ne (Ne.symm pa)]; exact Ha
      have Hc2 : upd H1 p (.lst []) c = some (.lst (gl.map V.int)) := by rw [upd_ne (Ne.symm pc)]; exact Hc
      have g2 : Grow (some (a, c)) B H B (upd H1 p (.lst [])) := g1.junk np
      refine ⟨_, _, dpl gl _ Hc2, .lst (SqL.of upd_same) .nil, ints_shaped gl, by decide +kernel, _, rfl, ?_⟩
      rw [emp gl]
      generalize upd H1 p (.lst []) = H2 at Ha2 Hc2 g2
      rcases List.eq_nil_or_concat gl with rfl | ⟨l, x, rfl⟩
      · -- deal[1] = ..
        refine iteF ⟨.ref a, rfl, a, _, 1, .int b, rfl, rfl, SqL.of Ha2, at1 b, b, _, rfl, rfl, .inl ⟨by omega, by omega⟩, _, _, rfl, rfl, .inl ⟨_, rfl, _, _, rfl, rfl, by show (0 : Int) < 2147483647; decide, ?_⟩⟩
        have c1 : 0 ≤ (b * 40693 + 71) % 2147483647 := Int.emod_nonneg _ (by decide)
        have c2 : (b * 40693 + 71) % 2147483647 < 2147483647 := Int.emod_lt_of_pos _ (by decide)
        refine ⟨.ref a, rfl, a, _, 1, 1, rfl, rfl, Ha2, rfl, ?_⟩
        have g3 := g2.setA nBa ac Hc2 ⟨c1, c2⟩ gl1 gl2
        refine ⟨.ref a, rfl, a, _, 1, _, rfl, rfl, SqL.of upd_same, at1 _, _, 64, rfl, rfl, ⟨by decide, by decide⟩, .inl ⟨_, rfl, .int n, rfl, _, _, rfl, rfl, n0, ?_⟩⟩
        exact kk _ B _ _ (hP _ (Int.emod_nonneg _ (by omega)) (Int.emod_lt_of_pos _ n0)) g3 (.int _)
      · have e1 : (!(l ++ [x]).isEmpty) = true := by cases l <;> rfl
        rw [List.concat_eq_append] at *
        rw [e1]
        refine iteT ?_
        have hx0 : 0 ≤ x := gl2 x (by simp)
        refine ⟨.ref a, rfl, a, _, 0, .ref c, rfl, rfl, SqL.of Ha2, at0 b, .inl ⟨rfl, _, SqL.of Hc2⟩, c, _, .int x, rfl, rfl, Hc2, last_int, .inl ⟨x, rfl, ?_⟩⟩
        have Ha3 : upd H2 c (.lst ((l ++ [x]).map V.int).dropLast) a = some (.lst [.ref c, .int b]) := by rw [upd_ne ac]; exact Ha2
        refine ⟨.ref a, rfl, a, _, 0, .ref c, rfl, rfl, SqL.of Ha3, at0 b, .inl ⟨rfl, _, SqL.of upd_same⟩, .int x, rfl, .int n, rfl, x, n, rfl, rfl, ⟨n0, n9⟩, c, _, _, rfl, rfl, upd_same, ?_, ?_⟩
        · rw [List.map_append, List.map_cons, List.map_nil, List.dropLast_concat, List.length_map]
          exact small1000 (by simp at gl1; omega)
        · rw [upd_upd, List.map_append, List.map_cons, List.map_nil, List.dropLast_concat]
          have g3 := g2.setC (gl := l ++ [x / n]) nBc ac Ha2 ⟨b1, b2⟩ (by simp at gl1 ⊢; omega) (fun y hy => by
            rcases List.mem_append.mp hy with hy | hy
            · exact gl2 y (List.mem_append_left _ hy)
            · rw [List.mem_singleton.mp hy]; exact Int.ediv_nonneg hx0 (by omega))
          rw [List.map_append, List.map_cons, List.map_nil] at g3
          exact ⟨.int x, rfl, .int n, rfl, _, _, rfl, rfl, n0, kk _ B _ _ (hP _ (Int.emod_nonneg _ (by omega)) (Int.emod_lt_of_pos _ n0)) g3 (.int _)⟩

abbrev wf__law_any : WF := wAny
abbrev s__law_of : Stmt := topS 28
abbrev N__law_of : List Str := ["deal", "some"]
theorem sc__law_of : FnScope N__law_of ["deal", "some"] (defScope s__law_of) := ⟨rfl, rfl, rfl, by decide +kernel, rfl, by decide +kernel, by decide +kernel⟩
def w__law_of : WS := (wRet (wIxN 1 (wCallD 0 1 wf__law_any (wCons (wFn dLen (wCons (wLook 1) wNil)) wNil))))
abbrev wf__law_of : WF := wDefD 2 w__law_of
theorem ok__law_of {f : Addr} {fd : FuncData} (F : Fun K "_law_of" "_law_of" s__law_of f fd) (c__law_any : CalD P w K mg base 1 "_law_any" 1 wf__law_any) (m_len : mg "len" = none) : FnG P w K mg base CX0 2 f fd ["deal", "some"] (spD K 1 wf__law_of) :=
  okFD F sc__law_of rfl fun dl cdv A outer s H E hg hr =>
      (qss_one (qs_ret (q_ixN (pv 1) (q_callD c__law_any hg hr (by decide) (by rfl) (pv 0) (qa_cons (q_len (by rfl) m_len (qv_cons (q_own (pv 1)) qv_nil)) qa_nil)))))
abbrev s__law_power : Stmt := topS 31
abbrev N__law_power : List Str := ["many"]
theorem sc__law_power : FnScope N__law_power ["many"] (defScope s__law_power) := ⟨rfl, rfl, rfl, by decide +kernel, rfl, by decide +kernel, by decide +kernel⟩
def w__law_power : WS := (wRet (wOp dShl (wC (.int 1)) (wVar 0)))
abbrev wf__law_power : WF := wDef 1 w__law_power
theorem ok__law_power {f : Addr} {fd : FuncData} (F : Fun K "_law_power" "_law_power" s__law_power f fd)  : FnG P w K mg base CX0 1 f fd ["many"] (spF K 1 wf__law_power) :=
  okF F sc__law_power fun cdv A outer s H E hg hr =>
      (qss_one (qs_ret (q_shl q_int (q_var (pv 0)))))
abbrev s__law_number : Stmt := topS 30
abbrev N__law_number : List Str := ["deal", "width", "top", "form"]
theorem sc__law_number : FnScope N__law_number ["deal", "width"] (defScope s__law_number) := ⟨rfl, rfl, rfl, by decide +kernel, rfl, by decide +kernel, by decide +kernel⟩
def w__law_number : WS := (wSeq (wSet 2 (wCall 1 wf__law_power (wCons (wVar 1) wNil))) (wSeq (wSet 3 (wCallD 0 1 wf__law_any (wCons (wC (.int 4)) wNil))) (wSeq (wIfS (wCmp dEq (wLook 3) (wC (.int 0))) (wRet (wCallD 0 1 wf__law_of (wCons (wOfO (wLst (wCons (wC (.int 0)) (wCons (wC (.int 1)) (wCons (wOp dSub (wVar 2) (wC (.int 1))) (wCons (wOp dFdiv (wVar 2) (wC (.int 2))) (wCons (wOp dSub (wOp dFdiv (wVar 2) (wC (.int 2))) (wC (.int 1))) (wCons (wOp dMod (wFn dInt (wCons (wLook 1) wNil)) (wVar 2)) (wCons (wOp dMod (wFn dInt (wCons (wOp dAdd (wVar 1) (wC (.int 1))) wNil)) (wVar 2)) (wCons (wOp dFdiv (wVar 2) (wC (.int 4))) wNil)))))))))) wNil))) wNext) (wRet (wIf (wCmp dEq (wLook 3) (wC (.int 1))) (wCallD 0 1 wf__law_any (wCons (wVar 2) wNil)) (wOp dMod (wFn dInt (wCons (wOp dSub (wCallD 0 1 wf__law_any (wCons (wC (.int 41)) wNil)) (wC (.int 20))) wNil)) (wVar 2)))))))
abbrev wf__law_number : WF := wDefD 4 w__law_number
theorem ok__law_number {f : Addr} {fd : FuncData} (F : Fun K "_law_number" "_law_number" s__law_number f fd) (c__law_power : Cal P w K mg base 1 "_law_power" 1 wf__law_power) (c__law_any : CalD P w K mg base 1 "_law_any" 1 wf__law_any) (c__law_of : CalD P w K mg base 2 "_law_of" 1 wf__law_of) (m_int : mg "int" = none) : FnG P w K mg base CX0 3 f fd ["deal", "width"] (spD K 1 wf__law_number) :=
  okFD F sc__law_number rfl fun dl cdv A outer s H E hg hr =>
      (qss_cons (qs_set (i := 2) (q_call c__law_power hg hr (by decide) (by rfl) (qa_cons (q_var (pv 1)) qa_nil)) (fun te h => ps_set (i := 2) sc__law_number.nd rfl (by first | exact Or.inl rfl | exact Or.inr rfl) h))
      (qss_cons (qs_set (i := 3) (q_callD c__law_any hg hr (by decide) (by rfl) (pv 0) (qa_cons q_int qa_nil)) (fun te h => ps_set (i := 3) sc__law_number.nd rfl (by first | exact Or.inl rfl | exact Or.inr rfl) h))
      (qss_cons (qs_if (t_rel (c_eq (deep_of hr)) (q_own (pv 3)) (q_look q_int)) (qss_one (qs_ret (q_callD c__law_of hg hr (by decide) (by rfl) (pv 0) (qa_cons (q_ofO (qo_lst (qa_cons q_int (qa_cons q_int (qa_cons (q_sub (q_var (pv 2)) q_int) (qa_cons (q_fdiv (q_var (pv 2)) q_int) (qa_cons (q_sub (q_fdiv (q_var (pv 2)) q_int) q_int) (qa_cons (q_mod (q_intc (by rfl) m_int (qv_cons (q_own (pv 1)) qv_nil)) (q_var (pv 2))) (qa_cons (q_mod (q_intc (by rfl) m_int (qv_cons (q_look (q_add (q_var (pv 1)) q_int)) qv_nil)) (q_var (pv 2))) (qa_cons (q_fdiv (q_var (pv 2)) q_int) qa_nil)))))))))) qa_nil)))) qss_nil)
      (qss_one (qs_ret (q_if (t_rel (c_eq (deep_of hr)) (q_own (pv 3)) (q_look q_int)) (q_callD c__law_any hg hr (by decide) (by rfl) (pv 0) (qa_cons (q_var (pv 2)) qa_nil)) (q_mod (q_intc (by rfl) m_int (qv_cons (q_look (q_sub (q_callD c__law_any hg hr (by decide) (by rfl) (pv 0) (qa_cons q_int qa_nil)) q_int)) qv_nil)) (q_var (pv 2)))))))))
abbrev s_is_number : Stmt := topS 1
abbrev N_is_number : List Str := ["value"]
theorem sc_is_number : FnScope N_is_number ["value"] (defScope s_is_number) := ⟨rfl, rfl, rfl, by decide +kernel, rfl, by decide +kernel, by decide +kernel⟩
def w_is_number : WS := (wRet (wAndV (wIsi "int" (wLook 0)) (wAndV (wNotV (wIsi "bool" (wLook 0))) (wBool (wCmp dGe (wLook 0) (wC (.int 0)))))))
abbrev wf_is_number : WF := wDef 1 w_is_number
theorem ok_is_number {f : Addr} {fd : FuncData} (F : Fun K "is_number" "is_number" s_is_number f fd) (m_isinstance : mg "isinstance" = none) (m_int : mg "int" = none) (m_bool : mg "bool" = none) : FnG P w K mg base CX0 1 f fd ["value"] (spF K 1 wf_is_number) :=
  okF F sc_is_number fun cdv A outer s H E hg hr =>
      (qss_one (qs_ret (q_and (q_isi (T := "int") (by rfl) m_isinstance (by rfl) m_int (by decide +kernel) (by rfl) (q_own (pv 0))) (q_and (q_not (q_isi (T := "bool") (by rfl) m_isinstance (by rfl) m_bool (by decide +kernel) (by rfl) (q_own (pv 0)))) (q_one (q_rel c_ge (q_own (pv 0)) (q_look q_int)))))))
abbrev s_is_width : Stmt := topS 5
abbrev N_is_width : List Str := ["value"]
theorem sc_is_width : FnScope N_is_width ["value"] (defScope s_is_width) := ⟨rfl, rfl, rfl, by decide +kernel, rfl, by decide +kernel, by decide +kernel⟩
def w_is_width : WS := (wRet (wAndV (wCall 1 wf_is_number (wCons (wVar 0) wNil)) (wBool (wCmp dIn (wLook 0) (wC (.tuple [(.int 1), (.int 8), (.int 16), (.int 32), (.int 64)]))))))
abbrev wf_is_width : WF := wDef 1 w_is_width
theorem ok_is_width {f : Addr} {fd : FuncData} (F : Fun K "is_width" "is_width" s_is_width f fd) (c_is_number : Cal P w K mg base 1 "is_number" 1 wf_is_number) (g_WIDTHS : Glo K mg "WIDTHS" (.tuple [(.int 1), (.int 8), (.int 16), (.int 32), (.int 64)])) : FnG P w K mg base CX0 2 f fd ["value"] (spF K 1 wf_is_width) :=
  okF F sc_is_width fun cdv A outer s H E hg hr =>
      (qss_one (qs_ret (q_and (q_call c_is_number hg hr (by decide) (by rfl) (qa_cons (q_var (pv 0)) qa_nil)) (q_one (q_rel (c_in (deep_of hr)) (q_own (pv 0)) (q_look (q_g (by rfl) g_WIDTHS)))))))
abbrev s_is_of_width : Stmt := topS 6
abbrev N_is_of_width : List Str := ["value", "width"]
theorem sc_is_of_width : FnScope N_is_of_width ["value", "width"] (defScope s_is_of_width) := ⟨rfl, rfl, rfl, by decide +kernel, rfl, by decide +kernel, by decide +kernel⟩
def w_is_of_width : WS := (wRet (wAndV (wCall 1 wf_is_number (wCons (wVar 0) wNil)) (wAndV (wCall 1 wf_is_width (wCons (wVar 1) wNil)) (wBool (wCmp dLt (wLook 0) (wOp dShl (wC (.int 1)) (wVar 1)))))))
abbrev wf_is_of_width : WF := wDef 2 w_is_of_width
theorem ok_is_of_width {f : Addr} {fd : FuncData} (F : Fun K "is_of_width" "is_of_width" s_is_of_width f fd) (c_is_number : Cal P w K mg base 1 "is_number" 1 wf_is_number) (c_is_width : Cal P w K mg base 2 "is_width" 1 wf_is_width) : FnG P w K mg base CX0 3 f fd ["value", "width"] (spF K 2 wf_is_of_width) :=
  okF F sc_is_of_width fun cdv A outer s H E hg hr =>
      (qss_one (qs_ret (q_and (q_call c_is_number hg hr (by decide) (by rfl) (qa_cons (q_var (pv 0)) qa_nil)) (q_and (q_call c_is_width hg hr (by decide) (by rfl) (qa_cons (q_var (pv 1)) qa_nil)) (q_one (q_rel c_lt (q_own (pv 0)) (q_look (q_shl q_int (q_var (pv 1))))))))))
abbrev s_signed : Stmt := topS 8
abbrev N_signed : List Str := ["number", "width"]
theorem sc_signed : FnScope N_signed ["number", "width"] (defScope s_signed) := ⟨rfl, rfl, rfl, by decide +kernel, rfl, by decide +kernel, by decide +kernel⟩
def w_signed : WS := (wRet (wIf (wCmp dLt (wLook 0) (wOp dShl (wC (.int 1)) (wOp dSub (wVar 1) (wC (.int 1))))) (wVar 0) (wOp dSub (wVar 0) (wOp dShl (wC (.int 1)) (wVar 1)))))
abbrev wf_signed : WF := wDef 2 w_signed
theorem ok_signed {f : Addr} {fd : FuncData} (F : Fun K "signed" "signed" s_signed f fd)  : FnG P w K mg base CX0 1 f fd ["number", "width"] (spF K 2 wf_signed) :=
  okF F sc_signed fun cdv A outer s H E hg hr =>
      (qss_one (qs_ret (q_if (t_rel c_lt (q_own (pv 0)) (q_look (q_shl q_int (q_sub (q_var (pv 1)) q_int)))) (q_var (pv 0)) (q_sub (q_var (pv 0)) (q_shl q_int (q_var (pv 1)))))))
abbrev s__law_read : Stmt := topS 34
abbrev N__law_read : List Str := ["digits", "total", "weight", "at", "digit"]
theorem sc__law_read : FnScope N__law_read ["digits"] (defScope s__law_read) := ⟨rfl, rfl, rfl, by decide +kernel, rfl, by decide +kernel, by decide +kernel⟩
def w__law_read : WS := (wSeq (wAsg (wTup (wCons (wC (.int 0)) (wCons (wC (.int 1)) wNil))) (gTupW 2 (gConsW (gDat 1) (gConsW (gDat 2) gNilW)))) (wSeq (wFor (wEnum (wCons (wVar 0) wNil)) (gTupW 2 (gConsW (gDat 3) (gConsW (gDat 4) gNilW))) (wSeq (wSet 1 (wIf (wCmp dEq (wOp dAdd (wVar 3) (wC (.int 1))) (wFn dLen (wCons (wLook 0) wNil))) (wOp dSub (wVar 1) (wOp dMul (wVar 4) (wVar 2))) (wOp dAdd (wVar 1) (wOp dMul (wVar 4) (wVar 2))))) (wSet 2 (wOp dAdd (wVar 2) (wVar 2))))) (wRet (wVar 1))))
abbrev wf__law_read : WF := wDef 5 w__law_read
theorem ok__law_read {f : Addr} {fd : FuncData} (F : Fun K "_law_read" "_law_read" s__law_read f fd) (m_enumerate : mg "enumerate" = none) (m_len : mg "len" = none) : FnG P w K mg base CX0 1 f fd ["digits"] (spF K 1 wf__law_read) :=
  okF F sc__law_read fun cdv A outer s H E hg hr =>
      (qss_cons (qs_asg (q_tup (qa_cons q_int (qa_cons q_int qa_nil))) (g_tup rfl (gs_cons (g_name (pg_name (i := 1) sc__law_read.nd rfl (by first | exact Or.inl rfl | exact Or.inr rfl))) (gs_cons (g_name (pg_name (i := 2) sc__law_read.nd rfl (by first | exact Or.inl rfl | exact Or.inr rfl))) gs_nil))))
      (qss_cons (qs_for PassesOwn.never rfl (i_enum (by rfl) m_enumerate (qa_cons (q_var (pv 0)) qa_nil)) (g_tup rfl (gs_cons (g_name (pg_name (i := 3) sc__law_read.nd rfl (by first | exact Or.inl rfl | exact Or.inr rfl))) (gs_cons (g_name (pg_name (i := 4) sc__law_read.nd rfl (by first | exact Or.inl rfl | exact Or.inr rfl))) gs_nil))) (qss_cons (qs_set (i := 1) (q_if (t_rel (c_eq (deep_of hr)) (q_look (q_add (q_var (pv 3)) q_int)) (q_look (q_len (by rfl) m_len (qv_cons (q_own (pv 0)) qv_nil)))) (q_sub (q_var (pv 1)) (q_mul (q_var (pv 4)) (q_var (pv 2)))) (q_add (q_var (pv 1)) (q_mul (q_var (pv 4)) (q_var (pv 2))))) (fun te h => ps_set (i := 1) sc__law_read.nd rfl (by first | exact Or.inl rfl | exact Or.inr rfl) h))
      (qss_one (qs_set (i := 2) (q_add (q_var (pv 2)) (q_var (pv 2))) (fun te h => ps_set (i := 2) sc__law_read.nd rfl (by first | exact Or.inl rfl | exact Or.inr rfl) h)))))
      (qss_one (qs_ret (q_var (pv 1))))))
abbrev s_wrapped : Stmt := topS 7
abbrev N_wrapped : List Str := ["number", "width"]
theorem sc_wrapped : FnScope N_wrapped ["number", "width"] (defScope s_wrapped) := ⟨rfl, rfl, rfl, by decide +kernel, rfl, by decide +kernel, by decide +kernel⟩
def w_wrapped : WS := (wRet (wOp dMod (wVar 0) (wOp dShl (wC (.int 1)) (wVar 1))))
abbrev wf_wrapped : WF := wDef 2 w_wrapped
theorem ok_wrapped {f : Addr} {fd : FuncData} (F : Fun K "wrapped" "wrapped" s_wrapped f fd)  : FnG P w K mg base CX0 1 f fd ["number", "width"] (spF K 2 wf_wrapped) :=
  okF F sc_wrapped fun cdv A outer s H E hg hr =>
      (qss_one (qs_ret (q_mod (q_var (pv 0)) (q_shl q_int (q_var (pv 1))))))
abbrev s__law_back : Stmt := topS 33
abbrev N__law_back : List Str := ["digits", "total", "weight", "digit"]
theorem sc__law_back : FnScope N__law_back ["digits"] (defScope s__law_back) := ⟨rfl, rfl, rfl, by decide +kernel, rfl, by decide +kernel, by decide +kernel⟩
def w__law_back : WS := (wSeq (wAsg (wTup (wCons (wC (.int 0)) (wCons (wC (.int 1)) wNil))) (gTupW 2 (gConsW (gDat 1) (gConsW (gDat 2) gNilW)))) (wSeq (wFor (wList (wVar 0)) (gDat 3) (wPar 1 2 (xDat (wOp dAdd (wVar 1) (wOp dMul (wVar 3) (wVar 2)))) (xDat (wOp dAdd (wVar 2) (wVar 2))))) (wRet (wVar 1))))
abbrev wf__law_back : WF := wDef 4 w__law_back
theorem ok__law_back {f : Addr} {fd : FuncData} (F : Fun K "_law_back" "_law_back" s__law_back f fd)  : FnG P w K mg base CX0 1 f fd ["digits"] (spF K 1 wf__law_back) :=
  okF F sc__law_back fun cdv A outer s H E hg hr =>
      (qss_cons (qs_asg (q_tup (qa_cons q_int (qa_cons q_int qa_nil))) (g_tup rfl (gs_cons (g_name (pg_name (i := 1) sc__law_back.nd rfl (by first | exact Or.inl rfl | exact Or.inr rfl))) (gs_cons (g_name (pg_name (i := 2) sc__law_back.nd rfl (by first | exact Or.inl rfl | exact Or.inr rfl))) gs_nil))))
      (qss_cons (qs_for PassesOwn.never rfl (i_list (q_var (pv 0))) (g_name (pg_name (i := 3) sc__law_back.nd rfl (by first | exact Or.inl rfl | exact Or.inr rfl))) (qss_one (qs_parX (i := 1) (j := 2) sc__law_back.nd rfl rfl rfl rfl (qx_dat (q_add (q_var (pv 1)) (q_mul (q_var (pv 3)) (q_var (pv 2))))) (qx_dat (q_add (q_var (pv 2)) (q_var (pv 2)))))))
      (qss_one (qs_ret (q_var (pv 1))))))
abbrev s__law_digits : Stmt := topS 32
abbrev N__law_digits : List Str := ["number", "width", "rest", "found", "turn"]
theorem sc__law_digits : FnScope N__law_digits ["number", "width"] (defScope s__law_digits) := ⟨rfl, rfl, rfl, by decide +kernel, rfl, by decide +kernel, by decide +kernel⟩
def w__law_digits : WS := (wSeq (wPar 2 3 (xDat (wOp dMod (wFn dInt (wCons (wLook 0) wNil)) (wCall 1 wf__law_power (wCons (wVar 1) wNil)))) (xOwn (wLst wNil))) (wSeq (wFor (wRange1 (wCons (wVar 1) wNil)) (gDat 4) (wSeq (wApp 3 (wOp dMod (wVar 2) (wC (.int 2)))) (wSet 2 (wOp dFdiv (wVar 2) (wC (.int 2)))))) (wFrz 3 (wRet (wVar 3)))))
abbrev wf__law_digits : WF := wDef 5 w__law_digits
theorem ok__law_digits {f : Addr} {fd : FuncData} (F : Fun K "_law_digits" "_law_digits" s__law_digits f fd) (m_int : mg "int" = none) (c__law_power : Cal P w K mg base 1 "_law_power" 1 wf__law_power) (m_range : mg "range" = none) : FnG P w K mg base CX0 2 f fd ["number", "width"] (spF K 2 wf__law_digits) :=
  okF F sc__law_digits fun cdv A outer s H E hg hr =>
      (qss_cons (qs_parX (i := 2) (j := 3) sc__law_digits.nd rfl rfl rfl rfl (qx_dat (q_mod (q_intc (by rfl) m_int (qv_cons (q_own (pv 0)) qv_nil)) (q_call c__law_power hg hr (by decide) (by rfl) (qa_cons (q_var (pv 1)) qa_nil)))) (qx_own (qo_lst qa_nil)))
      (qss_cons (qs_for PassesOwn.never rfl (i_range1 (by rfl) m_range (qa_cons (q_var (pv 1)) qa_nil)) (g_name (pg_name (i := 4) sc__law_digits.nd rfl (by first | exact Or.inl rfl | exact Or.inr rfl))) (qss_cons (qs_append (i := 3) (pv 3) (q_mod (q_var (pv 2)) q_int) (fun tx px => ps_expr (pe_bm PySem.F.plainAttrs_list PySem.F.slot_list_append PySem.F.type_list_append mt_append (pv 3) (pa_cons px pa_nil))))
      (qss_one (qs_set (i := 2) (q_fdiv (q_var (pv 2)) q_int) (fun te h => ps_set (i := 2) sc__law_digits.nd rfl (by first | exact Or.inl rfl | exact Or.inr rfl) h)))))
      (qss_one (qs_frz 3 (qs_ret (q_var (pv 3)))))))
abbrev s_told_add : Stmt := topS 9
abbrev N_told_add : List Str := ["width", "one", "other"]
theorem sc_told_add : FnScope N_told_add ["width", "one", "other"] (defScope s_told_add) := ⟨rfl, rfl, rfl, by decide +kernel, rfl, by decide +kernel, by decide +kernel⟩
def w_told_add : WS := (wRet (wCall 2 wf_wrapped (wCons (wOp dAdd (wVar 1) (wVar 2)) (wCons (wVar 0) wNil))))
abbrev wf_told_add : WF := wDef 3 w_told_add
theorem ok_told_add {f : Addr} {fd : FuncData} (F : Fun K "told_add" "told_add" s_told_add f fd) (c_wrapped : Cal P w K mg base 1 "wrapped" 2 wf_wrapped) : FnG P w K mg base CX0 2 f fd ["width", "one", "other"] (spF K 3 wf_told_add) :=
  okF F sc_told_add fun cdv A outer s H E hg hr =>
      (qss_one (qs_ret (q_call c_wrapped hg hr (by decide) (by rfl) (qa_cons (q_add (q_var (pv 1)) (q_var (pv 2))) (qa_cons (q_var (pv 0)) qa_nil)))))
abbrev s_told_sub : Stmt := topS 10
abbrev N_told_sub : List Str := ["width", "one", "other"]
theorem sc_told_sub : FnScope N_told_sub ["width", "one", "other"] (defScope s_told_sub) := ⟨rfl, rfl, rfl, by decide +kernel, rfl, by decide +kernel, by decide +kernel⟩
def w_told_sub : WS := (wRet (wCall 2 wf_wrapped (wCons (wOp dSub (wVar 1) (wVar 2)) (wCons (wVar 0) wNil))))
abbrev wf_told_sub : WF := wDef 3 w_told_sub
theorem ok_told_sub {f : Addr} {fd : FuncData} (F : Fun K "told_sub" "told_sub" s_told_sub f fd) (c_wrapped : Cal P w K mg base 1 "wrapped" 2 wf_wrapped) : FnG P w K mg base CX0 2 f fd ["width", "one", "other"] (spF K 3 wf_told_sub) :=
  okF F sc_told_sub fun cdv A outer s H E hg hr =>
      (qss_one (qs_ret (q_call c_wrapped hg hr (by decide) (by rfl) (qa_cons (q_sub (q_var (pv 1)) (q_var (pv 2))) (qa_cons (q_var (pv 0)) qa_nil)))))
abbrev s_told_mul : Stmt := topS 11
abbrev N_told_mul : List Str := ["width", "one", "other"]
theorem sc_told_mul : FnScope N_told_mul ["width", "one", "other"] (defScope s_told_mul) := ⟨rfl, rfl, rfl, by decide +kernel, rfl, by decide +kernel, by decide +kernel⟩
def w_told_mul : WS := (wRet (wCall 2 wf_wrapped (wCons (wOp dMul (wVar 1) (wVar 2)) (wCons (wVar 0) wNil))))
abbrev wf_told_mul : WF := wDef 3 w_told_mul
theorem ok_told_mul {f : Addr} {fd : FuncData} (F : Fun K "told_mul" "told_mul" s_told_mul f fd) (c_wrapped : Cal P w K mg base 1 "wrapped" 2 wf_wrapped) : FnG P w K mg base CX0 2 f fd ["width", "one", "other"] (spF K 3 wf_told_mul) :=
  okF F sc_told_mul fun cdv A outer s H E hg hr =>
      (qss_one (qs_ret (q_call c_wrapped hg hr (by decide) (by rfl) (qa_cons (q_mul (q_var (pv 1)) (q_var (pv 2))) (qa_cons (q_var (pv 0)) qa_nil)))))
abbrev s_told_udiv : Stmt := topS 12
abbrev N_told_udiv : List Str := ["_", "one", "other"]
theorem sc_told_udiv : FnScope N_told_udiv ["_", "one", "other"] (defScope s_told_udiv) := ⟨rfl, rfl, rfl, by decide +kernel, rfl, by decide +kernel, by decide +kernel⟩
def w_told_udiv : WS := (wRet (wIf (wCmp dEq (wLook 2) (wC (.int 0))) (wC .none) (wOp dFdiv (wVar 1) (wVar 2))))
abbrev wf_told_udiv : WF := wDef 3 w_told_udiv
theorem ok_told_udiv {f : Addr} {fd : FuncData} (F : Fun K "told_udiv" "told_udiv" s_told_udiv f fd)  : FnG P w K mg base CX0 1 f fd ["_", "one", "other"] (spF K 3 wf_told_udiv) :=
  okF F sc_told_udiv fun cdv A outer s H E hg hr =>
      (qss_one (qs_ret (q_if (t_rel (c_eq (deep_of hr)) (q_own (pv 2)) (q_look q_int)) q_non (q_fdiv (q_var (pv 1)) (q_var (pv 2))))))
abbrev s_quotient : Stmt := topS 14
abbrev N_quotient : List Str := ["one", "other", "size"]
theorem sc_quotient : FnScope N_quotient ["one", "other"] (defScope s_quotient) := ⟨rfl, rfl, rfl, by decide +kernel, rfl, by decide +kernel, by decide +kernel⟩
def w_quotient : WS := (wSeq (wSet 2 (wOp dFdiv (wFn dAbs (wCons (wLook 0) wNil)) (wFn dAbs (wCons (wLook 1) wNil)))) (wRet (wIf (wCmp dEq (wBool (wCmp dLt (wLook 0) (wC (.int 0)))) (wBool (wCmp dLt (wLook 1) (wC (.int 0))))) (wVar 2) (wUn dNeg (wVar 2)))))
abbrev wf_quotient : WF := wDef 3 w_quotient
theorem ok_quotient {f : Addr} {fd : FuncData} (F : Fun K "quotient" "quotient" s_quotient f fd) (m_abs : mg "abs" = none) : FnG P w K mg base CX0 1 f fd ["one", "other"] (spF K 2 wf_quotient) :=
  okF F sc_quotient fun cdv A outer s H E hg hr =>
      (qss_cons (qs_set (i := 2) (q_fdiv (q_abs (by rfl) m_abs (qv_cons (q_own (pv 0)) qv_nil)) (q_abs (by rfl) m_abs (qv_cons (q_own (pv 1)) qv_nil))) (fun te h => ps_set (i := 2) sc_quotient.nd rfl (by first | exact Or.inl rfl | exact Or.inr rfl) h))
      (qss_one (qs_ret (q_if (t_rel (c_eq (deep_of hr)) (q_look (q_rel c_lt (q_own (pv 0)) (q_look q_int))) (q_look (q_rel c_lt (q_own (pv 1)) (q_look q_int)))) (q_var (pv 2)) (q_neg (q_var (pv 2)))))))
abbrev s_told_sdiv : Stmt := topS 15
abbrev N_told_sdiv : List Str := ["width", "one", "other"]
theorem sc_told_sdiv : FnScope N_told_sdiv ["width", "one", "other"] (defScope s_told_sdiv) := ⟨rfl, rfl, rfl, by decide +kernel, rfl, by decide +kernel, by decide +kernel⟩
def w_told_sdiv : WS := (wSeq (wIfS (wCmp dEq (wLook 2) (wC (.int 0))) (wRet (wC .none)) wNext) (wRet (wCall 2 wf_wrapped (wCons (wCall 2 wf_quotient (wCons (wCall 2 wf_signed (wCons (wVar 1) (wCons (wVar 0) wNil))) (wCons (wCall 2 wf_signed (wCons (wVar 2) (wCons (wVar 0) wNil))) wNil))) (wCons (wVar 0) wNil)))))
abbrev wf_told_sdiv : WF := wDef 3 w_told_sdiv
theorem ok_told_sdiv {f : Addr} {fd : FuncData} (F : Fun K "told_sdiv" "told_sdiv" s_told_sdiv f fd) (c_wrapped : Cal P w K mg base 1 "wrapped" 2 wf_wrapped) (c_quotient : Cal P w K mg base 1 "quotient" 2 wf_quotient) (c_signed : Cal P w K mg base 1 "signed" 2 wf_signed) : FnG P w K mg base CX0 2 f fd ["width", "one", "other"] (spF K 3 wf_told_sdiv) :=
  okF F sc_told_sdiv fun cdv A outer s H E hg hr =>
      (qss_cons (qs_if (t_rel (c_eq (deep_of hr)) (q_own (pv 2)) (q_look q_int)) (qss_one (qs_ret q_non)) qss_nil)
      (qss_one (qs_ret (q_call c_wrapped hg hr (by decide) (by rfl) (qa_cons (q_call c_quotient hg hr (by decide) (by rfl) (qa_cons (q_call c_signed hg hr (by decide) (by rfl) (qa_cons (q_var (pv 1)) (qa_cons (q_var (pv 0)) qa_nil))) (qa_cons (q_call c_signed hg hr (by decide) (by rfl) (qa_cons (q_var (pv 2)) (qa_cons (q_var (pv 0)) qa_nil))) qa_nil))) (qa_cons (q_var (pv 0)) qa_nil))))))
abbrev s_told_urem : Stmt := topS 13
abbrev N_told_urem : List Str := ["_", "one", "other"]
theorem sc_told_urem : FnScope N_told_urem ["_", "one", "other"] (defScope s_told_urem) := ⟨rfl, rfl, rfl, by decide +kernel, rfl, by decide +kernel, by decide +kernel⟩
def w_told_urem : WS := (wRet (wIf (wCmp dEq (wLook 2) (wC (.int 0))) (wC .none) (wOp dMod (wVar 1) (wVar 2))))
abbrev wf_told_urem : WF := wDef 3 w_told_urem
theorem ok_told_urem {f : Addr} {fd : FuncData} (F : Fun K "told_urem" "told_urem" s_told_urem f fd)  : FnG P w K mg base CX0 1 f fd ["_", "one", "other"] (spF K 3 wf_told_urem) :=
  okF F sc_told_urem fun cdv A outer s H E hg hr =>
      (qss_one (qs_ret (q_if (t_rel (c_eq (deep_of hr)) (q_own (pv 2)) (q_look q_int)) q_non (q_mod (q_var (pv 1)) (q_var (pv 2))))))
abbrev s_told_srem : Stmt := topS 16
abbrev N_told_srem : List Str := ["width", "one", "other", "first", "second"]
theorem sc_told_srem : FnScope N_told_srem ["width", "one", "other"] (defScope s_told_srem) := ⟨rfl, rfl, rfl, by decide +kernel, rfl, by decide +kernel, by decide +kernel⟩
def w_told_srem : WS := (wSeq (wIfS (wCmp dEq (wLook 2) (wC (.int 0))) (wRet (wC .none)) wNext) (wSeq (wSet 3 (wCall 2 wf_signed (wCons (wVar 1) (wCons (wVar 0) wNil)))) (wSeq (wSet 4 (wCall 2 wf_signed (wCons (wVar 2) (wCons (wVar 0) wNil)))) (wRet (wCall 2 wf_wrapped (wCons (wOp dSub (wVar 3) (wOp dMul (wVar 4) (wCall 2 wf_quotient (wCons (wVar 3) (wCons (wVar 4) wNil))))) (wCons (wVar 0) wNil)))))))
abbrev wf_told_srem : WF := wDef 5 w_told_srem
theorem ok_told_srem {f : Addr} {fd : FuncData} (F : Fun K "told_srem" "told_srem" s_told_srem f fd) (c_signed : Cal P w K mg base 1 "signed" 2 wf_signed) (c_wrapped : Cal P w K mg base 1 "wrapped" 2 wf_wrapped) (c_quotient : Cal P w K mg base 1 "quotient" 2 wf_quotient) : FnG P w K mg base CX0 2 f fd ["width", "one", "other"] (spF K 3 wf_told_srem) :=
  okF F sc_told_srem fun cdv A outer s H E hg hr =>
      (qss_cons (qs_if (t_rel (c_eq (deep_of hr)) (q_own (pv 2)) (q_look q_int)) (qss_one (qs_ret q_non)) qss_nil)
      (qss_cons (qs_set (i := 3) (q_call c_signed hg hr (by decide) (by rfl) (qa_cons (q_var (pv 1)) (qa_cons (q_var (pv 0)) qa_nil))) (fun te h => ps_set (i := 3) sc_told_srem.nd rfl (by first | exact Or.inl rfl | exact Or.inr rfl) h))
      (qss_cons (qs_set (i := 4) (q_call c_signed hg hr (by decide) (by rfl) (qa_cons (q_var (pv 2)) (qa_cons (q_var (pv 0)) qa_nil))) (fun te h => ps_set (i := 4) sc_told_srem.nd rfl (by first | exact Or.inl rfl | exact Or.inr rfl) h))
      (qss_one (qs_ret (q_call c_wrapped hg hr (by decide) (by rfl) (qa_cons (q_sub (q_var (pv 3)) (q_mul (q_var (pv 4)) (q_call c_quotient hg hr (by decide) (by rfl) (qa_cons (q_var (pv 3)) (qa_cons (q_var (pv 4)) qa_nil))))) (qa_cons (q_var (pv 0)) qa_nil))))))))
abbrev s_told_and : Stmt := topS 17
abbrev N_told_and : List Str := ["_", "one", "other"]
theorem sc_told_and : FnScope N_told_and ["_", "one", "other"] (defScope s_told_and) := ⟨rfl, rfl, rfl, by decide +kernel, rfl, by decide +kernel, by decide +kernel⟩
def w_told_and : WS := (wRet (wOp dAnd (wVar 1) (wVar 2)))
abbrev wf_told_and : WF := wDef 3 w_told_and
theorem ok_told_and {f : Addr} {fd : FuncData} (F : Fun K "told_and" "told_and" s_told_and f fd)  : FnG P w K mg base CX0 1 f fd ["_", "one", "other"] (spF K 3 wf_told_and) :=
  okF F sc_told_and fun cdv A outer s H E hg hr =>
      (qss_one (qs_ret (q_band (q_var (pv 1)) (q_var (pv 2)))))
abbrev s_told_or : Stmt := topS 18
abbrev N_told_or : List Str := ["_", "one", "other"]
theorem sc_told_or : FnScope N_told_or ["_", "one", "other"] (defScope s_told_or) := ⟨rfl, rfl, rfl, by decide +kernel, rfl, by decide +kernel, by decide +kernel⟩
def w_told_or : WS := (wRet (wOp dOr (wVar 1) (wVar 2)))
abbrev wf_told_or : WF := wDef 3 w_told_or
theorem ok_told_or {f : Addr} {fd : FuncData} (F : Fun K "told_or" "told_or" s_told_or f fd)  : FnG P w K mg base CX0 1 f fd ["_", "one", "other"] (spF K 3 wf_told_or) :=
  okF F sc_told_or fun cdv A outer s H E hg hr =>
      (qss_one (qs_ret (q_bor (q_var (pv 1)) (q_var (pv 2)))))
abbrev s_told_xor : Stmt := topS 19
abbrev N_told_xor : List Str := ["_", "one", "other"]
theorem sc_told_xor : FnScope N_told_xor ["_", "one", "other"] (defScope s_told_xor) := ⟨rfl, rfl, rfl, by decide +kernel, rfl, by decide +kernel, by decide +kernel⟩
def w_told_xor : WS := (wRet (wOp dXor (wVar 1) (wVar 2)))
abbrev wf_told_xor : WF := wDef 3 w_told_xor
theorem ok_told_xor {f : Addr} {fd : FuncData} (F : Fun K "told_xor" "told_xor" s_told_xor f fd)  : FnG P w K mg base CX0 1 f fd ["_", "one", "other"] (spF K 3 wf_told_xor) :=
  okF F sc_told_xor fun cdv A outer s H E hg hr =>
      (qss_one (qs_ret (q_bxor (q_var (pv 1)) (q_var (pv 2)))))
abbrev s_told_shl : Stmt := topS 20
abbrev N_told_shl : List Str := ["width", "one", "other"]
theorem sc_told_shl : FnScope N_told_shl ["width", "one", "other"] (defScope s_told_shl) := ⟨rfl, rfl, rfl, by decide +kernel, rfl, by decide +kernel, by decide +kernel⟩
def w_told_shl : WS := (wRet (wCall 2 wf_wrapped (wCons (wOp dShl (wVar 1) (wOp dMod (wVar 2) (wVar 0))) (wCons (wVar 0) wNil))))
abbrev wf_told_shl : WF := wDef 3 w_told_shl
theorem ok_told_shl {f : Addr} {fd : FuncData} (F : Fun K "told_shl" "told_shl" s_told_shl f fd) (c_wrapped : Cal P w K mg base 1 "wrapped" 2 wf_wrapped) : FnG P w K mg base CX0 2 f fd ["width", "one", "other"] (spF K 3 wf_told_shl) :=
  okF F sc_told_shl fun cdv A outer s H E hg hr =>
      (qss_one (qs_ret (q_call c_wrapped hg hr (by decide) (by rfl) (qa_cons (q_shl (q_var (pv 1)) (q_mod (q_var (pv 2)) (q_var (pv 0)))) (qa_cons (q_var (pv 0)) qa_nil)))))
abbrev s_told_lshr : Stmt := topS 21
abbrev N_told_lshr : List Str := ["width", "one", "other"]
theorem sc_told_lshr : FnScope N_told_lshr ["width", "one", "other"] (defScope s_told_lshr) := ⟨rfl, rfl, rfl, by decide +kernel, rfl, by decide +kernel, by decide +kernel⟩
def w_told_lshr : WS := (wRet (wOp dShr (wVar 1) (wOp dMod (wVar 2) (wVar 0))))
abbrev wf_told_lshr : WF := wDef 3 w_told_lshr
theorem ok_told_lshr {f : Addr} {fd : FuncData} (F : Fun K "told_lshr" "told_lshr" s_told_lshr f fd)  : FnG P w K mg base CX0 1 f fd ["width", "one", "other"] (spF K 3 wf_told_lshr) :=
  okF F sc_told_lshr fun cdv A outer s H E hg hr =>
      (qss_one (qs_ret (q_shr (q_var (pv 1)) (q_mod (q_var (pv 2)) (q_var (pv 0))))))
abbrev s_told_ashr : Stmt := topS 22
abbrev N_told_ashr : List Str := ["width", "one", "other"]
theorem sc_told_ashr : FnScope N_told_ashr ["width", "one", "other"] (defScope s_told_ashr) := ⟨rfl, rfl, rfl, by decide +kernel, rfl, by decide +kernel, by decide +kernel⟩
def w_told_ashr : WS := (wRet (wCall 2 wf_wrapped (wCons (wOp dShr (wCall 2 wf_signed (wCons (wVar 1) (wCons (wVar 0) wNil))) (wOp dMod (wVar 2) (wVar 0))) (wCons (wVar 0) wNil))))
abbrev wf_told_ashr : WF := wDef 3 w_told_ashr
theorem ok_told_ashr {f : Addr} {fd : FuncData} (F : Fun K "told_ashr" "told_ashr" s_told_ashr f fd) (c_wrapped : Cal P w K mg base 1 "wrapped" 2 wf_wrapped) (c_signed : Cal P w K mg base 1 "signed" 2 wf_signed) : FnG P w K mg base CX0 2 f fd ["width", "one", "other"] (spF K 3 wf_told_ashr) :=
  okF F sc_told_ashr fun cdv A outer s H E hg hr =>
      (qss_one (qs_ret (q_call c_wrapped hg hr (by decide) (by rfl) (qa_cons (q_shr (q_call c_signed hg hr (by decide) (by rfl) (qa_cons (q_var (pv 1)) (qa_cons (q_var (pv 0)) qa_nil))) (q_mod (q_var (pv 2)) (q_var (pv 0)))) (qa_cons (q_var (pv 0)) qa_nil)))))
abbrev s_bin_told : Stmt := topS 24
theorem sc_bin_told : FnScope ["op", "width", "one", "other", "action"] ["op", "width", "one", "other"] (defScope s_bin_told) := ⟨rfl, rfl, rfl, by decide +kernel, rfl, by decide +kernel, by decide +kernel⟩
theorem ok_bin_told {f p : Addr} {fd : FuncData} {k : Nat} (F : Fun K "bin_told" "bin_told" s_bin_told f fd) (hD : mg "BIN_ACTIONS" = some (.ref p)) (table : Str → Option WF) (hT : ∀ s wf, table s = some wf → ∃ g, KDct K w p s (.ref g) ∧ HeldG P w K mg base k g (spF K 3 wf)) :
    FnG P w K mg base CX0 (k + 1) f fd ["op", "width", "one", "other"] (spF K 4 (wTab table)) := by
  refine okG F sc_bin_told (fun vs H Q E h => ?_) fun cdv A outer s H vs Q E hg hr h => ?_
  · obtain ⟨B, ds, P, _, hd, hl, _⟩ := h
    rw [hd.len]; exact hl
  · obtain ⟨B, ds, PP, sm, hd, hl, ⟨s', rest, wf, rfl, ht, hw⟩, kk⟩ := h
    refine ⟨_, pss_cons (ps_set (i := 4) sc_bin_told.nd rfl (.inl rfl) (pe_ix ix_kdict (pe_glob (v := .ref p) (by rfl) hD rfl) (pv 0) (fun _ _ => rfl))) (pss_one (ps_ret (pe_callG (i := 4) hg hr rfl (.inl rfl) (pa_cons (pv 1) (pa_cons (pv 2) (pa_cons (pv 3) pa_nil)))))), ?_⟩
    have hl3 : rest.length = 3 := by simpa using hl
    match rest, hl3 with
    | [d1, d2, d3], _ =>
      cases hd with
      | cons h0 ht3 =>
        cases h0
        cases ht3 with
        | cons h1 ht2 =>
          cases ht2 with
          | cons h2 ht1 =>
            cases ht1 with
            | cons h3 ht0 =>
              cases ht0
              obtain ⟨g, hk, hh⟩ := hT s' wf ht
              refine ⟨.str s', rfl, p, s', .ref g, rfl, rfl, hk, g, _, rfl, hh, _, rfl, _, rfl, _, rfl, ?_⟩
              exact ⟨B, _, PP, sm, .cons h1 (.cons h2 (.cons h3 .nil)), rfl, hw, kk⟩

def bin_table : Str → Option WF := fun s => if s = "add" then some wf_told_add else if s = "sub" then some wf_told_sub else if s = "mul" then some wf_told_mul else if s = "udiv" then some wf_told_udiv else if s = "sdiv" then some wf_told_sdiv else if s = "urem" then some wf_told_urem else if s = "srem" then some wf_told_srem else if s = "and" then some wf_told_and else if s = "or" then some wf_told_or else if s = "xor" then some wf_told_xor else if s = "shl" then some wf_told_shl else if s = "lshr" then some wf_told_lshr else if s = "ashr" then some wf_told_ashr else none
abbrev wf_bin_told : WF := wTab bin_table
abbrev s__law_times : Stmt := topS 35
abbrev N__law_times : List Str := ["one", "other", "width", "pieces", "found", "turn", "rest", "at"]
theorem sc__law_times : FnScope N__law_times ["one", "other", "width"] (defScope s__law_times) := ⟨rfl, rfl, rfl, by decide +kernel, rfl, by decide +kernel, by decide +kernel⟩
def w__law_times : WS := (wSeq (wPar 3 4 (xOwn (wLst (wCons (wVar 1) wNil))) (xDat (wC (.int 0)))) (wSeq (wFor (wRange1 (wCons (wVar 2) wNil)) (gDat 5) (wApp 3 (wOp dAdd (wIxN 3 (wUn dNeg (wC (.int 1)))) (wIxN 3 (wUn dNeg (wC (.int 1))))))) (wSeq (wSet 6 (wVar 0)) (wSeq (wFor (wList (wOfO (wRevO (wOfO (wListRg (wOp dAdd (wVar 2) (wC (.int 1)))))))) (gDat 7) (wIfS (wCmp dLe (wIxN 3 (wVar 7)) (wLook 6)) (wPar 6 4 (xDat (wOp dSub (wVar 6) (wIxN 3 (wVar 7)))) (xDat (wOp dAdd (wVar 4) (wCall 1 wf__law_power (wCons (wVar 7) wNil))))) wNext)) (wRet (wVar 4))))))
abbrev wf__law_times : WF := wDef 8 w__law_times
theorem ok__law_times {f : Addr} {fd : FuncData} (F : Fun K "_law_times" "_law_times" s__law_times f fd) (m_range : mg "range" = none) (m_list : mg "list" = none) (c__law_power : Cal P w K mg base 1 "_law_power" 1 wf__law_power) : FnG P w K mg base CX0 2 f fd ["one", "other", "width"] (spF K 3 wf__law_times) :=
  okF F sc__law_times fun cdv A outer s H E hg hr =>
      (qss_cons (qs_parX (i := 3) (j := 4) sc__law_times.nd rfl rfl rfl rfl (qx_own (qo_lst (qa_cons (q_var (pv 1)) qa_nil))) (qx_dat q_int))
      (qss_cons (qs_for PassesOwn.never rfl (i_range1 (by rfl) m_range (qa_cons (q_var (pv 2)) qa_nil)) (g_name (pg_name (i := 5) sc__law_times.nd rfl (by first | exact Or.inl rfl | exact Or.inr rfl))) (qss_one (qs_append (i := 3) (pv 3) (q_add (q_ixN (pv 3) (q_neg q_int)) (q_ixN (pv 3) (q_neg q_int))) (fun tx px => ps_expr (pe_bm PySem.F.plainAttrs_list PySem.F.slot_list_append PySem.F.type_list_append mt_append (pv 3) (pa_cons px pa_nil))))))
      (qss_cons (qs_set (i := 6) (q_var (pv 0)) (fun te h => ps_set (i := 6) sc__law_times.nd rfl (by first | exact Or.inl rfl | exact Or.inr rfl) h))
      (qss_cons (qs_for PassesOwn.never rfl (i_list (q_ofO (qo_rev (q_ofO (qo_listRg rfl (by rfl) m_list (by rfl) m_range (q_add (q_var (pv 2)) q_int)))))) (g_name (pg_name (i := 7) sc__law_times.nd rfl (by first | exact Or.inl rfl | exact Or.inr rfl))) (qss_one (qs_if (t_rel c_le (q_look (q_ixN (pv 3) (q_var (pv 7)))) (q_own (pv 6))) (qss_one (qs_parX (i := 6) (j := 4) sc__law_times.nd rfl rfl rfl rfl (qx_dat (q_sub (q_var (pv 6)) (q_ixN (pv 3) (q_var (pv 7))))) (qx_dat (q_add (q_var (pv 4)) (q_call c__law_power hg hr (by decide) (by rfl) (qa_cons (q_var (pv 7)) qa_nil)))))) qss_nil)))
      (qss_one (qs_ret (q_var (pv 4))))))))
abbrev s__law_due : Stmt := topS 36
abbrev N__law_due : List Str := ["op", "width", "one", "other", "first", "second", "a", "b", "times", "wanted", "by"]
theorem sc__law_due : FnScope N__law_due ["op", "width", "one", "other"] (defScope s__law_due) := ⟨rfl, rfl, rfl, by decide +kernel, rfl, by decide +kernel, by decide +kernel⟩
def w__law_due : WS := (wSeq (wPar 4 5 (xDat (wCall 2 wf__law_digits (wCons (wVar 2) (wCons (wVar 1) wNil)))) (xDat (wCall 2 wf__law_digits (wCons (wVar 3) (wCons (wVar 1) wNil))))) (wSeq (wIfS (wCmp dIn (wLook 0) (wOfO (wLst (wCons (wC (.str "add")) (wCons (wC (.str "sub")) (wCons (wC (.str "mul")) wNil)))))) (wRet (wCall 1 wf__law_back (wCons (wCall 2 wf__law_digits (wCons (wIf (wCmp dEq (wLook 0) (wC (.str "add"))) (wOp dAdd (wVar 2) (wVar 3)) (wIf (wCmp dEq (wLook 0) (wC (.str "sub"))) (wOp dSub (wVar 2) (wVar 3)) (wOp dMul (wVar 2) (wVar 3)))) (wCons (wVar 1) wNil))) wNil))) wNext) (wSeq (wIfS (wCmp dIn (wLook 0) (wOfO (wLst (wCons (wC (.str "udiv")) (wCons (wC (.str "urem")) (wCons (wC (.str "sdiv")) (wCons (wC (.str "srem")) wNil))))))) (wSeq (wIfS (wCmp dEq (wLook 3) (wC (.int 0))) (wRet (wC .none)) wNext) (wSeq (wAsg (wIf (wCmp dEq (wIxN 0 (wC (.int 0))) (wC (.str "u"))) (wTup (wCons (wVar 2) (wCons (wVar 3) wNil))) (wTup (wCons (wCall 1 wf__law_read (wCons (wVar 4) wNil)) (wCons (wCall 1 wf__law_read (wCons (wVar 5) wNil)) wNil)))) (gTupW 2 (gConsW (gDat 6) (gConsW (gDat 7) gNilW)))) (wSeq (wSet 8 (wCall 3 wf__law_times (wCons (wFn dAbs (wCons (wLook 6) wNil)) (wCons (wFn dAbs (wCons (wLook 7) wNil)) (wCons (wVar 1) wNil))))) (wSeq (wSet 8 (wIf (wCmp dEq (wBool (wCmp dLt (wLook 6) (wC (.int 0)))) (wBool (wCmp dLt (wLook 7) (wC (.int 0))))) (wVar 8) (wOp dSub (wC (.int 0)) (wVar 8)))) (wRet (wCall 1 wf__law_back (wCons (wCall 2 wf__law_digits (wCons (wIf (wCmp dEq (wSl (wVar 0) (wPart (wC (.int 1))) wNoPart) (wC (.str "div"))) (wVar 8) (wOp dSub (wVar 6) (wOp dMul (wVar 7) (wVar 8)))) (wCons (wVar 1) wNil))) wNil))))))) wNext) (wSeq (wIfS (wCmp dIn (wLook 0) (wOfO (wLst (wCons (wC (.str "and")) (wCons (wC (.str "or")) (wCons (wC (.str "xor")) wNil)))))) (wSeq (wSet 9 (wDicAt ["and", "or", "xor"] (wCons (wOfO (wLst (wCons (wC (.int 2)) wNil))) (wCons (wOfO (wLst (wCons (wC (.int 1)) (wCons (wC (.int 2)) wNil)))) (wCons (wOfO (wLst (wCons (wC (.int 1)) wNil))) wNil))) (wVar 0))) (wRet (wCall 1 wf__law_back (wCons (wOfO (wLc (wZip (wCons (wVar 4) (wCons (wVar 5) wNil))) (gTupW 2 (gConsW (gDat 6) (gConsW (gDat 7) gNilW))) wYes (wIf (wCmp dIn (wOp dAdd (wVar 6) (wVar 7)) (wLook 9)) (wC (.int 1)) (wC (.int 0))) [6, 7])) wNil)))) wNext) (wSeq (wSet 10 (wOp dMod (wFn dInt (wCons (wLook 3) wNil)) (wVar 1))) (wSeq (wIfS (wCmp dEq (wLook 0) (wC (.str "shl"))) (wRet (wCall 1 wf__law_back (wCons (wSl (wOp dAdd (wOp dRep (wOfO (wLst (wCons (wC (.int 0)) wNil))) (wVar 10)) (wVar 4)) wNoPart (wPart (wVar 1))) wNil))) wNext) (wRet (wCall 1 wf__law_back (wCons (wSl (wOp dAdd (wVar 4) (wOp dRep (wOfO (wLst (wCons (wIf (wCmp dEq (wLook 0) (wC (.str "ashr"))) (wIxN 4 (wUn dNeg (wC (.int 1)))) (wC (.int 0))) wNil))) (wVar 10))) (wPart (wVar 10)) wNoPart) wNil)))))))))
abbrev wf__law_due : WF := wDef 11 w__law_due
theorem ok__law_due {f : Addr} {fd : FuncData} (F : Fun K "_law_due" "_law_due" s__law_due f fd) (c__law_digits : Cal P w K mg base 2 "_law_digits" 2 wf__law_digits) (c__law_back : Cal P w K mg base 1 "_law_back" 1 wf__law_back) (c__law_read : Cal P w K mg base 1 "_law_read" 1 wf__law_read) (c__law_times : Cal P w K mg base 2 "_law_times" 3 wf__law_times) (m_abs : mg "abs" = none) (m_zip : mg "zip" = none) (m_int : mg "int" = none) : FnG P w K mg base CX0 3 f fd ["op", "width", "one", "other"] (spF K 4 wf__law_due) :=
  okF F sc__law_due fun cdv A outer s H E hg hr =>
      (qss_cons (qs_parX (i := 4) (j := 5) sc__law_due.nd rfl rfl rfl rfl (qx_dat (q_call c__law_digits hg hr (by decide) (by rfl) (qa_cons (q_var (pv 2)) (qa_cons (q_var (pv 1)) qa_nil)))) (qx_dat (q_call c__law_digits hg hr (by decide) (by rfl) (qa_cons (q_var (pv 3)) (qa_cons (q_var (pv 1)) qa_nil)))))
      (qss_cons (qs_if (t_rel (c_in (deep_of hr)) (q_own (pv 0)) (q_look (q_ofO (qo_lst (qa_cons q_str (qa_cons q_str (qa_cons q_str qa_nil))))))) (qss_one (qs_ret (q_call c__law_back hg hr (by decide) (by rfl) (qa_cons (q_call c__law_digits hg hr (by decide) (by rfl) (qa_cons (q_if (t_rel (c_eq (deep_of hr)) (q_own (pv 0)) (q_look q_str)) (q_add (q_var (pv 2)) (q_var (pv 3))) (q_if (t_rel (c_eq (deep_of hr)) (q_own (pv 0)) (q_look q_str)) (q_sub (q_var (pv 2)) (q_var (pv 3))) (q_mul (q_var (pv 2)) (q_var (pv 3))))) (qa_cons (q_var (pv 1)) qa_nil))) qa_nil)))) qss_nil)
      (qss_cons (qs_if (t_rel (c_in (deep_of hr)) (q_own (pv 0)) (q_look (q_ofO (qo_lst (qa_cons q_str (qa_cons q_str (qa_cons q_str (qa_cons q_str qa_nil)))))))) (qss_cons (qs_if (t_rel (c_eq (deep_of hr)) (q_own (pv 3)) (q_look q_int)) (qss_one (qs_ret q_non)) qss_nil)
      (qss_cons (qs_asg (q_if (t_rel (c_eq (deep_of hr)) (q_look (q_ixN (pv 0) q_int)) (q_look q_str)) (q_tup (qa_cons (q_var (pv 2)) (qa_cons (q_var (pv 3)) qa_nil))) (q_tup (qa_cons (q_call c__law_read hg hr (by decide) (by rfl) (qa_cons (q_var (pv 4)) qa_nil)) (qa_cons (q_call c__law_read hg hr (by decide) (by rfl) (qa_cons (q_var (pv 5)) qa_nil)) qa_nil)))) (g_tup rfl (gs_cons (g_name (pg_name (i := 6) sc__law_due.nd rfl (by first | exact Or.inl rfl | exact Or.inr rfl))) (gs_cons (g_name (pg_name (i := 7) sc__law_due.nd rfl (by first | exact Or.inl rfl | exact Or.inr rfl))) gs_nil))))
      (qss_cons (qs_set (i := 8) (q_call c__law_times hg hr (by decide) (by rfl) (qa_cons (q_abs (by rfl) m_abs (qv_cons (q_own (pv 6)) qv_nil)) (qa_cons (q_abs (by rfl) m_abs (qv_cons (q_own (pv 7)) qv_nil)) (qa_cons (q_var (pv 1)) qa_nil)))) (fun te h => ps_set (i := 8) sc__law_due.nd rfl (by first | exact Or.inl rfl | exact Or.inr rfl) h))
      (qss_cons (qs_set (i := 8) (q_if (t_rel (c_eq (deep_of hr)) (q_look (q_rel c_lt (q_own (pv 6)) (q_look q_int))) (q_look (q_rel c_lt (q_own (pv 7)) (q_look q_int)))) (q_var (pv 8)) (q_sub q_int (q_var (pv 8)))) (fun te h => ps_set (i := 8) sc__law_due.nd rfl (by first | exact Or.inl rfl | exact Or.inr rfl) h))
      (qss_one (qs_ret (q_call c__law_back hg hr (by decide) (by rfl) (qa_cons (q_call c__law_digits hg hr (by decide) (by rfl) (qa_cons (q_if (t_rel (c_eq (deep_of hr)) (q_look (q_slice (q_var (pv 0)) (p_some q_int) p_none)) (q_look q_str)) (q_var (pv 8)) (q_sub (q_var (pv 6)) (q_mul (q_var (pv 7)) (q_var (pv 8))))) (qa_cons (q_var (pv 1)) qa_nil))) qa_nil)))))))) qss_nil)
      (qss_cons (qs_if (t_rel (c_in (deep_of hr)) (q_own (pv 0)) (q_look (q_ofO (qo_lst (qa_cons q_str (qa_cons q_str (qa_cons q_str qa_nil))))))) (qss_cons (qs_set (i := 9) (q_dicAt (dget_room hr) (qps_cons (q_ofO (qo_lst (qa_cons q_int qa_nil))) (qps_cons (q_ofO (qo_lst (qa_cons q_int (qa_cons q_int qa_nil)))) (qps_cons (q_ofO (qo_lst (qa_cons q_int qa_nil))) qps_nil))) (q_var (pv 0))) (fun te h => ps_set (i := 9) sc__law_due.nd rfl (by first | exact Or.inl rfl | exact Or.inr rfl) h))
      (qss_one (qs_ret (q_call c__law_back hg hr (by decide) (by rfl) (qa_cons (q_ofO (qo_lc (own := [("a", 6), ("b", 7)]) rfl sc__law_due.nd (i_zip (by rfl) m_zip (qa_cons (q_var (pv 4)) (qa_cons (q_var (pv 5)) qa_nil))) (blkOk_by (own := [("a", 6), ("b", 7)]) (N := N__law_due) (sc := defScope s__law_due) (by decide +kernel)) (fun _ _ _ _ _ => (g_tup rfl (gs_cons (g_name (pg_name (i := 6) sc__law_due.nd rfl (by first | exact Or.inl rfl | exact Or.inr rfl))) (gs_cons (g_name (pg_name (i := 7) sc__law_due.nd rfl (by first | exact Or.inl rfl | exact Or.inr rfl))) gs_nil)))) (fun _ _ _ _ _ => ts_nil) (fun _ _ _ _ _ => (q_if (t_rel (c_in (deep_of hr)) (q_look (q_add (q_var (pv 6)) (q_var (pv 7)))) (q_own (pv 9))) q_int q_int)))) qa_nil))))) qss_nil)
      (qss_cons (qs_set (i := 10) (q_mod (q_intc (by rfl) m_int (qv_cons (q_own (pv 3)) qv_nil)) (q_var (pv 1))) (fun te h => ps_set (i := 10) sc__law_due.nd rfl (by first | exact Or.inl rfl | exact Or.inr rfl) h))
      (qss_cons (qs_if (t_rel (c_eq (deep_of hr)) (q_own (pv 0)) (q_look q_str)) (qss_one (qs_ret (q_call c__law_back hg hr (by decide) (by rfl) (qa_cons (q_slice (q_add (q_rep (q_ofO (qo_lst (qa_cons q_int qa_nil))) (q_var (pv 10))) (q_var (pv 4))) p_none (p_some (q_var (pv 1)))) qa_nil)))) qss_nil)
      (qss_one (qs_ret (q_call c__law_back hg hr (by decide) (by rfl) (qa_cons (q_slice (q_add (q_var (pv 4)) (q_rep (q_ofO (qo_lst (qa_cons (q_if (t_rel (c_eq (deep_of hr)) (q_own (pv 0)) (q_look q_str)) (q_ixN (pv 4) (q_neg q_int)) q_int) qa_nil))) (q_var (pv 10)))) (p_some (q_var (pv 10))) p_none) qa_nil))))))))))
abbrev s_law : Stmt := topS 37
abbrev N_law : List Str := ["script", "deal", "names", "turn", "width", "one", "other", "op", "great", "odd"]
theorem sc_law : FnScope N_law ["script"] (defScope s_law) := ⟨rfl, rfl, rfl, by decide +kernel, rfl, by decide +kernel, by decide +kernel⟩
def w_law : WS := (wSeq (wSet 2 (wTup (wCons (wC (.str "add")) (wCons (wC (.str "sub")) (wCons (wC (.str "mul")) (wCons (wC (.str "udiv")) (wCons (wC (.str "sdiv")) (wCons (wC (.str "urem")) (wCons (wC (.str "srem")) (wCons (wC (.str "and")) (wCons (wC (.str "or")) (wCons (wC (.str "xor")) (wCons (wC (.str "shl")) (wCons (wC (.str "lshr")) (wCons (wC (.str "ashr")) wNil))))))))))))))) (wSeq (wIfS (wCmp dNe (wFn dRepr (wCons (wTup (wCons (wC (.tuple [(.str "add"), (.str "sub"), (.str "mul"), (.str "udiv"), (.str "sdiv"), (.str "urem"), (.str "srem"), (.str "and"), (.str "or"), (.str "xor"), (.str "shl"), (.str "lshr"), (.str "ashr")])) (wCons (wC (.tuple [(.int 1), (.int 8), (.int 16), (.int 32), (.int 64)])) wNil))) wNil)) (wFn dRepr (wCons (wTup (wCons (wVar 2) (wCons (wTup (wCons (wC (.int 1)) (wCons (wC (.int 8)) (wCons (wC (.int 16)) (wCons (wC (.int 32)) (wCons (wC (.int 64)) wNil)))))) wNil))) wNil))) (wRet (wC (.bool false))) wNext) (wSeq (wFor (wRange1 (wCons (wC (.int 4)) wNil)) (gDat 3) (wSeq (wSet 4 (wCallD 1 1 wf__law_of (wCons (wOfO (wLst (wCons (wC (.int 1)) (wCons (wC (.int 8)) (wCons (wC (.int 16)) (wCons (wC (.int 32)) (wCons (wC (.int 64)) wNil))))))) wNil))) (wSeq (wPar 5 6 (xDat (wCallD 1 1 wf__law_number (wCons (wVar 4) wNil))) (xDat (wCallD 1 1 wf__law_number (wCons (wVar 4) wNil)))) (wSeq (wIfS (wOr (wCmp dIsNot (wCallK 2 2 [1, 0] wf_is_of_width (wCons (wVar 4) (wCons (wVar 5) wNil))) (wC (.bool true))) (wCmp dIsNot (wCallK 1 1 [0] wf_is_width (wCons (wVar 4) wNil)) (wC (.bool true)))) (wRet (wC (.bool false))) wNext) (wSeq (wIfS (wCmp dNe (wFn dRepr (wCons (wCallK 2 2 [1, 0] wf_signed (wCons (wVar 4) (wCons (wVar 5) wNil))) wNil)) (wFn dRepr (wCons (wCall 1 wf__law_read (wCons (wCall 2 wf__law_digits (wCons (wVar 5) (wCons (wVar 4) wNil))) wNil)) wNil))) (wRet (wC (.bool false))) wNext) (wSeq (wFor (wTupI (wVar 2)) (gDat 7) (wIfS (wCmp dNe (wFn dRepr (wCons (wCallK 4 4 [3, 2, 1, 0] wf_bin_told (wCons (wVar 6) (wCons (wVar 5) (wCons (wVar 4) (wCons (wVar 7) wNil))))) wNil)) (wFn dRepr (wCons (wCall 4 wf__law_due (wCons (wVar 7) (wCons (wVar 4) (wCons (wVar 5) (wCons (wVar 6) wNil))))) wNil))) (wRet (wC (.bool false))) wNext)) (wSeq (wSet 8 (wCallD 1 1 wf__law_of (wCons (wOfO (wLst (wCons (wOp dMul (wVar 5) (wVar 6)) (wCons (wOp dSub (wOp dPow (wC (.int 10)) (wC (.int 39))) (wCallD 1 1 wf__law_any (wCons (wOp dPow (wC (.int 10)) (wC (.int 20))) wNil))) (wCons (wOp dSub (wC (.int 0)) (wCallD 1 1 wf__law_any (wCons (wOp dPow (wC (.int 10)) (wC (.int 39))) wNil))) (wCons (wOp dSub (wVar 5) (wCall 1 wf__law_power (wCons (wVar 4) wNil))) wNil)))))) wNil))) (wSeq (wIfS (wCmp dNe (wFn dRepr (wCons (wCallK 2 2 [1, 0] wf_wrapped (wCons (wVar 4) (wCons (wVar 8) wNil))) wNil)) (wFn dRepr (wCons (wCall 1 wf__law_back (wCons (wCall 2 wf__law_digits (wCons (wVar 8) (wCons (wVar 4) wNil))) wNil)) wNil))) (wRet (wC (.bool false))) wNext) (wSeq (wSet 9 (wCallD 1 1 wf__law_of (wCons (wOfO (wLst (wCons (wCall 1 wf__law_power (wCons (wVar 4) wNil)) (wCons (wUn dNeg (wC (.int 1))) (wCons (wC (.bool true)) (wCons (wC (.bool false)) (wCons (wC .none) (wCons (wC (.str "1")) (wCons (wTup (wCons (wC (.int 1)) wNil)) (wCons (wOp dPow (wC (.int 10)) (wC (.int 30))) wNil)))))))))) wNil))) (wIfS (wOr (wCmp dIsNot (wCall 2 wf_is_of_width (wCons (wVar 9) (wCons (wVar 4) wNil))) (wC (.bool false))) (wCmp dIsNot (wCall 1 wf_is_width (wCons (wCallD 1 1 wf__law_of (wCons (wOfO (wLst (wCons (wC (.int 0)) (wCons (wC (.int 2)) (wCons (wC (.int 7)) (wCons (wC (.int 128)) (wCons (wUn dNeg (wC (.int 8))) (wCons (wC (.bool true)) (wCons (wC .none) (wCons (wC (.str "8")) (wCons (wTup (wCons (wC (.int 8)) wNil)) wNil))))))))))) wNil)) wNil)) (wC (.bool false)))) (wRet (wC (.bool false))) wNext)))))))))) (wRet (wC (.bool true))))))
end
end K01

namespace K01
open PySem PySem.Spec PyProof.Rows L2 Lay
theorem of_spec {ds : List PyData} {P : PyData → Prop} (h0 : 0 < ds.length) (h1 : ds.length < 1000000) (h : ∀ x ∈ ds, P x) : wf__law_of [.list ds] P := by
  refine .inl ⟨_, rfl, rfl, _, .inl rfl, rfl, any_spec (by omega) (by omega) fun r hr => ?_⟩
  have hr : r < ds.length := by omega
  exact ⟨ds[r], atI_nat (List.getElem?_eq_getElem hr), h _ (List.getElem_mem hr)⟩
def Wd (w : Nat) : Prop := w = 1 ∨ w = 8 ∨ w = 16 ∨ w = 32 ∨ w = 64
theorem Wd.lt {w : Nat} (h : Wd w) : 1 ≤ w ∧ w ≤ 64 := by unfold Wd at h; omega
theorem top_le {w : Nat} (h : Wd w) : 2 ≤ (2 : Int) ^ w ∧ (2 : Int) ^ w ≤ 18446744073709551616 := by
  rcases h with rfl | rfl | rfl | rfl | rfl <;> exact ⟨by decide, by decide⟩
theorem InW.lt {w : Nat} {n : Int} (hw : Wd w) (h : InW w n) : 0 ≤ n ∧ n < 18446744073709551616 := ⟨h.1, Int.lt_of_lt_of_le h.2 (top_le hw).2⟩
theorem shl_one {w : Nat} {P : PyData → Prop} (h : w ≤ 1000) (k : P (.int (2 ^ w))) : dShl (.int 1) (.int (w : Int)) P := by
  refine ⟨⟨by omega, by omega, by decide⟩, ?_⟩
  show P (.int (1 * 2 ^ w))
  rw [Int.one_mul]
  exact k
theorem shl_sub {w : Nat} {P : PyData → Prop} (h : w ≤ 1000) (h1 : 1 ≤ w) (k : P (.int (2 ^ (w - 1)))) : dShl (.int 1) (.int ((w : Int) - 1)) P := by
  rw [show ((w : Int) - 1) = ((w - 1 : Nat) : Int) by omega]
  exact shl_one (by omega) k
theorem power_spec {w : Nat} {P : PyData → Prop} (h : w ≤ 1000) (k : P (.int (2 ^ w))) : wf__law_power [.int (w : Int)] P := ⟨_, rfl, shl_one h k⟩
theorem wrapped_spec {w : Nat} {n : Int} {P : PyData → Prop} (h : w ≤ 1000) (k : P (.int (n % 2 ^ w))) : wf_wrapped [.int n, .int (w : Int)] P := ⟨_, rfl, _, rfl, shl_one h ⟨pow2_pos w, k⟩⟩
theorem signed_spec {w : Nat} {n : Int} {P : PyData → Prop} (h : w ≤ 1000) (h1 : 1 ≤ w) (k : P (.int (sgnd w n))) : wf_signed [.int n, .int (w : Int)] P := by
  refine ⟨_, .inl rfl, _, rfl, ?_⟩
  refine ⟨trivial, shl_sub h h1 (d_lt ?_)⟩
  unfold sgnd at k
  by_cases z : n < 2 ^ (w - 1)
  · rw [decide_eq_true z]
    rw [if_pos z] at k
    exact iteT ⟨_, rfl, k⟩
  · rw [decide_eq_false z]
    rw [if_neg z] at k
    exact iteF ⟨_, rfl, _, rfl, shl_one h ⟨trivial, k⟩⟩
/-! ### the program's thirteen -/
theorem mul_ok {i j : Int} (h : -(18446744073709551616) < i ∧ i < 18446744073709551616) : CMulA i j := .inl (.inl h)
theorem add_told {w : Nat} {a b : Int} {P : PyData → Prop} (h : w ≤ 1000) (k : P (.int ((a + b) % 2 ^ w))) : wf_told_add [.int (w : Int), .int a, .int b] P := ⟨_, rfl, _, rfl, _, rfl, rfl, wrapped_spec h k⟩
theorem sub_told {w : Nat} {a b : Int} {P : PyData → Prop} (h : w ≤ 1000) (k : P (.int ((a - b) % 2 ^ w))) : wf_told_sub [.int (w : Int), .int a, .int b] P := ⟨_, rfl, _, rfl, trivial, _, rfl, rfl, wrapped_spec h k⟩
theorem mul_told {w : Nat} {a b : Int} {P : PyData → Prop} (h : w ≤ 1000) (ha : 0 ≤ a ∧ a < 18446744073709551616) (k : P (.int ((a * b) % 2 ^ w))) : wf_told_mul [.int (w : Int), .int a, .int b] P := ⟨_, rfl, _, rfl, mul_ok ⟨by omega, ha.2⟩, _, rfl, rfl, wrapped_spec h k⟩
theorem div_ok {j : Int} (h0 : 0 < j) (h1 : j ≤ 18446744073709551616) : CDivW 0 j := by
  refine ⟨h0, ?_⟩
  have : j.natAbs < 2 ^ 65 := by omega
  exact Nat.lt_trans ((Nat.log2_lt (by omega)).mpr this) (by decide)
theorem isz {b : Int} {P : Bool → Prop} (k : P (decide (b = 0))) : dEq (.int b) (.int 0) P := ⟨rfl, rfl, k⟩
theorem udiv_told {w : Nat} {a b : Int} {P : PyData → Prop} (hb : 0 ≤ b ∧ b < 18446744073709551616) (k : P (if b = 0 then .none else .int (a / b))) : wf_told_udiv [.int (w : Int), .int a, .int b] P := by
  refine ⟨_, .inl rfl, rfl, rfl, ?_⟩
  rw [eqv_one]
  by_cases z : b = 0
  · rw [if_pos z] at k; rw [decide_eq_true z]; exact iteT k
  · rw [if_neg z] at k; rw [decide_eq_false z]; exact iteF ⟨_, rfl, _, rfl, div_ok (by omega) (by omega), k⟩
theorem urem_told {w : Nat} {a b : Int} {P : PyData → Prop} (hb : 0 ≤ b) (k : P (if b = 0 then .none else .int (a % b))) : wf_told_urem [.int (w : Int), .int a, .int b] P := by
  refine ⟨_, .inl rfl, rfl, rfl, ?_⟩
  rw [eqv_one]
  by_cases z : b = 0
  · rw [if_pos z] at k; rw [decide_eq_true z]; exact iteT k
  · rw [if_neg z] at k; rw [decide_eq_false z]; exact iteF ⟨_, rfl, _, rfl, (show 0 < b by omega), k⟩
def ab (i : Int) : Int := if i < 0 then -i else i
def quo (x y : Int) : Int := if decide (x < 0) = decide (y < 0) then ab x / ab y else -(ab x / ab y)
theorem quo_spec {x y : Int} {P : PyData → Prop} (hy : y ≠ 0) (hy2 : -18446744073709551616 ≤ y ∧ y ≤ 18446744073709551616) (k : P (.int (quo x y))) : wf_quotient [.int x, .int y] P := by
  have hab : 0 < ab y ∧ ab y ≤ 18446744073709551616 := by unfold ab; split <;> omega
  refine ⟨_, .inl rfl, _, .inl rfl, div_ok hab.1 hab.2, ?_⟩
  refine ⟨_, .inl rfl, d_lt ⟨_, .inl rfl, d_lt ?_⟩⟩
  refine ⟨Sh.bool.shaped (n := 0), Sh.bool.shaped (n := 0), ?_⟩
  unfold quo at k
  have e : PyData.eqv (.bool (decide (x < 0))) (.bool (decide (y < 0))) = decide (decide (x < 0) = decide (y < 0)) := by cases decide (x < 0) <;> cases decide (y < 0) <;> rfl
  rw [e]
  by_cases z : decide (x < 0) = decide (y < 0)
  · rw [if_pos z] at k; rw [decide_eq_true z]; exact iteT ⟨_, rfl, k⟩
  · rw [if_neg z] at k; rw [decide_eq_false z]; exact iteF ⟨_, rfl, k⟩
theorem sgnd_ne {w : Nat} {b : Int} (h : InW w b) (hb : b ≠ 0) : sgnd w b ≠ 0 := by
  unfold sgnd
  have := h.1
  have := h.2
  split <;> omega
theorem sgnd_bd {w : Nat} {b : Int} (hw : Wd w) (h : InW w b) : -18446744073709551616 < sgnd w b ∧ sgnd w b < 18446744073709551616 := by
  unfold sgnd
  have h1 := h.1
  have h2 := h.2
  have h3 := (top_le hw).2
  have h4 := pow_pred hw.lt.1
  split <;> omega
theorem sdiv_told {w : Nat} {a b : Int} {P : PyData → Prop} (hw : Wd w) (hb : InW w b) (k : P (if b = 0 then .none else .int (quo (sgnd w a) (sgnd w b) % 2 ^ w))) : wf_told_sdiv [.int (w : Int), .int a, .int b] P := by
  have := hw.lt
  refine ⟨_, .inl rfl, rfl, rfl, ?_⟩
  rw [eqv_one]
  by_cases z : b = 0
  · rw [if_pos z] at k; rw [decide_eq_true z]; exact iteT k
  · rw [if_neg z] at k; rw [decide_eq_false z]
    have hs := sgnd_bd hw hb
    exact iteF ⟨_, rfl, _, rfl, rfl, signed_spec (by omega) (by omega) ⟨_, rfl, _, rfl, rfl, signed_spec (by omega) (by omega) ⟨rfl, quo_spec (sgnd_ne hb z) (by omega) ⟨_, rfl, rfl, wrapped_spec (by omega) k⟩⟩⟩⟩
theorem srem_told {w : Nat} {a b : Int} {P : PyData → Prop} (hw : Wd w) (hb : InW w b) (k : P (if b = 0 then .none else .int ((sgnd w a - sgnd w b * quo (sgnd w a) (sgnd w b)) % 2 ^ w))) : wf_told_srem [.int (w : Int), .int a, .int b] P := by
  have := hw.lt
  refine ⟨_, .inl rfl, rfl, rfl, ?_⟩
  rw [eqv_one]
  by_cases z : b = 0
  · rw [if_pos z] at k; rw [decide_eq_true z]; exact iteT k
  · rw [if_neg z] at k; rw [decide_eq_false z]
    have hs := sgnd_bd hw hb
    exact iteF ⟨_, rfl, _, rfl, rfl, signed_spec (by omega) (by omega) ⟨_, rfl, _, rfl, rfl, signed_spec (by omega) (by omega) ⟨_, rfl, _, rfl, _, rfl, _, rfl, rfl, quo_spec (sgnd_ne hb z) (by omega) ⟨mul_ok ⟨by omega, by omega⟩, trivial, _, rfl, rfl, wrapped_spec (by omega) k⟩⟩⟩⟩
theorem and_told {w : Nat} {a b : Int} {P : PyData → Prop} (k : P (.int (Builtin.bitAnd a b))) : wf_told_and [.int (w : Int), .int a, .int b] P := ⟨_, rfl, _, rfl, trivial, k⟩
theorem or_told {w : Nat} {a b : Int} {P : PyData → Prop} (k : P (.int (Builtin.bitOr a b))) : wf_told_or [.int (w : Int), .int a, .int b] P := ⟨_, rfl, _, rfl, trivial, k⟩
theorem xor_told {w : Nat} {a b : Int} {P : PyData → Prop} (k : P (.int (Builtin.bitXor a b))) : wf_told_xor [.int (w : Int), .int a, .int b] P := ⟨_, rfl, _, rfl, trivial, k⟩
/-- the shift's length -/
def by_ (w : Nat) (b : Int) : Nat := (b % (w : Int)).toNat
theorem by_eq {w : Nat} {b : Int} (h : 1 ≤ w) : b % (w : Int) = (by_ w b : Int) ∧ by_ w b < w := by
  have h1 := Int.emod_nonneg b (show (w : Int) ≠ 0 by omega)
  have h2 := Int.emod_lt_of_pos b (show (0 : Int) < w by omega)
  unfold by_
  omega
theorem shl_told {w : Nat} {a b : Int} {P : PyData → Prop} (hw : Wd w) (ha : InW w a) (k : P (.int (a * 2 ^ by_ w b % 2 ^ w))) : wf_told_shl [.int (w : Int), .int a, .int b] P := by
  obtain ⟨w1, w2⟩ := hw.lt
  obtain ⟨e1, e2⟩ := by_eq (b := b) w1
  obtain ⟨a0, a1⟩ := InW.lt hw ha
  exact ⟨_, rfl, _, rfl, _, rfl, (show (0 : Int) < w by omega), ⟨(show 0 ≤ b % (w : Int) by omega), (show b % (w : Int) ≤ 1000000 by omega), by omega⟩, _, rfl, rfl, wrapped_spec (by omega) k⟩
theorem lshr_told {w : Nat} {a b : Int} {P : PyData → Prop} (hw : Wd w) (k : P (.int (a / 2 ^ by_ w b))) : wf_told_lshr [.int (w : Int), .int a, .int b] P := by
  obtain ⟨w1, w2⟩ := hw.lt
  obtain ⟨e1, e2⟩ := by_eq (b := b) w1
  exact ⟨_, rfl, _, rfl, _, rfl, (show (0 : Int) < w by omega), (show 0 ≤ b % (w : Int) by omega), k⟩
theorem ashr_told {w : Nat} {a b : Int} {P : PyData → Prop} (hw : Wd w) (k : P (.int (sgnd w a / 2 ^ by_ w b % 2 ^ w))) : wf_told_ashr [.int (w : Int), .int a, .int b] P := by
  obtain ⟨w1, w2⟩ := hw.lt
  obtain ⟨e1, e2⟩ := by_eq (b := b) w1
  exact ⟨_, rfl, _, rfl, rfl, signed_spec (by omega) w1 ⟨_, rfl, _, rfl, (show (0 : Int) < w by omega), (show 0 ≤ b % (w : Int) by omega), _, rfl, rfl, wrapped_spec (by omega) k⟩⟩
end K01

namespace K01
open PySem PySem.Spec PyProof.Rows L2 Lay
/-! ### the law's own words: digits, back -/
theorem digits_go {E : DEnds} {a b : Sl} : ∀ (ts : List PyData) (n : Int) (acc : List Int) (x : Sl), acc.length + ts.length ≤ 1000 → (∀ m x, E.nx [a, b, .dat (.int m), .own ((acc ++ low ts.length n).map .int), x]) →
    wForGo (gDat 4) (wSeq (wApp 3 (wOp dMod (wVar 2) (wC (.int 2)))) (wSet 2 (wOp dFdiv (wVar 2) (wC (.int 2))))) E ts [a, b, .dat (.int n), .own (acc.map .int), x]
  | [], n, acc, x, _, k => by
    have := k n x
    rw [show low ([] : List PyData).length n = [] from rfl, List.append_nil] at this
    exact this
  | t :: ts, n, acc, x, hl, k => by
    refine ⟨_, rfl, by simp at hl ⊢; omega, _, rfl, ⟨by show (0 : Int) < 2; decide, ?_⟩⟩
    refine ⟨_, rfl, ⟨⟨by decide, by decide⟩, ?_⟩⟩
    have e : acc.map PyData.int ++ [.int (n % 2)] = (acc ++ [n % 2]).map .int := by simp
    show wForGo _ _ E ts [a, b, .dat (.int (n / 2)), .own (acc.map PyData.int ++ [.int (n % 2)]), .dat t]
    rw [e]
    refine digits_go ts (n / 2) (acc ++ [n % 2]) _ (by simp at hl ⊢; omega) fun m x => ?_
    have := k m x
    rw [List.append_assoc]
    exact this
theorem digits_spec {w : Nat} {n : Int} {P : PyData → Prop} (h : w ≤ 500) (k : P (.list ((low w n).map .int))) : wf__law_digits [.int n, .int (w : Int)] P := by
  refine ⟨_, .inl rfl, _, rfl, rfl, power_spec (by omega) ⟨pow2_pos w, by show 0 ≤ 100000; decide, _, rfl, w, rfl, by omega, ?_⟩⟩
  refine digits_go (rangeD 0 w) (n % 2 ^ w) [] .no (by simp [rangeD]; omega) fun m x => ?_
  refine ⟨_, rfl, ?_⟩
  show P (.list (([] ++ low (rangeD 0 w).length (n % 2 ^ w)).map PyData.int))
  rw [List.nil_append, show (rangeD 0 w).length = w by simp [rangeD], low_mod]
  exact k
theorem bit_mul {x y : Int} (h : x = 0 ∨ x = 1) : CMulA x y := mul_ok (by omega)
theorem back_go {E : DEnds} {a : Sl} : ∀ (ds : List Int) (t v : Int) (x : Sl), bits ds → (∀ u x, E.nx [a, .dat (.int (t + v * lval ds)), .dat (.int u), x]) → wForGo (gDat 3) (wPar 1 2 (xDat (wOp dAdd (wVar 1) (wOp dMul (wVar 3) (wVar 2)))) (xDat (wOp dAdd (wVar 2) (wVar 2)))) E (ds.map .int) [a, .dat (.int t), .dat (.int v), x]
  | [], t, v, x, _, k => by
    have := k v x
    rw [show lval [] = 0 from rfl, Int.mul_zero, Int.add_zero] at this
    exact this
  | d :: ds, t, v, x, hb, k => by
    refine ⟨_, rfl, _, rfl, _, rfl, bit_mul (hb d List.mem_cons_self), _, rfl, _, rfl, ?_⟩
    refine back_go ds (t + d * v) (v + v) (.dat (.int d)) (fun z hz => hb z (List.mem_cons_of_mem _ hz)) fun u x => ?_
    have := k u x
    have e : t + v * lval (d :: ds) = t + d * v + (v + v) * lval ds := by
      show t + v * (d + 2 * lval ds) = _
      rw [Int.mul_add, Int.mul_comm v d, Int.add_mul, ← Int.mul_assoc, Int.mul_comm v 2, Int.mul_assoc]
      omega
    rw [e] at this
    exact this
theorem back_spec {ds : List Int} {P : PyData → Prop} (hb : bits ds) (k : P (.int (lval ds))) : wf__law_back [.list (ds.map .int)] P := by
  refine ⟨by show 2 ≤ 100000; decide, _, rfl, rfl, _, _, rfl, _, _, rfl, rfl, _, rfl, _, rfl, ?_⟩
  refine back_go ds 0 1 .no hb fun u x => ⟨_, rfl, ?_⟩
  rw [Int.one_mul, Int.zero_add]
  exact k
/-- digits, and back -/
theorem round_spec {w : Nat} {n : Int} {P : PyData → Prop} (h : w ≤ 500) (k : P (.int (n % 2 ^ w))) : wf__law_digits [.int n, .int (w : Int)] fun d => wf__law_back [d] P :=
  digits_spec h (back_spec (low_bits w n) (by rw [lval_low]; exact k))
/-! ### read -/
theorem read_go {E : DEnds} {ds : List PyData} : ∀ (xs : List Int) (d : Int) (t v : Int) (j : Nat) (x3 x4 : Sl), bits (xs ++ [d]) → ds.length = j + xs.length + 1 → (∀ u x3 x4, E.nx [.dat (.list ds), .dat (.int (t + v * lval xs - v * 2 ^ xs.length * d)), .dat (.int u), x3, x4]) →
    wForGo (gTupW 2 (gConsW (gDat 3) (gConsW (gDat 4) gNilW))) (wSeq (wSet 1 (wIf (wCmp dEq (wOp dAdd (wVar 3) (wC (.int 1))) (wFn dLen (wCons (wLook 0) wNil))) (wOp dSub (wVar 1) (wOp dMul (wVar 4) (wVar 2))) (wOp dAdd (wVar 1) (wOp dMul (wVar 4) (wVar 2))))) (wSet 2 (wOp dAdd (wVar 2) (wVar 2)))) E
      ((((xs ++ [d]).map PyData.int).zipIdx j).map fun q => .tuple [.int (q.2 : Nat), q.1]) [.dat (.list ds), .dat (.int t), .dat (.int v), x3, x4]
  | [], d, t, v, j, x3, x4, hb, hl, k => by
    refine ⟨_, rfl, rfl, _, _, rfl, _, _, rfl, rfl, ?_⟩
    refine ⟨_, rfl, _, .inl rfl, rfl, rfl, ?_⟩
    rw [eqv_one, decide_eq_true (show (j : Int) + 1 = (ds.length : Int) by rw [hl]; simp)]
    refine iteT ⟨_, rfl, _, rfl, _, rfl, bit_mul (hb d (by simp)), trivial, _, rfl, _, rfl, ?_⟩
    have := k (v + v) (.dat (.int (j : Int))) (.dat (.int d))
    rw [show t + v * lval [] - v * 2 ^ ([] : List Int).length * d = t - d * v by
      show t + v * 0 - v * 1 * d = _
      rw [Int.mul_zero, Int.mul_one, Int.mul_comm v d]; omega] at this
    exact this
  | x :: xs, d, t, v, j, x3, x4, hb, hl, k => by
    refine ⟨_, rfl, rfl, _, _, rfl, _, _, rfl, rfl, ?_⟩
    refine ⟨_, rfl, _, .inl rfl, rfl, rfl, ?_⟩
    rw [eqv_one, decide_eq_false (show ¬ (j : Int) + 1 = (ds.length : Int) by rw [hl]; simp; omega)]
    refine iteF ⟨_, rfl, _, rfl, _, rfl, bit_mul (hb x (by simp)), _, rfl, _, rfl, ?_⟩
    refine read_go xs d (t + x * v) (v + v) (j + 1) _ _ (fun z hz => hb z (List.mem_cons_of_mem _ hz)) (by simp at hl ⊢; omega) fun u x3 x4 => ?_
    have := k u x3 x4
    have e : t + v * lval (x :: xs) - v * 2 ^ (x :: xs).length * d = t + x * v + (v + v) * lval xs - (v + v) * 2 ^ xs.length * d := by
      show t + v * (x + 2 * lval xs) - v * 2 ^ (xs.length + 1) * d = _
      rw [Int.pow_succ, Int.mul_add, Int.mul_comm v x, Int.add_mul, Int.add_mul, Int.add_mul, ← Int.mul_assoc, Int.mul_comm v 2, Int.mul_assoc, ← Int.mul_assoc v, Int.mul_comm _ 2, Int.mul_assoc 2]
      omega
    rw [e] at this
    exact this
theorem read_spec {w : Nat} {n : Int} {P : PyData → Prop} (h : w ≤ 500) (h1 : 1 ≤ w) (hn : InW w n) (k : P (.int (sgnd w n))) : wf__law_read [.list ((low w n).map .int)] P := by
  obtain ⟨r, d, e, lr, br, hd, en, sg⟩ := low_last h1 hn
  have hb := low_bits w n
  rw [e] at hb ⊢
  refine ⟨by show 2 ≤ 100000; decide, _, rfl, rfl, _, _, rfl, _, _, rfl, rfl, _, rfl, _, rfl, ?_⟩
  refine read_go r d 0 1 0 .no .no hb (by simp) fun u x3 x4 => ⟨_, rfl, ?_⟩
  rw [lr, Int.one_mul, Int.one_mul, Int.zero_add, ← sg]
  exact k
end K01

namespace K01
open PySem PySem.Spec PyProof.Rows L2 Lay
/-! ### times -/
def pcs (o : Int) (k : Nat) : List Int := (List.range (k + 1)).map fun i => 2 ^ i * o
theorem pcs_succ (o : Int) (k : Nat) : pcs o (k + 1) = pcs o k ++ [2 ^ k * o + 2 ^ k * o] := by
  unfold pcs
  rw [List.range_succ, List.map_append]
  congr 1
  show [2 ^ (k + 1) * o] = _
  rw [Int.pow_succ, Int.mul_assoc, Int.mul_comm 2 o, ← Int.mul_assoc]
  congr 1
  omega
theorem pcs_last (o : Int) (k : Nat) : L2.atI ((pcs o k).map PyData.int) (-1) = some (.int (2 ^ k * o)) := by
  unfold pcs
  rw [List.range_succ, List.map_append, List.map_append]
  exact atI_last _ _
theorem pcs_at {o : Int} {k i : Nat} (h : i ≤ k) : L2.atI ((pcs o k).map PyData.int) (0 + (i : Int)) = some (.int (2 ^ i * o)) := by
  rw [Int.zero_add]
  refine atI_nat ?_
  unfold pcs
  rw [List.map_map, List.getElem?_map, List.getElem?_range (by omega)]
  rfl
theorem pcs_len (o : Int) (k : Nat) : ((pcs o k).map PyData.int).length = k + 1 := by unfold pcs; simp
theorem grow_go {E : DEnds} {a b c e f g : Sl} {o : Int} : ∀ (ts : List PyData) (k : Nat) (x : Sl), k + ts.length ≤ 1000 → (∀ x, E.nx [a, b, c, .own ((pcs o (k + ts.length)).map .int), e, x, f, g]) →
    wForGo (gDat 5) (wApp 3 (wOp dAdd (wIxN 3 (wUn dNeg (wC (.int 1)))) (wIxN 3 (wUn dNeg (wC (.int 1)))))) E ts [a, b, c, .own ((pcs o k).map .int), e, x, f, g]
  | [], k, x, _, h => h x
  | t :: ts, k, x, hl, h => by
    refine ⟨_, rfl, by rw [pcs_len]; simp at hl; omega, .inr ⟨_, rfl, _, pcs_last o k, .inr ⟨_, rfl, _, pcs_last o k, ?_⟩⟩⟩
    have e : (pcs o k).map PyData.int ++ [.int (2 ^ k * o + 2 ^ k * o)] = (pcs o (k + 1)).map .int := by rw [pcs_succ, List.map_append]; rfl
    show wForGo _ _ E ts [a, b, c, .own ((pcs o k).map PyData.int ++ [.int (2 ^ k * o + 2 ^ k * o)]), _, .dat t, f, g]
    rw [e]
    refine grow_go ts (k + 1) _ (by simp at hl ⊢; omega) fun x => ?_
    have := h x
    rw [show k + (t :: ts).length = k + 1 + ts.length by simp; omega] at this
    exact this
theorem take_go {E : DEnds} {a b c e : Sl} {o : Int} {w : Nat} (hw : w ≤ 500) : ∀ (k : Nat) (r f : Int) (x : Sl), k ≤ w + 1 → (∀ r x, E.nx [a, b, c, .own ((pcs o w).map .int), .dat (.int (tdiv o k r f)), e, .dat (.int 0), x] → True) →
    (∀ r' x, E.nx [a, b, c, .own ((pcs o w).map .int), .dat (.int (tdiv o k r f)), e, .dat (.int r'), x]) →
    wForGo (gDat 7) (wIfS (wCmp dLe (wIxN 3 (wVar 7)) (wLook 6)) (wPar 6 4 (xDat (wOp dSub (wVar 6) (wIxN 3 (wVar 7)))) (xDat (wOp dAdd (wVar 4) (wCall 1 wf__law_power (wCons (wVar 7) wNil))))) wNext) E
      (rangeD 0 k).reverse [a, b, c, .own ((pcs o w).map .int), .dat (.int f), e, .dat (.int r), x]
  | 0, r, f, x, _, _, h => h r x
  | k + 1, r, f, x, hk, _, h => by
    have er : (rangeD 0 (k + 1)).reverse = .int (0 + (k : Nat)) :: (rangeD 0 k).reverse := by unfold rangeD; rw [List.range_succ, List.map_append, List.reverse_append]; rfl
    rw [er]
    have hat := pcs_at (o := o) (show k ≤ w by omega)
    refine .inr ⟨_, rfl, _, rfl, _, hat, _, .inl rfl, d_le ?_⟩
    by_cases z : 2 ^ k * o ≤ r
    · rw [decide_eq_true z]
      refine iteT ⟨_, rfl, .inr ⟨_, rfl, _, rfl, _, hat, trivial, _, rfl, _, rfl, rfl, ?_⟩⟩
      rw [Int.zero_add]
      refine power_spec (by omega) ?_
      refine take_go hw k (r - 2 ^ k * o) (f + 2 ^ k) _ (by omega) (fun _ _ _ => trivial) fun r' x => ?_
      have := h r' x
      rw [show tdiv o (k + 1) r f = tdiv o k (r - 2 ^ k * o) (f + 2 ^ k) from if_pos z] at this
      exact this
    · rw [decide_eq_false z]
      refine iteF (take_go hw k r f _ (by omega) (fun _ _ _ => trivial) fun r' x => ?_)
      have := h r' x
      rw [show tdiv o (k + 1) r f = tdiv o k r f from if_neg z] at this
      exact this
theorem times_spec {w : Nat} {a o : Int} {P : PyData → Prop} (hw : w ≤ 500) (h0 : 0 ≤ a) (h1 : a < 2 ^ w) (ho : 0 < o) (k : P (.int (a / o))) : wf__law_times [.int a, .int o, .int (w : Int)] P := by
  refine ⟨_, rfl, by show 1 ≤ 100000; decide, _, rfl, w, rfl, by omega, ?_⟩
  have e0 : [PyData.int o] = (pcs o 0).map .int := by
    show [PyData.int o] = [PyData.int (1 * o)]
    rw [Int.one_mul]
  have hl : 0 + (rangeD 0 w).length = w := by simp [rangeD]
  show wForGo _ _ _ (rangeD 0 w) [.dat (.int a), .dat (.int o), .dat (.int (w : Int)), .own [PyData.int o], .dat (.int 0), .no, .no, .no]
  rw [e0]
  refine grow_go (rangeD 0 w) 0 .no (by omega) fun x => ?_
  rw [hl]
  refine ⟨_, rfl, _, rfl, w + 1, rfl, by omega, _, rfl, _, rfl, ?_⟩
  refine take_go hw (w + 1) a 0 .no (by omega) (fun _ _ _ => trivial) fun r' x => ⟨_, rfl, ?_⟩
  have hp := pow2_pos w
  have hlt : a < 2 ^ (w + 1) * o := by
    rw [Int.pow_succ]
    have : 2 ^ w * 2 * 1 ≤ 2 ^ w * 2 * o := Int.mul_le_mul_of_nonneg_left (by omega) (by omega)
    omega
  rw [tdiv_eq ho (w + 1) a 0 h0 hlt, Int.zero_add]
  exact k
end K01

namespace K01
open PySem PySem.Spec PyProof.Rows L2 Lay
/-- from times on -/
def w_dv : WS := (wSeq (wSet 8 (wCall 3 wf__law_times (wCons (wFn dAbs (wCons (wLook 6) wNil)) (wCons (wFn dAbs (wCons (wLook 7) wNil)) (wCons (wVar 1) wNil))))) (wSeq (wSet 8 (wIf (wCmp dEq (wBool (wCmp dLt (wLook 6) (wC (.int 0)))) (wBool (wCmp dLt (wLook 7) (wC (.int 0))))) (wVar 8) (wOp dSub (wC (.int 0)) (wVar 8)))) (wRet (wCall 1 wf__law_back (wCons (wCall 2 wf__law_digits (wCons (wIf (wCmp dEq (wSl (wVar 0) (wPart (wC (.int 1))) wNoPart) (wC (.str "div"))) (wVar 8) (wOp dSub (wVar 6) (wOp dMul (wVar 7) (wVar 8)))) (wCons (wVar 1) wNil))) wNil)))))
/-- the bits -/
def w_bt : WS := (wSeq (wSet 9 (wDicAt ["and", "or", "xor"] (wCons (wOfO (wLst (wCons (wC (.int 2)) wNil))) (wCons (wOfO (wLst (wCons (wC (.int 1)) (wCons (wC (.int 2)) wNil)))) (wCons (wOfO (wLst (wCons (wC (.int 1)) wNil))) wNil))) (wVar 0))) (wRet (wCall 1 wf__law_back (wCons (wOfO (wLc (wZip (wCons (wVar 4) (wCons (wVar 5) wNil))) (gTupW 2 (gConsW (gDat 6) (gConsW (gDat 7) gNilW))) wYes (wIf (wCmp dIn (wOp dAdd (wVar 6) (wVar 7)) (wLook 9)) (wC (.int 1)) (wC (.int 0))) [6, 7])) wNil))))
/-- the shifts -/
def w_sh : WS := (wSeq (wSet 10 (wOp dMod (wFn dInt (wCons (wLook 3) wNil)) (wVar 1))) (wSeq (wIfS (wCmp dEq (wLook 0) (wC (.str "shl"))) (wRet (wCall 1 wf__law_back (wCons (wSl (wOp dAdd (wOp dRep (wOfO (wLst (wCons (wC (.int 0)) wNil))) (wVar 10)) (wVar 4)) wNoPart (wPart (wVar 1))) wNil))) wNext) (wRet (wCall 1 wf__law_back (wCons (wSl (wOp dAdd (wVar 4) (wOp dRep (wOfO (wLst (wCons (wIf (wCmp dEq (wLook 0) (wC (.str "ashr"))) (wIxN 4 (wUn dNeg (wC (.int 1)))) (wC (.int 0))) wNil))) (wVar 10))) (wPart (wVar 10)) wNoPart) wNil)))))
theorem eqs {x y : Str} {b : Bool} {P : Bool → Prop} (hx : PyData.canLay0 (.str x) = true) (hy : PyData.canLay0 (.str y) = true) (hb : PyData.eqv (.str x) (.str y) = b) (k : P b) : dEq (.str x) (.str y) P :=
  ⟨Sh.shaped (n := 0) ⟨hx, Nat.zero_le _⟩, Sh.shaped (n := 0) ⟨hy, Nat.zero_le _⟩, by rw [hb]; exact k⟩
theorem ins {x : Str} {ys : List PyData} {b : Bool} {P : Bool → Prop} (hx : PyData.canLay0 (.str x) = true) (hy : SeqAt.shaped (.list ys) = true) (hb : (ys.any fun y => PyData.eqv y (.str x)) = b) (k : P b) : dIn (.str x) (.list ys) P :=
  ⟨Sh.shaped (n := 0) ⟨hx, Nat.zero_le _⟩, hy, by rw [hb]; exact k⟩
theorem yes_step {ρ : List Sl} {A B : Prop} (h : A) : wYes ρ fun b => if b = true then A else B := by
  show if true = true then A else B
  exact iteT h
theorem dgb {w : Nat} {n : Int} {P : PyData → Prop} (h : w ≤ 500) (k : P (.int (n % 2 ^ w))) : wf__law_digits [.int n, .int (w : Int)] fun d => [d].length = 1 ∧ wf__law_back [d] P :=
  digits_spec h ⟨rfl, back_spec (low_bits w n) (by rw [lval_low]; exact k)⟩
theorem flat_rep {α : Type} (x : α) : ∀ n : Nat, (List.replicate n [x]).flatten = List.replicate n x
  | 0 => rfl
  | n + 1 => by rw [List.replicate_succ, List.replicate_succ, List.flatten_cons, flat_rep x n]; rfl
/-! ### due: add, sub, mul -/
theorem due_add {w : Nat} {a b : Int} {P : PyData → Prop} (h : w ≤ 500) (k : P (.int ((a + b) % 2 ^ w))) : wf__law_due [.str "add", .int (w : Int), .int a, .int b] P := by
  refine ⟨_, rfl, _, rfl, rfl, digits_spec h ⟨_, rfl, _, rfl, rfl, digits_spec h ?_⟩⟩
  refine ⟨_, .inl rfl, by show 3 ≤ 100000; decide, ins (b := true) (by decide +kernel) (by decide +kernel) (by decide +kernel) (iteT ?_)⟩
  exact ⟨_, .inl rfl, w_cst (eqs (b := true) (by decide +kernel) (by decide +kernel) (by decide +kernel) (iteT ⟨_, rfl, _, rfl, _, rfl, rfl, dgb h k⟩))⟩
theorem due_sub {w : Nat} {a b : Int} {P : PyData → Prop} (h : w ≤ 500) (k : P (.int ((a - b) % 2 ^ w))) : wf__law_due [.str "sub", .int (w : Int), .int a, .int b] P := by
  refine ⟨_, rfl, _, rfl, rfl, digits_spec h ⟨_, rfl, _, rfl, rfl, digits_spec h ?_⟩⟩
  refine ⟨_, .inl rfl, by show 3 ≤ 100000; decide, ins (b := true) (by decide +kernel) (by decide +kernel) (by decide +kernel) (iteT ?_)⟩
  exact ⟨_, .inl rfl, w_cst (eqs (b := false) (by decide +kernel) (by decide +kernel) (by decide +kernel) (iteF ⟨_, .inl rfl, w_cst (eqs (b := true) (by decide +kernel) (by decide +kernel) (by decide +kernel) (iteT ⟨_, rfl, _, rfl, trivial, _, rfl, rfl, dgb h k⟩))⟩))⟩
theorem due_mul {w : Nat} {a b : Int} {P : PyData → Prop} (h : w ≤ 500) (ha : 0 ≤ a ∧ a < 18446744073709551616) (k : P (.int ((a * b) % 2 ^ w))) : wf__law_due [.str "mul", .int (w : Int), .int a, .int b] P := by
  refine ⟨_, rfl, _, rfl, rfl, digits_spec h ⟨_, rfl, _, rfl, rfl, digits_spec h ?_⟩⟩
  refine ⟨_, .inl rfl, by show 3 ≤ 100000; decide, ins (b := true) (by decide +kernel) (by decide +kernel) (by decide +kernel) (iteT ?_)⟩
  exact ⟨_, .inl rfl, w_cst (eqs (b := false) (by decide +kernel) (by decide +kernel) (by decide +kernel) (iteF ⟨_, .inl rfl, w_cst (eqs (b := false) (by decide +kernel) (by decide +kernel) (by decide +kernel) (iteF ⟨_, rfl, _, rfl, mul_ok ⟨by omega, ha.2⟩, _, rfl, rfl, dgb h k⟩))⟩))⟩
/-! ### due: the divisions -/
theorem ab_nn (x : Int) : 0 ≤ ab x := by unfold ab; split <;> omega
theorem dv_spec {op : Str} {fl : Bool} {w : Nat} {x y : Int} {d2 d3 d4 d5 x8 x9 x10 : Sl} {E : DEnds} (h : w ≤ 500) (hop : PyData.canLay0 (.str op) = true ∧ op.length ≤ 1000000 ∧ PyData.canLay0 (.str (cutS op (some 1) none)) = true) (hf : PyData.eqv (.str (cutS op (some 1) none)) (.str "div") = fl)
    (hx : ab x < 2 ^ w) (hy : y ≠ 0) (hyb : -(18446744073709551616) < y ∧ y < 18446744073709551616) (k : E.rt (.int ((if fl = true then quo x y else x - y * quo x y) % 2 ^ w))) :
    w_dv E [.dat (.str op), .dat (.int (w : Int)), d2, d3, d4, d5, .dat (.int x), .dat (.int y), x8, x9, x10] := by
  have hab : 0 < ab y := by unfold ab; split <;> omega
  refine ⟨_, .inl rfl, _, .inl rfl, _, rfl, rfl, times_spec h (ab_nn x) hx hab ?_⟩
  refine ⟨_, .inl rfl, d_lt ⟨_, .inl rfl, d_lt ⟨Sh.bool.shaped (n := 0), Sh.bool.shaped (n := 0), ?_⟩⟩⟩
  have e : PyData.eqv (.bool (decide (x < 0))) (.bool (decide (y < 0))) = decide (decide (x < 0) = decide (y < 0)) := by cases decide (x < 0) <;> cases decide (y < 0) <;> rfl
  rw [e]
  have fin : ∀ t : Int, t = quo x y → (wRet (wCall 1 wf__law_back (wCons (wCall 2 wf__law_digits (wCons (wIf (wCmp dEq (wSl (wVar 0) (wPart (wC (.int 1))) wNoPart) (wC (.str "div"))) (wVar 8) (wOp dSub (wVar 6) (wOp dMul (wVar 7) (wVar 8)))) (wCons (wVar 1) wNil))) wNil))) E [.dat (.str op), .dat (.int (w : Int)), d2, d3, d4, d5, .dat (.int x), .dat (.int y), .dat (.int t), x9, x10] := by
    rintro t rfl
    refine ⟨_, rfl, _, rfl, hop.2.1, w_cst (eqs hop.2.2 (by decide +kernel) hf ?_)⟩
    cases fl with
    | true => exact iteT ⟨_, rfl, _, rfl, rfl, dgb h k⟩
    | false => exact iteF ⟨_, rfl, _, rfl, _, rfl, mul_ok ⟨by omega, by omega⟩, trivial, _, rfl, rfl, dgb h k⟩
  by_cases z : decide (x < 0) = decide (y < 0)
  · rw [decide_eq_true z]
    refine iteT ⟨_, rfl, fin _ ?_⟩
    unfold quo
    rw [if_pos z]
    rfl
  · rw [decide_eq_false z]
    refine iteF ⟨_, rfl, trivial, fin _ ?_⟩
    unfold quo
    rw [if_neg z]
    show 0 - ab x / ab y = -(ab x / ab y)
    omega
theorem ab_of {x : Int} (h : 0 ≤ x) : ab x = x := by unfold ab; rw [if_neg (by omega)]
theorem quo_nn {x y : Int} (hx : 0 ≤ x) (hy : 0 ≤ y) : quo x y = x / y := by
  unfold quo
  rw [decide_eq_false (show ¬ x < 0 by omega), decide_eq_false (show ¬ y < 0 by omega), if_pos rfl, ab_of hx, ab_of hy]
theorem sgnd_ab {w : Nat} {a : Int} (h1 : 1 ≤ w) (h : InW w a) : ab (sgnd w a) < 2 ^ w := by
  have a0 := h.1
  have a1 := h.2
  have e := pow_pred h1
  have hp := pow2_pos (w - 1)
  unfold sgnd ab
  split <;> split <;> omega
theorem due_udiv {w : Nat} {a b : Int} {P : PyData → Prop} (hw : Wd w) (ha : InW w a) (hb : InW w b) (k : P (if b = 0 then .none else .int (a / b))) : wf__law_due [.str "udiv", .int (w : Int), .int a, .int b] P := by
  obtain ⟨w1, w2⟩ := hw.lt
  refine ⟨_, rfl, _, rfl, rfl, digits_spec (by omega) ⟨_, rfl, _, rfl, rfl, digits_spec (by omega) ?_⟩⟩
  refine ⟨_, .inl rfl, by show 3 ≤ 100000; decide, ins (b := false) (by decide +kernel) (by decide +kernel) (by decide +kernel) (iteF ?_)⟩
  refine ⟨_, .inl rfl, by show 4 ≤ 100000; decide, ins (b := true) (by decide +kernel) (by decide +kernel) (by decide +kernel) (iteT ?_)⟩
  refine ⟨_, .inl rfl, rfl, rfl, ?_⟩
  rw [eqv_one]
  by_cases z : b = 0
  · rw [if_pos z] at k; rw [decide_eq_true z]; exact iteT k
  · rw [if_neg z] at k; rw [decide_eq_false z]
    have hb2 := InW.lt hw hb
    refine iteF (.inl ⟨_, rfl, by decide +kernel, 117, by decide +kernel, w_cst (eqs (b := true) (by decide +kernel) (by decide +kernel) (by decide +kernel) (iteT ?_))⟩)
    refine ⟨_, rfl, _, rfl, by show 2 ≤ 100000; decide, _, rfl, rfl, _, _, rfl, _, _, rfl, rfl, ?_⟩
    refine dv_spec (fl := true) (by omega) ⟨by decide +kernel, by decide +kernel, by decide +kernel⟩ (by decide +kernel) (by rw [ab_of ha.1]; exact ha.2) z (by omega) ?_
    rw [if_pos rfl, quo_nn ha.1 hb.1, Int.emod_eq_of_lt (Int.ediv_nonneg ha.1 hb.1) (Int.lt_of_le_of_lt (Int.ediv_le_self b ha.1) ha.2)]
    exact k
theorem due_urem {w : Nat} {a b : Int} {P : PyData → Prop} (hw : Wd w) (ha : InW w a) (hb : InW w b) (k : P (if b = 0 then .none else .int (a % b))) : wf__law_due [.str "urem", .int (w : Int), .int a, .int b] P := by
  obtain ⟨w1, w2⟩ := hw.lt
  refine ⟨_, rfl, _, rfl, rfl, digits_spec (by omega) ⟨_, rfl, _, rfl, rfl, digits_spec (by omega) ?_⟩⟩
  refine ⟨_, .inl rfl, by show 3 ≤ 100000; decide, ins (b := false) (by decide +kernel) (by decide +kernel) (by decide +kernel) (iteF ?_)⟩
  refine ⟨_, .inl rfl, by show 4 ≤ 100000; decide, ins (b := true) (by decide +kernel) (by decide +kernel) (by decide +kernel) (iteT ?_)⟩
  refine ⟨_, .inl rfl, rfl, rfl, ?_⟩
  rw [eqv_one]
  by_cases z : b = 0
  · rw [if_pos z] at k; rw [decide_eq_true z]; exact iteT k
  · rw [if_neg z] at k; rw [decide_eq_false z]
    have hb2 := InW.lt hw hb
    have hbp : 0 < b := by omega
    refine iteF (.inl ⟨_, rfl, by decide +kernel, 117, by decide +kernel, w_cst (eqs (b := true) (by decide +kernel) (by decide +kernel) (by decide +kernel) (iteT ?_))⟩)
    refine ⟨_, rfl, _, rfl, by show 2 ≤ 100000; decide, _, rfl, rfl, _, _, rfl, _, _, rfl, rfl, ?_⟩
    refine dv_spec (fl := false) (by omega) ⟨by decide +kernel, by decide +kernel, by decide +kernel⟩ (by decide +kernel) (by rw [ab_of ha.1]; exact ha.2) z (by omega) ?_
    rw [if_neg Bool.false_ne_true, quo_nn ha.1 hb.1, ← Int.emod_def]
    have m0 := Int.emod_nonneg a z
    have m1 := Int.emod_lt_of_pos a hbp
    rw [Int.emod_eq_of_lt m0 (Int.lt_trans m1 hb.2)]
    exact k
theorem due_sdiv {w : Nat} {a b : Int} {P : PyData → Prop} (hw : Wd w) (ha : InW w a) (hb : InW w b) (k : P (if b = 0 then .none else .int (quo (sgnd w a) (sgnd w b) % 2 ^ w))) : wf__law_due [.str "sdiv", .int (w : Int), .int a, .int b] P := by
  obtain ⟨w1, w2⟩ := hw.lt
  refine ⟨_, rfl, _, rfl, rfl, digits_spec (by omega) ⟨_, rfl, _, rfl, rfl, digits_spec (by omega) ?_⟩⟩
  refine ⟨_, .inl rfl, by show 3 ≤ 100000; decide, ins (b := false) (by decide +kernel) (by decide +kernel) (by decide +kernel) (iteF ?_)⟩
  refine ⟨_, .inl rfl, by show 4 ≤ 100000; decide, ins (b := true) (by decide +kernel) (by decide +kernel) (by decide +kernel) (iteT ?_)⟩
  refine ⟨_, .inl rfl, rfl, rfl, ?_⟩
  rw [eqv_one]
  by_cases z : b = 0
  · rw [if_pos z] at k; rw [decide_eq_true z]; exact iteT k
  · rw [if_neg z] at k; rw [decide_eq_false z]
    have hs := sgnd_bd hw hb
    refine iteF (.inl ⟨_, rfl, by decide +kernel, 115, by decide +kernel, w_cst (eqs (b := false) (by decide +kernel) (by decide +kernel) (by decide +kernel) (iteF ?_))⟩)
    refine ⟨_, rfl, rfl, read_spec (by omega) w1 ha ⟨_, rfl, rfl, read_spec (by omega) w1 hb ⟨by show 2 ≤ 100000; decide, _, rfl, rfl, _, _, rfl, _, _, rfl, rfl, ?_⟩⟩⟩
    refine dv_spec (fl := true) (by omega) ⟨by decide +kernel, by decide +kernel, by decide +kernel⟩ (by decide +kernel) (sgnd_ab w1 ha) (sgnd_ne hb z) (by omega) ?_
    rw [if_pos rfl]
    exact k
theorem due_srem {w : Nat} {a b : Int} {P : PyData → Prop} (hw : Wd w) (ha : InW w a) (hb : InW w b) (k : P (if b = 0 then .none else .int ((sgnd w a - sgnd w b * quo (sgnd w a) (sgnd w b)) % 2 ^ w))) : wf__law_due [.str "srem", .int (w : Int), .int a, .int b] P := by
  obtain ⟨w1, w2⟩ := hw.lt
  refine ⟨_, rfl, _, rfl, rfl, digits_spec (by omega) ⟨_, rfl, _, rfl, rfl, digits_spec (by omega) ?_⟩⟩
  refine ⟨_, .inl rfl, by show 3 ≤ 100000; decide, ins (b := false) (by decide +kernel) (by decide +kernel) (by decide +kernel) (iteF ?_)⟩
  refine ⟨_, .inl rfl, by show 4 ≤ 100000; decide, ins (b := true) (by decide +kernel) (by decide +kernel) (by decide +kernel) (iteT ?_)⟩
  refine ⟨_, .inl rfl, rfl, rfl, ?_⟩
  rw [eqv_one]
  by_cases z : b = 0
  · rw [if_pos z] at k; rw [decide_eq_true z]; exact iteT k
  · rw [if_neg z] at k; rw [decide_eq_false z]
    have hs := sgnd_bd hw hb
    refine iteF (.inl ⟨_, rfl, by decide +kernel, 115, by decide +kernel, w_cst (eqs (b := false) (by decide +kernel) (by decide +kernel) (by decide +kernel) (iteF ?_))⟩)
    refine ⟨_, rfl, rfl, read_spec (by omega) w1 ha ⟨_, rfl, rfl, read_spec (by omega) w1 hb ⟨by show 2 ≤ 100000; decide, _, rfl, rfl, _, _, rfl, _, _, rfl, rfl, ?_⟩⟩⟩
    refine dv_spec (fl := false) (by omega) ⟨by decide +kernel, by decide +kernel, by decide +kernel⟩ (by decide +kernel) (sgnd_ab w1 ha) (sgnd_ne hb z) (by omega) ?_
    rw [if_neg Bool.false_ne_true]
    exact k
end K01

namespace K01
open PySem PySem.Spec PyProof.Rows L2 Lay
/-! ### due: and, or, xor -/
def zipD (a b : List Int) : List PyData := ((a.map PyData.int).zip (b.map PyData.int)).map fun q => .tuple [q.1, q.2]
theorem bits_go {s0 s1 s2 s3 s4 s5 s8 s10 : Sl} {W : List PyData} {f : Int → Int} {P : List PyData → Prop} (hW : SeqAt.shaped (.list W) = true) (hf : ∀ s : Int, 0 ≤ s → s ≤ 2 → f s = if (W.any fun y => PyData.eqv y (.int s)) = true then 1 else 0) :
    ∀ (a b : List Int) (acc : List Int), bits a → bits b → acc.length + a.length ≤ 1000 → P ((acc ++ bitD f a b).map .int) →
    lcGo (gTupW 2 (gConsW (gDat 6) (gConsW (gDat 7) gNilW))) wYes (wIf (wCmp dIn (wOp dAdd (wVar 6) (wVar 7)) (wLook 9)) (wC (.int 1)) (wC (.int 0))) [s0, s1, s2, s3, s4, s5, .no, .no, s8, .dat (.list W), s10] P (zipD a b) (acc.map .int)
  | [], _, acc, _, _, _, k => by rw [show bitD f [] _ = [] from rfl, List.append_nil] at k; exact k
  | _ :: _, [], acc, _, _, _, k => by rw [show bitD f (_ :: _) [] = [] from rfl, List.append_nil] at k; exact k
  | x :: a, y :: b, acc, ha, hb, hl, k => by
    have hx := ha x List.mem_cons_self
    have hy := hb y List.mem_cons_self
    have hs : 0 ≤ x + y ∧ x + y ≤ 2 := by omega
    have rc := bits_go (s0 := s0) (s1 := s1) (s2 := s2) (s3 := s3) (s4 := s4) (s5 := s5) (s8 := s8) (s10 := s10) hW hf a b (acc ++ [f (x + y)]) (fun z hz => ha z (List.mem_cons_of_mem _ hz)) (fun z hz => hb z (List.mem_cons_of_mem _ hz)) (by simp at hl ⊢; omega) (P := P) (by
      rw [List.append_assoc]
      exact k)
    rw [List.map_append] at rc
    have hf' := hf (x + y) hs.1 hs.2
    refine ⟨_, rfl, rfl, _, _, rfl, _, _, rfl, rfl, yes_step ?_⟩
    refine ⟨_, rfl, _, rfl, _, .inl rfl, Sh.int.shaped (n := 0), hW, ?_⟩
    cases hq : (W.any fun y_1 => PyData.eqv y_1 (.int (x + y))) with
    | true =>
      rw [hq, if_pos rfl] at hf'
      rw [hf'] at rc
      exact iteT ⟨by simp at hl ⊢; omega, rc⟩
    | false =>
      rw [hq, if_neg Bool.false_ne_true] at hf'
      rw [hf'] at rc
      exact iteF ⟨by simp at hl ⊢; omega, rc⟩
theorem bitD_bits {f : Int → Int} (hf : ∀ s, f s = 0 ∨ f s = 1) : ∀ a b : List Int, bits (bitD f a b)
  | [], _ => fun _ h => nomatch h
  | _ :: _, [] => fun _ h => nomatch h
  | x :: a, y :: b => fun z hz => by
    rcases List.mem_cons.mp hz with rfl | hz
    · exact hf _
    · exact bitD_bits hf a b z hz
theorem bt_spec {op : Str} {d1 d2 d3 x6 x7 x8 x9 x10 : Sl} {w : Nat} {a b : Int} {W : List PyData} {f : Int → Int} {E : DEnds} (h : w ≤ 500) (hl : ((["and", "or", "xor"] : List Str).zip [PyData.list [.int 2], PyData.list [.int 1, .int 2], PyData.list [.int 1]]).lookup op = some (.list W)) (hW : SeqAt.shaped (.list W) = true)
    (hf : ∀ s : Int, 0 ≤ s → s ≤ 2 → f s = if (W.any fun y => PyData.eqv y (.int s)) = true then 1 else 0) (hf2 : ∀ s, f s = 0 ∨ f s = 1) (k : E.rt (.int (lval (bitD f (low w a) (low w b))))) :
    w_bt E [.dat (.str op), d1, d2, d3, .dat (.list ((low w a).map .int)), .dat (.list ((low w b).map .int)), x6, x7, x8, x9, x10] := by
  refine ⟨by show 1 ≤ 100000; decide, by show 2 ≤ 100000; decide, by show 1 ≤ 100000; decide, _, rfl, op, _, rfl, hl, ?_⟩
  refine ⟨_, rfl, _, rfl, _, _, rfl, ?_⟩
  refine bits_go hW hf (low w a) (low w b) [] (low_bits w a) (low_bits w b) (by rw [low_len]; simp; omega) ⟨rfl, back_spec ?_ k⟩
  exact bitD_bits hf2 _ _
theorem due_bits {op : Str} {w : Nat} {a b : Int} {W : List PyData} {f : Int → Int} {P : PyData → Prop} (h : w ≤ 500) (hop : PyData.canLay0 (.str op) = true) (h1 : ([.str "add", .str "sub", .str "mul"] : List PyData).any (fun y => PyData.eqv y (.str op)) = false)
    (h2 : ([.str "udiv", .str "urem", .str "sdiv", .str "srem"] : List PyData).any (fun y => PyData.eqv y (.str op)) = false) (h3 : ([.str "and", .str "or", .str "xor"] : List PyData).any (fun y => PyData.eqv y (.str op)) = true)
    (hl : ((["and", "or", "xor"] : List Str).zip [PyData.list [.int 2], PyData.list [.int 1, .int 2], PyData.list [.int 1]]).lookup op = some (.list W)) (hW : SeqAt.shaped (.list W) = true)
    (hf : ∀ s : Int, 0 ≤ s → s ≤ 2 → f s = if (W.any fun y => PyData.eqv y (.int s)) = true then 1 else 0) (hf2 : ∀ s, f s = 0 ∨ f s = 1) (k : P (.int (lval (bitD f (low w a) (low w b))))) : wf__law_due [.str op, .int (w : Int), .int a, .int b] P := by
  refine ⟨_, rfl, _, rfl, rfl, digits_spec h ⟨_, rfl, _, rfl, rfl, digits_spec h ?_⟩⟩
  refine ⟨_, .inl rfl, by show 3 ≤ 100000; decide, ins hop (by decide +kernel) h1 (iteF ?_)⟩
  refine ⟨_, .inl rfl, by show 4 ≤ 100000; decide, ins hop (by decide +kernel) h2 (iteF ?_)⟩
  refine ⟨_, .inl rfl, by show 3 ≤ 100000; decide, ins hop (by decide +kernel) h3 (iteT ?_)⟩
  exact bt_spec h hl hW hf hf2 k
theorem s012 {p : Int → Prop} (h0 : p 0) (h1 : p 1) (h2 : p 2) : ∀ s : Int, 0 ≤ s → s ≤ 2 → p s := fun s a b => by
  have : s = 0 ∨ s = 1 ∨ s = 2 := by omega
  rcases this with rfl | rfl | rfl <;> assumption
theorem due_and {w : Nat} {a b : Int} {P : PyData → Prop} (h : w ≤ 500) (ha : InW w a) (hb : InW w b) (k : P (.int (Builtin.bitAnd a b))) : wf__law_due [.str "and", .int (w : Int), .int a, .int b] P :=
  due_bits (W := [.int 2]) (f := fun s => if s = 2 then 1 else 0) h (by decide +kernel) (by decide +kernel) (by decide +kernel) (by decide +kernel) rfl (by decide +kernel) (s012 (by decide +kernel) (by decide +kernel) (by decide +kernel)) (fun s => by by_cases z : s = 2 <;> simp [z]) (by rw [and_low ha hb]; exact k)
theorem due_or {w : Nat} {a b : Int} {P : PyData → Prop} (h : w ≤ 500) (ha : InW w a) (hb : InW w b) (k : P (.int (Builtin.bitOr a b))) : wf__law_due [.str "or", .int (w : Int), .int a, .int b] P :=
  due_bits (W := [.int 1, .int 2]) (f := fun s => if s = 1 ∨ s = 2 then 1 else 0) h (by decide +kernel) (by decide +kernel) (by decide +kernel) (by decide +kernel) rfl (by decide +kernel) (s012 (by decide +kernel) (by decide +kernel) (by decide +kernel)) (fun s => by by_cases z : s = 1 ∨ s = 2 <;> simp [z]) (by rw [or_low ha hb]; exact k)
theorem due_xor {w : Nat} {a b : Int} {P : PyData → Prop} (h : w ≤ 500) (ha : InW w a) (hb : InW w b) (k : P (.int (Builtin.bitXor a b))) : wf__law_due [.str "xor", .int (w : Int), .int a, .int b] P :=
  due_bits (W := [.int 1]) (f := fun s => if s = 1 then 1 else 0) h (by decide +kernel) (by decide +kernel) (by decide +kernel) (by decide +kernel) rfl (by decide +kernel) (s012 (by decide +kernel) (by decide +kernel) (by decide +kernel)) (fun s => by by_cases z : s = 1 <;> simp [z]) (by rw [xor_low ha hb]; exact k)
/-! ### due: shifts -/
theorem sh_start {op : Str} {w : Nat} {a b : Int} {P : PyData → Prop} (hw : Wd w) (hop : PyData.canLay0 (.str op) = true) (h1 : ([.str "add", .str "sub", .str "mul"] : List PyData).any (fun y => PyData.eqv y (.str op)) = false)
    (h2 : ([.str "udiv", .str "urem", .str "sdiv", .str "srem"] : List PyData).any (fun y => PyData.eqv y (.str op)) = false) (h3 : ([.str "and", .str "or", .str "xor"] : List PyData).any (fun y => PyData.eqv y (.str op)) = false)
    (k : (wSeq (wIfS (wCmp dEq (wLook 0) (wC (.str "shl"))) (wRet (wCall 1 wf__law_back (wCons (wSl (wOp dAdd (wOp dRep (wOfO (wLst (wCons (wC (.int 0)) wNil))) (wVar 10)) (wVar 4)) wNoPart (wPart (wVar 1))) wNil))) wNext) (wRet (wCall 1 wf__law_back (wCons (wSl (wOp dAdd (wVar 4) (wOp dRep (wOfO (wLst (wCons (wIf (wCmp dEq (wLook 0) (wC (.str "ashr"))) (wIxN 4 (wUn dNeg (wC (.int 1)))) (wC (.int 0))) wNil))) (wVar 10))) (wPart (wVar 10)) wNoPart) wNil))))
      { nx := fun _ => P .none, rt := P } [.dat (.str op), .dat (.int (w : Int)), .dat (.int a), .dat (.int b), .dat (.list ((low w a).map .int)), .dat (.list ((low w b).map .int)), .no, .no, .no, .no, .dat (.int (by_ w b : Int))]) : wf__law_due [.str op, .int (w : Int), .int a, .int b] P := by
  obtain ⟨w1, w2⟩ := hw.lt
  obtain ⟨e1, e2⟩ := by_eq (b := b) w1
  refine ⟨_, rfl, _, rfl, rfl, digits_spec (by omega) ⟨_, rfl, _, rfl, rfl, digits_spec (by omega) ?_⟩⟩
  refine ⟨_, .inl rfl, by show 3 ≤ 100000; decide, ins hop (by decide +kernel) h1 (iteF ?_)⟩
  refine ⟨_, .inl rfl, by show 4 ≤ 100000; decide, ins hop (by decide +kernel) h2 (iteF ?_)⟩
  refine ⟨_, .inl rfl, by show 3 ≤ 100000; decide, ins hop (by decide +kernel) h3 (iteF ?_)⟩
  rw [← e1] at k
  exact ⟨_, .inl rfl, _, rfl, (show (0 : Int) < w by omega), k⟩
theorem rep_ints (c : Int) (n : Nat) : (List.replicate ((n : Int)).toNat [PyData.int c]).flatten = (List.replicate n c).map .int := by
  rw [flat_rep, List.map_replicate]
  rfl
theorem due_shl {w : Nat} {a b : Int} {P : PyData → Prop} (hw : Wd w) (ha : InW w a) (k : P (.int (a * 2 ^ by_ w b % 2 ^ w))) : wf__law_due [.str "shl", .int (w : Int), .int a, .int b] P := by
  obtain ⟨w1, w2⟩ := hw.lt
  obtain ⟨e1, e2⟩ := by_eq (b := b) w1
  refine sh_start hw (by decide +kernel) (by decide +kernel) (by decide +kernel) (by decide +kernel) ?_
  refine ⟨_, .inl rfl, w_cst (eqs (b := true) (by decide +kernel) (by decide +kernel) (by decide +kernel) (iteT ?_))⟩
  refine ⟨by show 1 ≤ 100000; decide, _, rfl, by omega, by omega, by show 1 * ((by_ w b : Int)).toNat ≤ 1000000; omega, _, rfl, ?_, _, rfl, _, rfl, rfl, ?_⟩
  · rw [rep_ints, List.length_map, List.length_map, List.length_replicate, low_len]; omega
  · rw [rep_ints, ← List.map_append, cut_to, ← List.map_take]
    refine back_spec (fun x hx => ?_) ?_
    · rcases List.mem_append.mp (List.mem_of_mem_take hx) with h | h
      · exact .inl (List.eq_of_mem_replicate h)
      · exact low_bits w a x h
    · rw [shl_low ha]; exact k
theorem shr_fin {w : Nat} {a b c : Int} {op : Str} {d1 d2 d3 d5 x6 x7 x8 x9 : Sl} {P : PyData → Prop} {E : DEnds} (hw : Wd w) (ha : InW w a) (hc : c = 0 ∨ c = 1) (hE : E.rt = P)
    (hi : ∀ Q : PyData → Prop, Q (.int c) → (wIf (wCmp dEq (wLook 0) (wC (.str "ashr"))) (wIxN 4 (wUn dNeg (wC (.int 1)))) (wC (.int 0))) [.dat (.str op), d1, d2, d3, .dat (.list ((low w a).map .int)), d5, x6, x7, x8, x9, .dat (.int (by_ w b : Int))] Q)
    (hop : PyData.canLay0 (.str op) = true) (hq : PyData.eqv (.str op) (.str "shl") = false)
    (k : P (.int ((a - 2 ^ w * c) / 2 ^ by_ w b + 2 ^ w * c))) :
    (wSeq (wIfS (wCmp dEq (wLook 0) (wC (.str "shl"))) (wRet (wCall 1 wf__law_back (wCons (wSl (wOp dAdd (wOp dRep (wOfO (wLst (wCons (wC (.int 0)) wNil))) (wVar 10)) (wVar 4)) wNoPart (wPart (wVar 1))) wNil))) wNext) (wRet (wCall 1 wf__law_back (wCons (wSl (wOp dAdd (wVar 4) (wOp dRep (wOfO (wLst (wCons (wIf (wCmp dEq (wLook 0) (wC (.str "ashr"))) (wIxN 4 (wUn dNeg (wC (.int 1)))) (wC (.int 0))) wNil))) (wVar 10))) (wPart (wVar 10)) wNoPart) wNil))))
      E [.dat (.str op), d1, d2, d3, .dat (.list ((low w a).map .int)), d5, x6, x7, x8, x9, .dat (.int (by_ w b : Int))] := by
  obtain ⟨w1, w2⟩ := hw.lt
  obtain ⟨e1, e2⟩ := by_eq (b := b) w1
  refine ⟨_, .inl rfl, w_cst (eqs hop (by decide +kernel) hq (iteF ?_))⟩
  refine ⟨_, rfl, hi _ ⟨by show 1 ≤ 100000; decide, _, rfl, by omega, by omega, by show 1 * ((by_ w b : Int)).toNat ≤ 1000000; omega, ?_, _, rfl, _, rfl, rfl, ?_⟩⟩
  · rw [rep_ints, List.length_map, List.length_map, List.length_replicate, low_len]; omega
  · rw [rep_ints, ← List.map_append, cut_from, ← List.map_drop]
    refine back_spec (fun x hx => ?_) ?_
    · rcases List.mem_append.mp (List.mem_of_mem_drop hx) with h | h
      · exact low_bits w a x h
      · rw [List.eq_of_mem_replicate h]; exact hc
    · rw [shr_low ha hc, hE]; exact k
theorem due_lshr {w : Nat} {a b : Int} {P : PyData → Prop} (hw : Wd w) (ha : InW w a) (k : P (.int (a / 2 ^ by_ w b))) : wf__law_due [.str "lshr", .int (w : Int), .int a, .int b] P := by
  refine sh_start hw (by decide +kernel) (by decide +kernel) (by decide +kernel) (by decide +kernel) ?_
  refine shr_fin (c := 0) hw ha (.inl rfl) rfl (fun Q q => ⟨_, .inl rfl, w_cst (eqs (b := false) (by decide +kernel) (by decide +kernel) (by decide +kernel) (iteF q))⟩) (by decide +kernel) (by decide +kernel) ?_
  rw [Int.mul_zero, Int.sub_zero, Int.add_zero]
  exact k
theorem due_ashr {w : Nat} {a b : Int} {P : PyData → Prop} (hw : Wd w) (ha : InW w a) (k : P (.int (sgnd w a / 2 ^ by_ w b % 2 ^ w))) : wf__law_due [.str "ashr", .int (w : Int), .int a, .int b] P := by
  obtain ⟨w1, w2⟩ := hw.lt
  obtain ⟨r, d, e, lr, br, hd, en, sg⟩ := low_last w1 ha
  refine sh_start hw (by decide +kernel) (by decide +kernel) (by decide +kernel) (by decide +kernel) ?_
  have hat : L2.atI ((low w a).map PyData.int) (-1) = some (.int d) := by rw [e, List.map_append]; exact atI_last _ _
  refine shr_fin (c := d) hw ha hd rfl (fun Q q => ⟨_, .inl rfl, w_cst (eqs (b := true) (by decide +kernel) (by decide +kernel) (by decide +kernel) (iteT (.inl ⟨_, rfl, _, hat, q⟩)))⟩) (by decide +kernel) (by decide +kernel) ?_
  have es : a - 2 ^ w * d = sgnd w a := by
    rw [sg, en, pow_pred w1]
    generalize (2 : Int) ^ (w - 1) = m
    rcases hd with rfl | rfl <;> omega
  rw [es]
  have hp := pow2_pos (by_ w b)
  have hpw := pow2_pos w
  have hin : 0 ≤ sgnd w a / 2 ^ by_ w b + 2 ^ w * d ∧ sgnd w a / 2 ^ by_ w b + 2 ^ w * d < 2 ^ w := by
    have hv : lval ((low w a ++ List.replicate (by_ w b) d).drop (by_ w b)) = sgnd w a / 2 ^ by_ w b + 2 ^ w * d := by rw [shr_low ha hd, es]
    have hb : bits ((low w a ++ List.replicate (by_ w b) d).drop (by_ w b)) := fun x hx => by
      rcases List.mem_append.mp (List.mem_of_mem_drop hx) with h | h
      · exact low_bits w a x h
      · rw [List.eq_of_mem_replicate h]; exact hd
    have hl : ((low w a ++ List.replicate (by_ w b) d).drop (by_ w b)).length = w := by simp [low_len]
    have := lval_bits hb
    rw [hv, hl] at this
    exact this
  have em : sgnd w a / 2 ^ by_ w b % 2 ^ w = sgnd w a / 2 ^ by_ w b + 2 ^ w * d := by
    have := Int.add_mul_emod_self_left (sgnd w a / 2 ^ by_ w b) (2 ^ w) d
    rw [← this]
    exact Int.emod_eq_of_lt hin.1 hin.2
  rw [← em]
  exact k
end K01

namespace K01
open PySem PySem.Spec PyProof.Rows L2 Lay
/-- one op -/
def w_op : WS := (wIfS (wCmp dNe (wFn dRepr (wCons (wCallK 4 4 [3, 2, 1, 0] wf_bin_told (wCons (wVar 6) (wCons (wVar 5) (wCons (wVar 4) (wCons (wVar 7) wNil))))) wNil)) (wFn dRepr (wCons (wCall 4 wf__law_due (wCons (wVar 7) (wCons (wVar 4) (wCons (wVar 5) (wCons (wVar 6) wNil))))) wNil))) (wRet (wC (.bool false))) wNext)
/-- after the ops -/
def w_aft : WS := (wSeq (wSet 8 (wCallD 1 1 wf__law_of (wCons (wOfO (wLst (wCons (wOp dMul (wVar 5) (wVar 6)) (wCons (wOp dSub (wOp dPow (wC (.int 10)) (wC (.int 39))) (wCallD 1 1 wf__law_any (wCons (wOp dPow (wC (.int 10)) (wC (.int 20))) wNil))) (wCons (wOp dSub (wC (.int 0)) (wCallD 1 1 wf__law_any (wCons (wOp dPow (wC (.int 10)) (wC (.int 39))) wNil))) (wCons (wOp dSub (wVar 5) (wCall 1 wf__law_power (wCons (wVar 4) wNil))) wNil)))))) wNil))) (wSeq (wIfS (wCmp dNe (wFn dRepr (wCons (wCallK 2 2 [1, 0] wf_wrapped (wCons (wVar 4) (wCons (wVar 8) wNil))) wNil)) (wFn dRepr (wCons (wCall 1 wf__law_back (wCons (wCall 2 wf__law_digits (wCons (wVar 8) (wCons (wVar 4) wNil))) wNil)) wNil))) (wRet (wC (.bool false))) wNext) (wSeq (wSet 9 (wCallD 1 1 wf__law_of (wCons (wOfO (wLst (wCons (wCall 1 wf__law_power (wCons (wVar 4) wNil)) (wCons (wUn dNeg (wC (.int 1))) (wCons (wC (.bool true)) (wCons (wC (.bool false)) (wCons (wC .none) (wCons (wC (.str "1")) (wCons (wTup (wCons (wC (.int 1)) wNil)) (wCons (wOp dPow (wC (.int 10)) (wC (.int 30))) wNil)))))))))) wNil))) (wIfS (wOr (wCmp dIsNot (wCall 2 wf_is_of_width (wCons (wVar 9) (wCons (wVar 4) wNil))) (wC (.bool false))) (wCmp dIsNot (wCall 1 wf_is_width (wCons (wCallD 1 1 wf__law_of (wCons (wOfO (wLst (wCons (wC (.int 0)) (wCons (wC (.int 2)) (wCons (wC (.int 7)) (wCons (wC (.int 128)) (wCons (wUn dNeg (wC (.int 8))) (wCons (wC (.bool true)) (wCons (wC .none) (wCons (wC (.str "8")) (wCons (wTup (wCons (wC (.int 8)) wNil)) wNil))))))))))) wNil)) wNil)) (wC (.bool false)))) (wRet (wC (.bool false))) wNext))))
/-- one turn -/
def w_loop : WS := (wSeq (wSet 4 (wCallD 1 1 wf__law_of (wCons (wOfO (wLst (wCons (wC (.int 1)) (wCons (wC (.int 8)) (wCons (wC (.int 16)) (wCons (wC (.int 32)) (wCons (wC (.int 64)) wNil))))))) wNil))) (wSeq (wPar 5 6 (xDat (wCallD 1 1 wf__law_number (wCons (wVar 4) wNil))) (xDat (wCallD 1 1 wf__law_number (wCons (wVar 4) wNil)))) (wSeq (wIfS (wOr (wCmp dIsNot (wCallK 2 2 [1, 0] wf_is_of_width (wCons (wVar 4) (wCons (wVar 5) wNil))) (wC (.bool true))) (wCmp dIsNot (wCallK 1 1 [0] wf_is_width (wCons (wVar 4) wNil)) (wC (.bool true)))) (wRet (wC (.bool false))) wNext) (wSeq (wIfS (wCmp dNe (wFn dRepr (wCons (wCallK 2 2 [1, 0] wf_signed (wCons (wVar 4) (wCons (wVar 5) wNil))) wNil)) (wFn dRepr (wCons (wCall 1 wf__law_read (wCons (wCall 2 wf__law_digits (wCons (wVar 5) (wCons (wVar 4) wNil))) wNil)) wNil))) (wRet (wC (.bool false))) wNext) (wSeq (wFor (wTupI (wVar 2)) (gDat 7) (wIfS (wCmp dNe (wFn dRepr (wCons (wCallK 4 4 [3, 2, 1, 0] wf_bin_told (wCons (wVar 6) (wCons (wVar 5) (wCons (wVar 4) (wCons (wVar 7) wNil))))) wNil)) (wFn dRepr (wCons (wCall 4 wf__law_due (wCons (wVar 7) (wCons (wVar 4) (wCons (wVar 5) (wCons (wVar 6) wNil))))) wNil))) (wRet (wC (.bool false))) wNext)) (wSeq (wSet 8 (wCallD 1 1 wf__law_of (wCons (wOfO (wLst (wCons (wOp dMul (wVar 5) (wVar 6)) (wCons (wOp dSub (wOp dPow (wC (.int 10)) (wC (.int 39))) (wCallD 1 1 wf__law_any (wCons (wOp dPow (wC (.int 10)) (wC (.int 20))) wNil))) (wCons (wOp dSub (wC (.int 0)) (wCallD 1 1 wf__law_any (wCons (wOp dPow (wC (.int 10)) (wC (.int 39))) wNil))) (wCons (wOp dSub (wVar 5) (wCall 1 wf__law_power (wCons (wVar 4) wNil))) wNil)))))) wNil))) (wSeq (wIfS (wCmp dNe (wFn dRepr (wCons (wCallK 2 2 [1, 0] wf_wrapped (wCons (wVar 4) (wCons (wVar 8) wNil))) wNil)) (wFn dRepr (wCons (wCall 1 wf__law_back (wCons (wCall 2 wf__law_digits (wCons (wVar 8) (wCons (wVar 4) wNil))) wNil)) wNil))) (wRet (wC (.bool false))) wNext) (wSeq (wSet 9 (wCallD 1 1 wf__law_of (wCons (wOfO (wLst (wCons (wCall 1 wf__law_power (wCons (wVar 4) wNil)) (wCons (wUn dNeg (wC (.int 1))) (wCons (wC (.bool true)) (wCons (wC (.bool false)) (wCons (wC .none) (wCons (wC (.str "1")) (wCons (wTup (wCons (wC (.int 1)) wNil)) (wCons (wOp dPow (wC (.int 10)) (wC (.int 30))) wNil)))))))))) wNil))) (wIfS (wOr (wCmp dIsNot (wCall 2 wf_is_of_width (wCons (wVar 9) (wCons (wVar 4) wNil))) (wC (.bool false))) (wCmp dIsNot (wCall 1 wf_is_width (wCons (wCallD 1 1 wf__law_of (wCons (wOfO (wLst (wCons (wC (.int 0)) (wCons (wC (.int 2)) (wCons (wC (.int 7)) (wCons (wC (.int 128)) (wCons (wUn dNeg (wC (.int 8))) (wCons (wC (.bool true)) (wCons (wC .none) (wCons (wC (.str "8")) (wCons (wTup (wCons (wC (.int 8)) wNil)) wNil))))))))))) wNil)) wNil)) (wC (.bool false)))) (wRet (wC (.bool false))) wNext)))))))))
/-! ### numbers -/
theorem inW_of {w : Nat} {n : Int} (h0 : 0 ≤ n) (h1 : n < 2 ^ w) : InW w n := ⟨h0, h1⟩
theorem number_spec {w : Nat} {P : PyData → Prop} (hw : Wd w) (k : ∀ n, InW w n → P (.int n)) : wf__law_number [.int (w : Int)] P := by
  obtain ⟨w1, w2⟩ := hw.lt
  obtain ⟨t1, t2⟩ := top_le hw
  have hp : (0 : Int) < 2 ^ w := by omega
  refine ⟨_, rfl, rfl, power_spec (by omega) ⟨rfl, rfl, any_spec (by decide) (by decide) fun r hr => ?_⟩⟩
  refine ⟨_, .inl rfl, rfl, rfl, ?_⟩
  rw [eqv_one]
  by_cases z : (r : Int) = 0
  · rw [decide_eq_true z]
    refine iteT ⟨rfl, _, rfl, trivial, _, rfl, div_ok (by decide) (by decide), _, rfl, div_ok (by decide) (by decide), trivial, _, .inl rfl, _, rfl, hp, _, rfl, _, rfl, hp, _, rfl, div_ok (by decide) (by decide), by show 8 ≤ 100000; decide, rfl, of_spec (by show 0 < 8; decide) (by show 8 < 1000000; decide) fun x hx => ?_⟩
    simp only [List.mem_cons, List.not_mem_nil, or_false] at hx
    rcases hx with rfl | rfl | rfl | rfl | rfl | rfl | rfl | rfl
    · exact k _ ⟨by decide, hp⟩
    · exact k _ ⟨by decide, by omega⟩
    · exact k _ (inW_of (by omega) (by omega))
    · exact k _ (inW_of (show (0 : Int) ≤ 2 ^ w / 2 by omega) (show (2 : Int) ^ w / 2 < 2 ^ w by omega))
    · exact k _ (inW_of (show (0 : Int) ≤ 2 ^ w / 2 - 1 by omega) (show (2 : Int) ^ w / 2 - 1 < 2 ^ w by omega))
    · exact k _ (inW_mod w _)
    · exact k _ (inW_mod w _)
    · exact k _ (inW_of (show (0 : Int) ≤ 2 ^ w / 4 by omega) (show (2 : Int) ^ w / 4 < 2 ^ w by omega))
  · rw [decide_eq_false z]
    refine iteF ⟨_, .inl rfl, rfl, rfl, ?_⟩
    rw [eqv_one]
    by_cases z1 : (r : Int) = 1
    · rw [decide_eq_true z1]
      exact iteT ⟨rfl, _, rfl, rfl, any_spec hp t2 fun q hq => k _ ⟨by omega, hq⟩⟩
    · rw [decide_eq_false z1]
      exact iteF ⟨rfl, rfl, any_spec (by decide) (by decide) fun q hq => ⟨trivial, _, rfl, hp, k _ (inW_mod w _)⟩⟩
/-! ### kinds -/
def isNum : PyData → Bool
  | .int i => decide (0 ≤ i)
  | _ => false
theorem num_spec (d : PyData) {P : PyData → Prop} (h : P (.bool (isNum d))) : wf_is_number [d] P := by
  cases d with
  | int i => exact ⟨_, .inl rfl, _, rfl, iteT ⟨_, .inl rfl, _, rfl, _, rfl, iteT ⟨_, .inl rfl, h⟩⟩⟩
  | bool b => exact ⟨_, .inl rfl, _, rfl, iteT ⟨_, .inl rfl, _, rfl, _, rfl, iteF h⟩⟩
  | none => exact ⟨_, .inl rfl, _, rfl, iteF h⟩
  | str _ => exact ⟨_, .inl rfl, _, rfl, iteF h⟩
  | list _ => exact ⟨_, .inl rfl, _, rfl, iteF h⟩
  | tuple _ => exact ⟨_, .inl rfl, _, rfl, iteF h⟩
  | dict _ => exact ⟨_, .inl rfl, _, rfl, iteF h⟩
def wds : List PyData := [.int 1, .int 8, .int 16, .int 32, .int 64]
theorem width_no {d : PyData} {P : PyData → Prop} (h : isNum d = false) (k : P (.bool false)) : wf_is_width [d] P :=
  ⟨_, rfl, rfl, num_spec d ⟨_, rfl, by rw [h]; exact iteF k⟩⟩
theorem width_int {i : Int} {b : Bool} {P : PyData → Prop} (h : 0 ≤ i) (hb : (wds.any fun y => PyData.eqv y (.int i)) = b) (k : P (.bool b)) : wf_is_width [.int i] P := by
  refine ⟨_, rfl, rfl, num_spec _ ⟨_, rfl, ?_⟩⟩
  rw [show isNum (.int i) = true from decide_eq_true h]
  refine iteT ⟨_, .inl rfl, rfl, by decide +kernel, ?_⟩
  show P (.bool (wds.any fun y => PyData.eqv y (.int i)))
  rw [hb]
  exact k
theorem width_yes {w : Nat} (hw : Wd w) {P : PyData → Prop} (k : P (.bool true)) : wf_is_width [.int (w : Int)] P :=
  width_int (b := true) (by omega) (by rcases hw with rfl | rfl | rfl | rfl | rfl <;> decide +kernel) k
theorem ofw_no {d e : PyData} {P : PyData → Prop} (h : isNum d = false) (k : P (.bool false)) : wf_is_of_width [d, e] P :=
  ⟨_, rfl, rfl, num_spec d ⟨_, rfl, by rw [h]; exact iteF k⟩⟩
theorem ofw_int {i : Int} {w : Nat} {b : Bool} {P : PyData → Prop} (hw : Wd w) (h : 0 ≤ i) (hb : decide (i < 2 ^ w) = b) (k : P (.bool b)) : wf_is_of_width [.int i, .int (w : Int)] P := by
  have := hw.lt
  refine ⟨_, rfl, rfl, num_spec _ ⟨_, rfl, ?_⟩⟩
  rw [show isNum (.int i) = true from decide_eq_true h]
  refine iteT ⟨_, rfl, rfl, width_yes hw ⟨_, rfl, iteT ⟨_, .inl rfl, _, rfl, shl_one (by omega) (d_lt ?_)⟩⟩⟩
  rw [hb]
  exact k
/-! ### what repr shows -/
structure Shown (r : PyData) : Prop where
  s : r.showable = true
  d : r.depth ≤ 60
  l : r.shown.length ≤ sizeLine
  c : PyData.canLay0 (.str r.shown) = true
theorem shown_none : Shown .none := ⟨rfl, Nat.zero_le _, by decide +kernel, by decide +kernel⟩
theorem shown_small {i : Int} (h : small i) : Shown (.int i) := ⟨small_show h, Nat.zero_le _, small_len h, lay_text _⟩
theorem small_of {i : Int} (h0 : 0 ≤ i) (h1 : i ≤ 18446744073709551616) : small i := ⟨h0, Int.lt_of_le_of_lt h1 (by decide +kernel)⟩
theorem shown_neg {i : Int} (h0 : i < 0) (h1 : -18446744073709551616 ≤ i) : Shown (.int i) := by
  refine ⟨decide_eq_true ?_, Nat.zero_le _, ?_, lay_text _⟩
  · have : i.natAbs < 2 ^ 65 := by omega
    exact Nat.lt_trans ((Nat.log2_lt (by omega)).mpr this) (by decide)
  · have e := PyProof.Rows.len_text_negI h0
    have l := PyProof.Rows.toString_length_le (v := 0 - i) (by omega) (k := 100) (by decide) (Int.lt_of_le_of_lt (show 0 - i ≤ 18446744073709551616 by omega) (by decide +kernel))
    have : (Str.ofString (toString i)).length ≤ 101 := by omega
    exact Nat.le_trans this (by decide)
theorem shown_sgnd {w : Nat} {n : Int} (hw : Wd w) (h : InW w n) : Shown (.int (sgnd w n)) := by
  have := sgnd_bd hw h
  by_cases z : 0 ≤ sgnd w n
  · exact shown_small (small_of z (by omega))
  · exact shown_neg (by omega) (by omega)
theorem shown_mod {w : Nat} {n : Int} (hw : Wd w) : Shown (.int (n % 2 ^ w)) := by
  have := inW_mod w n
  have := InW.lt hw this
  exact shown_small (small_of (by omega) (by omega))
theorem shown_in {w : Nat} {n : Int} (hw : Wd w) (h : InW w n) : Shown (.int n) := by
  have := InW.lt hw h
  exact shown_small (small_of (by omega) (by omega))
/-! ### each op -/
def names : List Str := ["add", "sub", "mul", "udiv", "sdiv", "urem", "srem", "and", "or", "xor", "shl", "lshr", "ashr"]
structure Op (w : Nat) (a b : Int) (op : Str) (r : PyData) : Prop where
  sh : Shown r
  told : ∀ P : PyData → Prop, P r → wf_bin_told [.str op, .int (w : Int), .int a, .int b] P
  due : ∀ P : PyData → Prop, P r → wf__law_due [.str op, .int (w : Int), .int a, .int b] P
theorem tab {op : Str} {wf : WF} {rest : List PyData} {P : PyData → Prop} (h : bin_table op = some wf) (k : wf rest P) : wf_bin_told (.str op :: rest) P := ⟨_, _, _, rfl, h, k⟩
theorem bits_in {w : Nat} {f : Int → Int} {a b : Int} (hf : ∀ s, f s = 0 ∨ f s = 1) : InW w (lval (bitD f (low w a) (low w b))) := by
  have h := lval_bits (bitD_bits hf (low w a) (low w b))
  have hl : ∀ x y : List Int, x.length = y.length → (bitD f x y).length = x.length := by
    intro x
    induction x with
    | nil => intro y _; rfl
    | cons c x ih =>
      intro y hy
      cases y with
      | nil => cases hy
      | cons e y => exact congrArg (· + 1) (ih y (Nat.succ.inj hy))
  rw [hl _ _ (by rw [low_len, low_len]), low_len] at h
  exact h
theorem op_all {w : Nat} {a b : Int} (hw : Wd w) (ha : InW w a) (hb : InW w b) {op : Str} (h : op ∈ names) : ∃ r, Op w a b op r := by
  obtain ⟨w1, w2⟩ := hw.lt
  have la := InW.lt hw ha
  have lb := InW.lt hw hb
  have h5 : w ≤ 500 := by omega
  have h10 : w ≤ 1000 := by omega
  simp only [names, List.mem_cons, List.not_mem_nil, or_false] at h
  rcases h with rfl | rfl | rfl | rfl | rfl | rfl | rfl | rfl | rfl | rfl | rfl | rfl | rfl
  · exact ⟨_, shown_mod hw, fun P k => tab rfl (add_told h10 k), fun P k => due_add h5 k⟩
  · exact ⟨_, shown_mod hw, fun P k => tab rfl (sub_told h10 k), fun P k => due_sub h5 k⟩
  · exact ⟨_, shown_mod hw, fun P k => tab rfl (mul_told h10 la k), fun P k => due_mul h5 la k⟩
  · refine ⟨if b = 0 then .none else .int (a / b), ?_, fun P k => tab rfl (udiv_told lb k), fun P k => due_udiv hw ha hb k⟩
    split
    · exact shown_none
    · exact shown_in hw ⟨Int.ediv_nonneg ha.1 hb.1, Int.lt_of_le_of_lt (Int.ediv_le_self b ha.1) ha.2⟩
  · refine ⟨if b = 0 then .none else .int (quo (sgnd w a) (sgnd w b) % 2 ^ w), ?_, fun P k => tab rfl (sdiv_told hw hb k), fun P k => due_sdiv hw ha hb k⟩
    split
    · exact shown_none
    · exact shown_mod hw
  · refine ⟨if b = 0 then .none else .int (a % b), ?_, fun P k => tab rfl (urem_told lb.1 k), fun P k => due_urem hw ha hb k⟩
    split
    · exact shown_none
    · rename_i z
      have m0 := Int.emod_nonneg a z
      have m1 := Int.emod_lt_of_pos a (show 0 < b by omega)
      exact shown_in hw ⟨m0, Int.lt_trans m1 hb.2⟩
  · refine ⟨if b = 0 then .none else .int ((sgnd w a - sgnd w b * quo (sgnd w a) (sgnd w b)) % 2 ^ w), ?_, fun P k => tab rfl (srem_told hw hb k), fun P k => due_srem hw ha hb k⟩
    split
    · exact shown_none
    · exact shown_mod hw
  · refine ⟨_, ?_, fun P k => tab rfl (and_told k), fun P k => due_and h5 ha hb k⟩
    rw [← and_low ha hb]
    exact shown_in hw (bits_in fun s => by by_cases z : s = 2 <;> simp [z])
  · refine ⟨_, ?_, fun P k => tab rfl (or_told k), fun P k => due_or h5 ha hb k⟩
    rw [← or_low ha hb]
    exact shown_in hw (bits_in fun s => by by_cases z : s = 1 ∨ s = 2 <;> simp [z])
  · refine ⟨_, ?_, fun P k => tab rfl (xor_told k), fun P k => due_xor h5 ha hb k⟩
    rw [← xor_low ha hb]
    exact shown_in hw (bits_in fun s => by by_cases z : s = 1 <;> simp [z])
  · exact ⟨_, shown_mod hw, fun P k => tab rfl (shl_told hw ha k), fun P k => due_shl hw ha k⟩
  · exact ⟨_, shown_in hw ⟨Int.ediv_nonneg ha.1 (Int.le_of_lt (pow2_pos _)), Int.lt_of_le_of_lt (Int.ediv_le_self _ ha.1) ha.2⟩, fun P k => tab rfl (lshr_told hw k), fun P k => due_lshr hw ha k⟩
  · exact ⟨_, shown_mod hw, fun P k => tab rfl (ashr_told hw k), fun P k => due_ashr hw ha k⟩
end K01

namespace K01
open PySem PySem.Spec PyProof.Rows L2 Lay
def lawMost : Nat := 63
def lawW (_ : List Int) : Prop := True
theorem lawAny (ns : List Int) : lawW ns := trivial
theorem wd_of {x : PyData} (hx : x ∈ ([.int 1, .int 8, .int 16, .int 32, .int 64] : List PyData)) : ∃ w : Nat, x = .int (w : Int) ∧ Wd w := by
  simp only [List.mem_cons, List.not_mem_nil, or_false] at hx
  rcases hx with rfl | rfl | rfl | rfl | rfl
  · exact ⟨1, rfl, .inl rfl⟩
  · exact ⟨8, rfl, .inr (.inl rfl)⟩
  · exact ⟨16, rfl, .inr (.inr (.inl rfl))⟩
  · exact ⟨32, rfl, .inr (.inr (.inr (.inl rfl)))⟩
  · exact ⟨64, rfl, .inr (.inr (.inr (.inr rfl)))⟩
theorem ops_go {E : DEnds} {s0 s1 s2 s3 s8 s9 : Sl} {w : Nat} {a b : Int} (hw : Wd w) (ha : InW w a) (hb : InW w b) (k : ∀ y, E.nx [s0, s1, s2, s3, .dat (.int (w : Int)), .dat (.int a), .dat (.int b), y, s8, s9]) :
    ∀ (xs : List Str) (y : Sl), (∀ x ∈ xs, x ∈ names) → wForGo (gDat 7) w_op E (xs.map .str) [s0, s1, s2, s3, .dat (.int (w : Int)), .dat (.int a), .dat (.int b), y, s8, s9]
  | [], y, _ => k y
  | x :: xs, y, hx => by
    obtain ⟨r, o⟩ := op_all hw ha hb (hx x List.mem_cons_self)
    exact ⟨_, rfl, _, rfl, _, rfl, _, rfl, rfl, rfl, o.told _ ⟨o.sh.s, o.sh.d, o.sh.l, _, rfl, _, rfl, _, rfl, _, rfl, rfl, o.due _ ⟨o.sh.s, o.sh.d, o.sh.l, ne_text o.sh.c (iteF (ops_go hw ha hb k xs _ fun z hz => hx z (List.mem_cons_of_mem _ hz)))⟩⟩⟩
theorem aft_spec {E : DEnds} {ns : List Int} {s2 s3 s7 s8 s9 : Sl} {w : Nat} {a b : Int} (hw : Wd w) (ha : InW w a) (hb : InW w b) (k : ∀ y8 y9, E.nx [.scr ns, .deal, s2, s3, .dat (.int (w : Int)), .dat (.int a), .dat (.int b), s7, y8, y9]) :
    w_aft E [.scr ns, .deal, s2, s3, .dat (.int (w : Int)), .dat (.int a), .dat (.int b), s7, s8, s9] := by
  obtain ⟨w1, w2⟩ := hw.lt
  have la := InW.lt hw ha
  obtain ⟨t1, t2⟩ := top_le hw
  -- great
  refine ⟨rfl, _, rfl, _, rfl, mul_ok ⟨by omega, la.2⟩, ⟨⟨by decide, by decide, by decide⟩, rfl, ⟨⟨by decide, by decide, by decide⟩, rfl, any_big (by decide +kernel) (by decide +kernel) fun r _ _ => ?_⟩⟩⟩
  refine ⟨trivial, rfl, ⟨⟨by decide, by decide, by decide⟩, rfl, any_big (by decide +kernel) (by decide +kernel) fun r2 _ _ => ?_⟩⟩
  refine ⟨trivial, _, rfl, _, rfl, rfl, power_spec (by omega) ⟨trivial, by show 4 ≤ 100000; decide, rfl, of_spec (by show 0 < 4; decide) (by show 4 < 1000000; decide) fun x hx => ?_⟩⟩
  obtain ⟨g, rfl⟩ : ∃ g : Int, x = .int g := by
    simp only [List.mem_cons, List.not_mem_nil, or_false] at hx
    rcases hx with rfl | rfl | rfl | rfl <;> exact ⟨_, rfl⟩
  have S := shown_mod (n := g) hw
  refine ⟨_, rfl, _, rfl, rfl, rfl, wrapped_spec (by omega) ⟨S.s, S.d, S.l, _, rfl, _, rfl, rfl, dgb (by omega) ⟨S.s, S.d, S.l, ne_text S.c (iteF ?_)⟩⟩⟩
  -- odd
  refine ⟨rfl, _, rfl, rfl, power_spec (by omega) ⟨by show 1 ≤ 100000; decide, ⟨⟨by decide, by decide, by decide⟩, by show 8 ≤ 100000; decide, rfl, of_spec (by show 0 < 8; decide) (by show 8 < 1000000; decide) fun x hx => ?_⟩⟩⟩
  have bad : ∀ P : PyData → Prop, P (.bool false) → wf_is_of_width [x, .int (w : Int)] P := by
    simp only [List.mem_cons, List.not_mem_nil, or_false] at hx
    rcases hx with rfl | rfl | rfl | rfl | rfl | rfl | rfl | rfl
    · exact fun P h => ofw_int hw (by omega) (decide_eq_false (by omega)) h
    · exact fun P h => ofw_no rfl h
    · exact fun P h => ofw_no rfl h
    · exact fun P h => ofw_no rfl h
    · exact fun P h => ofw_no rfl h
    · exact fun P h => ofw_no rfl h
    · exact fun P h => ofw_no rfl h
    · exact fun P h => ofw_int hw (by decide +kernel) (decide_eq_false (by
        have : (18446744073709551616 : Int) ≤ 10 ^ (30 : Int).toNat := by decide +kernel
        omega)) h
  refine ⟨_, rfl, _, rfl, rfl, bad _ (w_cst (d_isnot (iteF ?_)))⟩
  refine ⟨rfl, by show 1 ≤ 100000; decide, by show 9 ≤ 100000; decide, rfl, of_spec (by show 0 < 9; decide) (by show 9 < 1000000; decide) fun x hx => ?_⟩
  have bad2 : ∀ P : PyData → Prop, P (.bool false) → wf_is_width [x] P := by
    simp only [List.mem_cons, List.not_mem_nil, or_false] at hx
    rcases hx with rfl | rfl | rfl | rfl | rfl | rfl | rfl | rfl | rfl
    · exact fun P h => width_int (b := false) (by decide) (by decide +kernel) h
    · exact fun P h => width_int (b := false) (by decide) (by decide +kernel) h
    · exact fun P h => width_int (b := false) (by decide) (by decide +kernel) h
    · exact fun P h => width_int (b := false) (by decide) (by decide +kernel) h
    · exact fun P h => width_no rfl h
    · exact fun P h => width_no rfl h
    · exact fun P h => width_no rfl h
    · exact fun P h => width_no rfl h
    · exact fun P h => width_no rfl h
  exact ⟨rfl, bad2 _ (w_cst (d_isnot (iteF (k _ _))))⟩
theorem turn_spec {E : DEnds} {ns : List Int} {t : PyData} {ts : List PyData} {x3 x4 x5 x6 x7 x8 x9 : Sl}
    (k : ∀ y3 y4 y5 y6 y7 y8 y9, wForGo (gDat 3) w_loop E ts [.scr ns, .deal, .dat (.tuple (names.map .str)), y3, y4, y5, y6, y7, y8, y9]) :
    wForGo (gDat 3) w_loop E (t :: ts) [.scr ns, .deal, .dat (.tuple (names.map .str)), x3, x4, x5, x6, x7, x8, x9] := by
  refine ⟨rfl, by show 5 ≤ 100000; decide, rfl, of_spec (by show 0 < 5; decide) (by show 5 < 1000000; decide) fun x hx => ?_⟩
  obtain ⟨w, rfl, hw⟩ := wd_of hx
  obtain ⟨w1, w2⟩ := hw.lt
  refine ⟨rfl, _, rfl, rfl, number_spec hw fun a ha => ⟨rfl, _, rfl, rfl, number_spec hw fun b hb => ?_⟩⟩
  refine ⟨_, rfl, _, rfl, rfl, rfl, ofw_int (b := true) hw ha.1 (decide_eq_true ha.2) (w_cst (d_isnot (iteF ?_)))⟩
  refine ⟨_, rfl, rfl, rfl, width_yes hw (w_cst (d_isnot (iteF ?_)))⟩
  have S := shown_sgnd hw ha
  refine ⟨_, rfl, _, rfl, rfl, rfl, signed_spec (by omega) w1 ⟨S.s, S.d, S.l, _, rfl, _, rfl, rfl, digits_spec (by omega) ⟨rfl, read_spec (by omega) w1 ha ⟨S.s, S.d, S.l, ne_text S.c (iteF ?_)⟩⟩⟩⟩
  refine ⟨_, rfl, _, rfl, ?_⟩
  exact ops_go hw ha hb (fun y => aft_spec hw ha hb fun y8 y9 => k _ _ _ _ _ _ _) names x7 fun x hx => hx
theorem loop_spec {E : DEnds} {ns : List Int} (k : ∀ y3 y4 y5 y6 y7 y8 y9, E.nx [.scr ns, .deal, .dat (.tuple (names.map .str)), y3, y4, y5, y6, y7, y8, y9]) :
    ∀ (ts : List PyData) {x3 x4 x5 x6 x7 x8 x9 : Sl}, wForGo (gDat 3) w_loop E ts [.scr ns, .deal, .dat (.tuple (names.map .str)), x3, x4, x5, x6, x7, x8, x9]
  | [] => k _ _ _ _ _ _ _
  | t :: ts => turn_spec fun _ _ _ _ _ _ _ => loop_spec k ts
theorem law_math (ns : List Int) (_ : lawW ns) : w_law lawE (.scr ns :: .deal :: List.replicate 8 .no) := by
  refine ⟨by show 13 ≤ 100000; decide, by show 2 ≤ 100000; decide, by decide +kernel, by decide +kernel, by decide +kernel, ?_⟩
  refine ⟨_, rfl, by show 5 ≤ 100000; decide, by show 2 ≤ 100000; decide, by decide +kernel, by decide +kernel, by decide +kernel, ne_text (by decide +kernel) (iteF ?_)⟩
  exact ⟨4, rfl, by decide, loop_spec (fun _ _ _ _ _ _ _ => rfl) _⟩
end K01

namespace K01
open PySem PySem.Spec PyProof.Rows L2 Lay
section
variable {P : Program} {w : World} {K : PySem.W.Frag} {mg : Str → Option Value} {base : Heap}
theorem ok_law {f fD : Addr} {fd fdD : FuncData} (F : Fun K "law" "law" s_law f fd) (GD : FnOk P w K mg base CX0 1 fD fdD ["script", "salt"] (spDraw K)) (mD : mg "_law_draw" = some (.ref fD)) (kD : PySem.W.keepIn K (.ref fD) = true) (bD : Binds K fdD ["script", "salt"] []) (g_WIDTHS : Glo K mg "WIDTHS" (.tuple [(.int 1), (.int 8), (.int 16), (.int 32), (.int 64)])) (g_OPS : Glo K mg "OPS" (.tuple [(.str "add"), (.str "sub"), (.str "mul"), (.str "udiv"), (.str "sdiv"), (.str "urem"), (.str "srem"), (.str "and"), (.str "or"), (.str "xor"), (.str "shl"), (.str "lshr"), (.str "ashr")])) (m_repr : mg "repr" = none) (m_range : mg "range" = none) (c__law_of : CalD P w K mg base 2 "_law_of" 1 wf__law_of) (c__law_number : CalD P w K mg base 3 "_law_number" 1 wf__law_number) (ck_is_of_width_width_value : CalK P w K mg base 3 "is_of_width" 2 ["width", "value"] [1, 0] wf_is_of_width) (ck_is_width_value : CalK P w K mg base 2 "is_width" 1 ["value"] [0] wf_is_width) (ck_signed_width_number : CalK P w K mg base 1 "signed" 2 ["width", "number"] [1, 0] wf_signed) (c__law_read : Cal P w K mg base 1 "_law_read" 1 wf__law_read) (c__law_digits : Cal P w K mg base 2 "_law_digits" 2 wf__law_digits) (ck_bin_told_other_one_width_op : CalK P w K mg base 3 "bin_told" 4 ["other", "one", "width", "op"] [3, 2, 1, 0] wf_bin_told) (c__law_due : Cal P w K mg base 3 "_law_due" 4 wf__law_due) (c__law_power : Cal P w K mg base 1 "_law_power" 1 wf__law_power) (c__law_any : CalD P w K mg base 1 "_law_any" 1 wf__law_any) (ck_wrapped_width_number : CalK P w K mg base 1 "wrapped" 2 ["width", "number"] [1, 0] wf_wrapped) (c__law_back : Cal P w K mg base 1 "_law_back" 1 wf__law_back) (c_is_of_width : Cal P w K mg base 3 "is_of_width" 2 wf_is_of_width) (c_is_width : Cal P w K mg base 2 "is_width" 1 wf_is_width) {n : Nat} {W : List Int → Prop}
    (math : ∀ ns : List Int, W ns → w_law lawE (.scr ns :: .deal :: List.replicate 8 .no)) : FnG P w K mg base CX0 4 f fd ["script"] (spLaw K n W) :=
  okLaw (salt := 1) ["names", "turn", "width", "one", "other", "op", "great", "odd"] rfl F sc_law rfl (by decide) (by decide)
    (fun cdv A outer s H E hg hr => ps_set (i := 1) sc_law.nd rfl (.inl rfl) (pg_call (FnG.of GD) hg (hr.mono (by decide)) (by rfl) mD kD bD .nil pass0 (pa_cons (pv 0) (pa_cons pe_int pa_nil))))
    (fun dl cdv A outer s H E hg hr =>
      (qss_cons (qs_set (i := 2) (q_tup (qa_cons q_str (qa_cons q_str (qa_cons q_str (qa_cons q_str (qa_cons q_str (qa_cons q_str (qa_cons q_str (qa_cons q_str (qa_cons q_str (qa_cons q_str (qa_cons q_str (qa_cons q_str (qa_cons q_str qa_nil)))))))))))))) (fun te h => ps_set (i := 2) sc_law.nd rfl (by first | exact Or.inl rfl | exact Or.inr rfl) h))
      (qss_cons (qs_if (t_rel (c_ne (deep_of hr)) (q_look (q_repr hg (deep_of hr) (by rfl) m_repr (qv_cons (q_look (q_tup (qa_cons (q_g (by rfl) g_OPS) (qa_cons (q_g (by rfl) g_WIDTHS) qa_nil)))) qv_nil))) (q_look (q_repr hg (deep_of hr) (by rfl) m_repr (qv_cons (q_look (q_tup (qa_cons (q_var (pv 2)) (qa_cons (q_tup (qa_cons q_int (qa_cons q_int (qa_cons q_int (qa_cons q_int (qa_cons q_int qa_nil)))))) qa_nil)))) qv_nil)))) (qss_one (qs_ret q_bl)) qss_nil)
      (qss_cons (qs_for PassesOwn.never rfl (i_range1 (by rfl) m_range (qa_cons q_int qa_nil)) (g_name (pg_name (i := 3) sc_law.nd rfl (by first | exact Or.inl rfl | exact Or.inr rfl))) (qss_cons (qs_set (i := 4) (q_callD c__law_of hg hr (by decide) (by rfl) (pv 1) (qa_cons (q_ofO (qo_lst (qa_cons q_int (qa_cons q_int (qa_cons q_int (qa_cons q_int (qa_cons q_int qa_nil))))))) qa_nil)) (fun te h => ps_set (i := 4) sc_law.nd rfl (by first | exact Or.inl rfl | exact Or.inr rfl) h))
      (qss_cons (qs_parX (i := 5) (j := 6) sc_law.nd rfl rfl rfl rfl (qx_dat (q_callD c__law_number hg hr (by decide) (by rfl) (pv 1) (qa_cons (q_var (pv 4)) qa_nil))) (qx_dat (q_callD c__law_number hg hr (by decide) (by rfl) (pv 1) (qa_cons (q_var (pv 4)) qa_nil))))
      (qss_cons (qs_if (t_w (w_or (t_rel c_isnot (q_look (q_callK ck_is_of_width_width_value hg hr (by decide) (by rfl) (qk_cons (q_var (pv 4)) (qk_cons (q_var (pv 5)) qk_nil)))) (q_look q_bl)) (w_or1 (t_rel c_isnot (q_look (q_callK ck_is_width_value hg hr (by decide) (by rfl) (qk_cons (q_var (pv 4)) qk_nil))) (q_look q_bl))))) (qss_one (qs_ret q_bl)) qss_nil)
      (qss_cons (qs_if (t_rel (c_ne (deep_of hr)) (q_look (q_repr hg (deep_of hr) (by rfl) m_repr (qv_cons (q_look (q_callK ck_signed_width_number hg hr (by decide) (by rfl) (qk_cons (q_var (pv 4)) (qk_cons (q_var (pv 5)) qk_nil)))) qv_nil))) (q_look (q_repr hg (deep_of hr) (by rfl) m_repr (qv_cons (q_look (q_call c__law_read hg hr (by decide) (by rfl) (qa_cons (q_call c__law_digits hg hr (by decide) (by rfl) (qa_cons (q_var (pv 5)) (qa_cons (q_var (pv 4)) qa_nil))) qa_nil))) qv_nil)))) (qss_one (qs_ret q_bl)) qss_nil)
      (qss_cons (qs_for PassesOwn.never rfl (i_tup (q_var (pv 2))) (g_name (pg_name (i := 7) sc_law.nd rfl (by first | exact Or.inl rfl | exact Or.inr rfl))) (qss_one (qs_if (t_rel (c_ne (deep_of hr)) (q_look (q_repr hg (deep_of hr) (by rfl) m_repr (qv_cons (q_look (q_callK ck_bin_told_other_one_width_op hg hr (by decide) (by rfl) (qk_cons (q_var (pv 6)) (qk_cons (q_var (pv 5)) (qk_cons (q_var (pv 4)) (qk_cons (q_var (pv 7)) qk_nil)))))) qv_nil))) (q_look (q_repr hg (deep_of hr) (by rfl) m_repr (qv_cons (q_look (q_call c__law_due hg hr (by decide) (by rfl) (qa_cons (q_var (pv 7)) (qa_cons (q_var (pv 4)) (qa_cons (q_var (pv 5)) (qa_cons (q_var (pv 6)) qa_nil)))))) qv_nil)))) (qss_one (qs_ret q_bl)) qss_nil)))
      (qss_cons (qs_set (i := 8) (q_callD c__law_of hg hr (by decide) (by rfl) (pv 1) (qa_cons (q_ofO (qo_lst (qa_cons (q_mul (q_var (pv 5)) (q_var (pv 6))) (qa_cons (q_sub (q_pow q_int q_int) (q_callD c__law_any hg hr (by decide) (by rfl) (pv 1) (qa_cons (q_pow q_int q_int) qa_nil))) (qa_cons (q_sub q_int (q_callD c__law_any hg hr (by decide) (by rfl) (pv 1) (qa_cons (q_pow q_int q_int) qa_nil))) (qa_cons (q_sub (q_var (pv 5)) (q_call c__law_power hg hr (by decide) (by rfl) (qa_cons (q_var (pv 4)) qa_nil))) qa_nil)))))) qa_nil)) (fun te h => ps_set (i := 8) sc_law.nd rfl (by first | exact Or.inl rfl | exact Or.inr rfl) h))
      (qss_cons (qs_if (t_rel (c_ne (deep_of hr)) (q_look (q_repr hg (deep_of hr) (by rfl) m_repr (qv_cons (q_look (q_callK ck_wrapped_width_number hg hr (by decide) (by rfl) (qk_cons (q_var (pv 4)) (qk_cons (q_var (pv 8)) qk_nil)))) qv_nil))) (q_look (q_repr hg (deep_of hr) (by rfl) m_repr (qv_cons (q_look (q_call c__law_back hg hr (by decide) (by rfl) (qa_cons (q_call c__law_digits hg hr (by decide) (by rfl) (qa_cons (q_var (pv 8)) (qa_cons (q_var (pv 4)) qa_nil))) qa_nil))) qv_nil)))) (qss_one (qs_ret q_bl)) qss_nil)
      (qss_cons (qs_set (i := 9) (q_callD c__law_of hg hr (by decide) (by rfl) (pv 1) (qa_cons (q_ofO (qo_lst (qa_cons (q_call c__law_power hg hr (by decide) (by rfl) (qa_cons (q_var (pv 4)) qa_nil)) (qa_cons (q_neg q_int) (qa_cons q_bl (qa_cons q_bl (qa_cons q_non (qa_cons q_str (qa_cons (q_tup (qa_cons q_int qa_nil)) (qa_cons (q_pow q_int q_int) qa_nil)))))))))) qa_nil)) (fun te h => ps_set (i := 9) sc_law.nd rfl (by first | exact Or.inl rfl | exact Or.inr rfl) h))
      (qss_one (qs_if (t_w (w_or (t_rel c_isnot (q_look (q_call c_is_of_width hg hr (by decide) (by rfl) (qa_cons (q_var (pv 9)) (qa_cons (q_var (pv 4)) qa_nil)))) (q_look q_bl)) (w_or1 (t_rel c_isnot (q_look (q_call c_is_width hg hr (by decide) (by rfl) (qa_cons (q_callD c__law_of hg hr (by decide) (by rfl) (pv 1) (qa_cons (q_ofO (qo_lst (qa_cons q_int (qa_cons q_int (qa_cons q_int (qa_cons q_int (qa_cons (q_neg q_int) (qa_cons q_bl (qa_cons q_non (qa_cons q_str (qa_cons (q_tup (qa_cons q_int qa_nil)) qa_nil))))))))))) qa_nil)) qa_nil))) (q_look q_bl))))) (qss_one (qs_ret q_bl)) qss_nil)))))))))))
      (qss_one (qs_ret q_bl)))))) math
end
theorem all_mk {l : PySem.W.OpenLaw} {w : World} {K : PySem.W.Frag} {h : Heap} {mg : Str → Option Value} {fa f0 f1 f2 f3 f4 f5 f6 f7 f8 f9 f10 f11 f12 f13 f14 f15 f16 f17 f18 f19 f20 f21 f22 f23 f24 f25 f26 f27 f28 f29 f30 : Addr} (X : K.In h) (G : h.Ns mainGlobals mg) (hfa : mg "law" = some (.ref fa))
    {od0 an0 : Option Addr} {sl0 : Array (Option Value)} {oc0 kV0 dc0 pm0 cd0 ct0 : Value}
    (a0 : PySem.W.nsIn K mainGlobals "_law_draw" = some (some (.ref f0))) (l0 : K.lookup f0 = some ⟨oc0, od0, .func (PySem.W.fnOf "_law_draw" "_law_draw" (defArgs s__law_draw) (defBody s__law_draw) (defScope s__law_draw) .none kV0 dc0 pm0 an0 cd0 ct0), sl0⟩) (c0 : PySem.W.codeIn K cd0 "_law_draw" = true) (k0 : PySem.W.keepIn K (.ref f0) = true)
    {od1 an1 : Option Addr} {sl1 : Array (Option Value)} {oc1 kV1 dc1 pm1 cd1 ct1 : Value}
    (a1 : PySem.W.nsIn K mainGlobals "_law_any" = some (some (.ref f1))) (l1 : K.lookup f1 = some ⟨oc1, od1, .func (PySem.W.fnOf "_law_any" "_law_any" (defArgs s__law_any) (defBody s__law_any) (defScope s__law_any) .none kV1 dc1 pm1 an1 cd1 ct1), sl1⟩) (c1 : PySem.W.codeIn K cd1 "_law_any" = true) (k1 : PySem.W.keepIn K (.ref f1) = true)
    {od2 an2 : Option Addr} {sl2 : Array (Option Value)} {oc2 kV2 dc2 pm2 cd2 ct2 : Value}
    (a2 : PySem.W.nsIn K mainGlobals "_law_of" = some (some (.ref f2))) (l2 : K.lookup f2 = some ⟨oc2, od2, .func (PySem.W.fnOf "_law_of" "_law_of" (defArgs s__law_of) (defBody s__law_of) (defScope s__law_of) .none kV2 dc2 pm2 an2 cd2 ct2), sl2⟩) (c2 : PySem.W.codeIn K cd2 "_law_of" = true) (k2 : PySem.W.keepIn K (.ref f2) = true)
    {od3 an3 : Option Addr} {sl3 : Array (Option Value)} {oc3 kV3 dc3 pm3 cd3 ct3 : Value}
    (a3 : PySem.W.nsIn K mainGlobals "_law_power" = some (some (.ref f3))) (l3 : K.lookup f3 = some ⟨oc3, od3, .func (PySem.W.fnOf "_law_power" "_law_power" (defArgs s__law_power) (defBody s__law_power) (defScope s__law_power) .none kV3 dc3 pm3 an3 cd3 ct3), sl3⟩) (c3 : PySem.W.codeIn K cd3 "_law_power" = true) (k3 : PySem.W.keepIn K (.ref f3) = true)
    {od4 an4 : Option Addr} {sl4 : Array (Option Value)} {oc4 kV4 dc4 pm4 cd4 ct4 : Value}
    (a4 : PySem.W.nsIn K mainGlobals "_law_number" = some (some (.ref f4))) (l4 : K.lookup f4 = some ⟨oc4, od4, .func (PySem.W.fnOf "_law_number" "_law_number" (defArgs s__law_number) (defBody s__law_number) (defScope s__law_number) .none kV4 dc4 pm4 an4 cd4 ct4), sl4⟩) (c4 : PySem.W.codeIn K cd4 "_law_number" = true) (k4 : PySem.W.keepIn K (.ref f4) = true)
    {od5 an5 : Option Addr} {sl5 : Array (Option Value)} {oc5 kV5 dc5 pm5 cd5 ct5 : Value}
    (a5 : PySem.W.nsIn K mainGlobals "is_number" = some (some (.ref f5))) (l5 : K.lookup f5 = some ⟨oc5, od5, .func (PySem.W.fnOf "is_number" "is_number" (defArgs s_is_number) (defBody s_is_number) (defScope s_is_number) .none kV5 dc5 pm5 an5 cd5 ct5), sl5⟩) (c5 : PySem.W.codeIn K cd5 "is_number" = true) (k5 : PySem.W.keepIn K (.ref f5) = true)
    {od6 an6 : Option Addr} {sl6 : Array (Option Value)} {oc6 kV6 dc6 pm6 cd6 ct6 : Value}
    (a6 : PySem.W.nsIn K mainGlobals "is_width" = some (some (.ref f6))) (l6 : K.lookup f6 = some ⟨oc6, od6, .func (PySem.W.fnOf "is_width" "is_width" (defArgs s_is_width) (defBody s_is_width) (defScope s_is_width) .none kV6 dc6 pm6 an6 cd6 ct6), sl6⟩) (c6 : PySem.W.codeIn K cd6 "is_width" = true) (k6 : PySem.W.keepIn K (.ref f6) = true)
    {od7 an7 : Option Addr} {sl7 : Array (Option Value)} {oc7 kV7 dc7 pm7 cd7 ct7 : Value}
    (a7 : PySem.W.nsIn K mainGlobals "is_of_width" = some (some (.ref f7))) (l7 : K.lookup f7 = some ⟨oc7, od7, .func (PySem.W.fnOf "is_of_width" "is_of_width" (defArgs s_is_of_width) (defBody s_is_of_width) (defScope s_is_of_width) .none kV7 dc7 pm7 an7 cd7 ct7), sl7⟩) (c7 : PySem.W.codeIn K cd7 "is_of_width" = true) (k7 : PySem.W.keepIn K (.ref f7) = true)
    {od8 an8 : Option Addr} {sl8 : Array (Option Value)} {oc8 kV8 dc8 pm8 cd8 ct8 : Value}
    (a8 : PySem.W.nsIn K mainGlobals "signed" = some (some (.ref f8))) (l8 : K.lookup f8 = some ⟨oc8, od8, .func (PySem.W.fnOf "signed" "signed" (defArgs s_signed) (defBody s_signed) (defScope s_signed) .none kV8 dc8 pm8 an8 cd8 ct8), sl8⟩) (c8 : PySem.W.codeIn K cd8 "signed" = true) (k8 : PySem.W.keepIn K (.ref f8) = true)
    {od9 an9 : Option Addr} {sl9 : Array (Option Value)} {oc9 kV9 dc9 pm9 cd9 ct9 : Value}
    (a9 : PySem.W.nsIn K mainGlobals "_law_read" = some (some (.ref f9))) (l9 : K.lookup f9 = some ⟨oc9, od9, .func (PySem.W.fnOf "_law_read" "_law_read" (defArgs s__law_read) (defBody s__law_read) (defScope s__law_read) .none kV9 dc9 pm9 an9 cd9 ct9), sl9⟩) (c9 : PySem.W.codeIn K cd9 "_law_read" = true) (k9 : PySem.W.keepIn K (.ref f9) = true)
    {od10 an10 : Option Addr} {sl10 : Array (Option Value)} {oc10 kV10 dc10 pm10 cd10 ct10 : Value}
    (a10 : PySem.W.nsIn K mainGlobals "wrapped" = some (some (.ref f10))) (l10 : K.lookup f10 = some ⟨oc10, od10, .func (PySem.W.fnOf "wrapped" "wrapped" (defArgs s_wrapped) (defBody s_wrapped) (defScope s_wrapped) .none kV10 dc10 pm10 an10 cd10 ct10), sl10⟩) (c10 : PySem.W.codeIn K cd10 "wrapped" = true) (k10 : PySem.W.keepIn K (.ref f10) = true)
    {od11 an11 : Option Addr} {sl11 : Array (Option Value)} {oc11 kV11 dc11 pm11 cd11 ct11 : Value}
    (a11 : PySem.W.nsIn K mainGlobals "_law_back" = some (some (.ref f11))) (l11 : K.lookup f11 = some ⟨oc11, od11, .func (PySem.W.fnOf "_law_back" "_law_back" (defArgs s__law_back) (defBody s__law_back) (defScope s__law_back) .none kV11 dc11 pm11 an11 cd11 ct11), sl11⟩) (c11 : PySem.W.codeIn K cd11 "_law_back" = true) (k11 : PySem.W.keepIn K (.ref f11) = true)
    {od12 an12 : Option Addr} {sl12 : Array (Option Value)} {oc12 kV12 dc12 pm12 cd12 ct12 : Value}
    (a12 : PySem.W.nsIn K mainGlobals "_law_digits" = some (some (.ref f12))) (l12 : K.lookup f12 = some ⟨oc12, od12, .func (PySem.W.fnOf "_law_digits" "_law_digits" (defArgs s__law_digits) (defBody s__law_digits) (defScope s__law_digits) .none kV12 dc12 pm12 an12 cd12 ct12), sl12⟩) (c12 : PySem.W.codeIn K cd12 "_law_digits" = true) (k12 : PySem.W.keepIn K (.ref f12) = true)
    {od13 an13 : Option Addr} {sl13 : Array (Option Value)} {oc13 kV13 dc13 pm13 cd13 ct13 : Value}
    (a13 : PySem.W.nsIn K mainGlobals "told_add" = some (some (.ref f13))) (l13 : K.lookup f13 = some ⟨oc13, od13, .func (PySem.W.fnOf "told_add" "told_add" (defArgs s_told_add) (defBody s_told_add) (defScope s_told_add) .none kV13 dc13 pm13 an13 cd13 ct13), sl13⟩) (c13 : PySem.W.codeIn K cd13 "told_add" = true) (k13 : PySem.W.keepIn K (.ref f13) = true)
    {od14 an14 : Option Addr} {sl14 : Array (Option Value)} {oc14 kV14 dc14 pm14 cd14 ct14 : Value}
    (a14 : PySem.W.nsIn K mainGlobals "told_sub" = some (some (.ref f14))) (l14 : K.lookup f14 = some ⟨oc14, od14, .func (PySem.W.fnOf "told_sub" "told_sub" (defArgs s_told_sub) (defBody s_told_sub) (defScope s_told_sub) .none kV14 dc14 pm14 an14 cd14 ct14), sl14⟩) (c14 : PySem.W.codeIn K cd14 "told_sub" = true) (k14 : PySem.W.keepIn K (.ref f14) = true)
    {od15 an15 : Option Addr} {sl15 : Array (Option Value)} {oc15 kV15 dc15 pm15 cd15 ct15 : Value}
    (a15 : PySem.W.nsIn K mainGlobals "told_mul" = some (some (.ref f15))) (l15 : K.lookup f15 = some ⟨oc15, od15, .func (PySem.W.fnOf "told_mul" "told_mul" (defArgs s_told_mul) (defBody s_told_mul) (defScope s_told_mul) .none kV15 dc15 pm15 an15 cd15 ct15), sl15⟩) (c15 : PySem.W.codeIn K cd15 "told_mul" = true) (k15 : PySem.W.keepIn K (.ref f15) = true)
    {od16 an16 : Option Addr} {sl16 : Array (Option Value)} {oc16 kV16 dc16 pm16 cd16 ct16 : Value}
    (a16 : PySem.W.nsIn K mainGlobals "told_udiv" = some (some (.ref f16))) (l16 : K.lookup f16 = some ⟨oc16, od16, .func (PySem.W.fnOf "told_udiv" "told_udiv" (defArgs s_told_udiv) (defBody s_told_udiv) (defScope s_told_udiv) .none kV16 dc16 pm16 an16 cd16 ct16), sl16⟩) (c16 : PySem.W.codeIn K cd16 "told_udiv" = true) (k16 : PySem.W.keepIn K (.ref f16) = true)
    {od17 an17 : Option Addr} {sl17 : Array (Option Value)} {oc17 kV17 dc17 pm17 cd17 ct17 : Value}
    (a17 : PySem.W.nsIn K mainGlobals "quotient" = some (some (.ref f17))) (l17 : K.lookup f17 = some ⟨oc17, od17, .func (PySem.W.fnOf "quotient" "quotient" (defArgs s_quotient) (defBody s_quotient) (defScope s_quotient) .none kV17 dc17 pm17 an17 cd17 ct17), sl17⟩) (c17 : PySem.W.codeIn K cd17 "quotient" = true) (k17 : PySem.W.keepIn K (.ref f17) = true)
    {od18 an18 : Option Addr} {sl18 : Array (Option Value)} {oc18 kV18 dc18 pm18 cd18 ct18 : Value}
    (a18 : PySem.W.nsIn K mainGlobals "told_sdiv" = some (some (.ref f18))) (l18 : K.lookup f18 = some ⟨oc18, od18, .func (PySem.W.fnOf "told_sdiv" "told_sdiv" (defArgs s_told_sdiv) (defBody s_told_sdiv) (defScope s_told_sdiv) .none kV18 dc18 pm18 an18 cd18 ct18), sl18⟩) (c18 : PySem.W.codeIn K cd18 "told_sdiv" = true) (k18 : PySem.W.keepIn K (.ref f18) = true)
    {od19 an19 : Option Addr} {sl19 : Array (Option Value)} {oc19 kV19 dc19 pm19 cd19 ct19 : Value}
    (a19 : PySem.W.nsIn K mainGlobals "told_urem" = some (some (.ref f19))) (l19 : K.lookup f19 = some ⟨oc19, od19, .func (PySem.W.fnOf "told_urem" "told_urem" (defArgs s_told_urem) (defBody s_told_urem) (defScope s_told_urem) .none kV19 dc19 pm19 an19 cd19 ct19), sl19⟩) (c19 : PySem.W.codeIn K cd19 "told_urem" = true) (k19 : PySem.W.keepIn K (.ref f19) = true)
    {od20 an20 : Option Addr} {sl20 : Array (Option Value)} {oc20 kV20 dc20 pm20 cd20 ct20 : Value}
    (a20 : PySem.W.nsIn K mainGlobals "told_srem" = some (some (.ref f20))) (l20 : K.lookup f20 = some ⟨oc20, od20, .func (PySem.W.fnOf "told_srem" "told_srem" (defArgs s_told_srem) (defBody s_told_srem) (defScope s_told_srem) .none kV20 dc20 pm20 an20 cd20 ct20), sl20⟩) (c20 : PySem.W.codeIn K cd20 "told_srem" = true) (k20 : PySem.W.keepIn K (.ref f20) = true)
    {od21 an21 : Option Addr} {sl21 : Array (Option Value)} {oc21 kV21 dc21 pm21 cd21 ct21 : Value}
    (a21 : PySem.W.nsIn K mainGlobals "told_and" = some (some (.ref f21))) (l21 : K.lookup f21 = some ⟨oc21, od21, .func (PySem.W.fnOf "told_and" "told_and" (defArgs s_told_and) (defBody s_told_and) (defScope s_told_and) .none kV21 dc21 pm21 an21 cd21 ct21), sl21⟩) (c21 : PySem.W.codeIn K cd21 "told_and" = true) (k21 : PySem.W.keepIn K (.ref f21) = true)
    {od22 an22 : Option Addr} {sl22 : Array (Option Value)} {oc22 kV22 dc22 pm22 cd22 ct22 : Value}
    (a22 : PySem.W.nsIn K mainGlobals "told_or" = some (some (.ref f22))) (l22 : K.lookup f22 = some ⟨oc22, od22, .func (PySem.W.fnOf "told_or" "told_or" (defArgs s_told_or) (defBody s_told_or) (defScope s_told_or) .none kV22 dc22 pm22 an22 cd22 ct22), sl22⟩) (c22 : PySem.W.codeIn K cd22 "told_or" = true) (k22 : PySem.W.keepIn K (.ref f22) = true)
    {od23 an23 : Option Addr} {sl23 : Array (Option Value)} {oc23 kV23 dc23 pm23 cd23 ct23 : Value}
    (a23 : PySem.W.nsIn K mainGlobals "told_xor" = some (some (.ref f23))) (l23 : K.lookup f23 = some ⟨oc23, od23, .func (PySem.W.fnOf "told_xor" "told_xor" (defArgs s_told_xor) (defBody s_told_xor) (defScope s_told_xor) .none kV23 dc23 pm23 an23 cd23 ct23), sl23⟩) (c23 : PySem.W.codeIn K cd23 "told_xor" = true) (k23 : PySem.W.keepIn K (.ref f23) = true)
    {od24 an24 : Option Addr} {sl24 : Array (Option Value)} {oc24 kV24 dc24 pm24 cd24 ct24 : Value}
    (a24 : PySem.W.nsIn K mainGlobals "told_shl" = some (some (.ref f24))) (l24 : K.lookup f24 = some ⟨oc24, od24, .func (PySem.W.fnOf "told_shl" "told_shl" (defArgs s_told_shl) (defBody s_told_shl) (defScope s_told_shl) .none kV24 dc24 pm24 an24 cd24 ct24), sl24⟩) (c24 : PySem.W.codeIn K cd24 "told_shl" = true) (k24 : PySem.W.keepIn K (.ref f24) = true)
    {od25 an25 : Option Addr} {sl25 : Array (Option Value)} {oc25 kV25 dc25 pm25 cd25 ct25 : Value}
    (a25 : PySem.W.nsIn K mainGlobals "told_lshr" = some (some (.ref f25))) (l25 : K.lookup f25 = some ⟨oc25, od25, .func (PySem.W.fnOf "told_lshr" "told_lshr" (defArgs s_told_lshr) (defBody s_told_lshr) (defScope s_told_lshr) .none kV25 dc25 pm25 an25 cd25 ct25), sl25⟩) (c25 : PySem.W.codeIn K cd25 "told_lshr" = true) (k25 : PySem.W.keepIn K (.ref f25) = true)
    {od26 an26 : Option Addr} {sl26 : Array (Option Value)} {oc26 kV26 dc26 pm26 cd26 ct26 : Value}
    (a26 : PySem.W.nsIn K mainGlobals "told_ashr" = some (some (.ref f26))) (l26 : K.lookup f26 = some ⟨oc26, od26, .func (PySem.W.fnOf "told_ashr" "told_ashr" (defArgs s_told_ashr) (defBody s_told_ashr) (defScope s_told_ashr) .none kV26 dc26 pm26 an26 cd26 ct26), sl26⟩) (c26 : PySem.W.codeIn K cd26 "told_ashr" = true) (k26 : PySem.W.keepIn K (.ref f26) = true)
    {od27 an27 : Option Addr} {sl27 : Array (Option Value)} {oc27 kV27 dc27 pm27 cd27 ct27 : Value}
    (a27 : PySem.W.nsIn K mainGlobals "bin_told" = some (some (.ref f27))) (l27 : K.lookup f27 = some ⟨oc27, od27, .func (PySem.W.fnOf "bin_told" "bin_told" (defArgs s_bin_told) (defBody s_bin_told) (defScope s_bin_told) .none kV27 dc27 pm27 an27 cd27 ct27), sl27⟩) (c27 : PySem.W.codeIn K cd27 "bin_told" = true) (k27 : PySem.W.keepIn K (.ref f27) = true)
    {od28 an28 : Option Addr} {sl28 : Array (Option Value)} {oc28 kV28 dc28 pm28 cd28 ct28 : Value}
    (a28 : PySem.W.nsIn K mainGlobals "_law_times" = some (some (.ref f28))) (l28 : K.lookup f28 = some ⟨oc28, od28, .func (PySem.W.fnOf "_law_times" "_law_times" (defArgs s__law_times) (defBody s__law_times) (defScope s__law_times) .none kV28 dc28 pm28 an28 cd28 ct28), sl28⟩) (c28 : PySem.W.codeIn K cd28 "_law_times" = true) (k28 : PySem.W.keepIn K (.ref f28) = true)
    {od29 an29 : Option Addr} {sl29 : Array (Option Value)} {oc29 kV29 dc29 pm29 cd29 ct29 : Value}
    (a29 : PySem.W.nsIn K mainGlobals "_law_due" = some (some (.ref f29))) (l29 : K.lookup f29 = some ⟨oc29, od29, .func (PySem.W.fnOf "_law_due" "_law_due" (defArgs s__law_due) (defBody s__law_due) (defScope s__law_due) .none kV29 dc29 pm29 an29 cd29 ct29), sl29⟩) (c29 : PySem.W.codeIn K cd29 "_law_due" = true) (k29 : PySem.W.keepIn K (.ref f29) = true)
    {od30 an30 : Option Addr} {sl30 : Array (Option Value)} {oc30 kV30 dc30 pm30 cd30 ct30 : Value}
    (a30 : PySem.W.nsIn K mainGlobals "law" = some (some (.ref f30))) (l30 : K.lookup f30 = some ⟨oc30, od30, .func (PySem.W.fnOf "law" "law" (defArgs s_law) (defBody s_law) (defScope s_law) .none kV30 dc30 pm30 an30 cd30 ct30), sl30⟩) (c30 : PySem.W.codeIn K cd30 "law" = true) (k30 : PySem.W.keepIn K (.ref f30) = true)
    (z0 : PySem.W.nsIn K mainGlobals "abs" = some none) (z1 : PySem.W.nsIn K mainGlobals "bool" = some none) (z2 : PySem.W.nsIn K mainGlobals "enumerate" = some none) (z3 : PySem.W.nsIn K mainGlobals "int" = some none) (z4 : PySem.W.nsIn K mainGlobals "isinstance" = some none) (z5 : PySem.W.nsIn K mainGlobals "len" = some none) (z6 : PySem.W.nsIn K mainGlobals "list" = some none) (z7 : PySem.W.nsIn K mainGlobals "range" = some none) (z8 : PySem.W.nsIn K mainGlobals "repr" = some none) (z9 : PySem.W.nsIn K mainGlobals "zip" = some none) {pd : Addr} {des : Array DictEntry} {dn : Nat} (dd1 : PySem.W.nsIn K mainGlobals "BIN_ACTIONS" = some (some (.ref pd))) (dd2 : K.lookup pd = some ⟨.type "dict", none, .dict des dn, #[]⟩) (dd3 : PySem.W.KeysLit w.params des.toList) (de0 : PySem.W.nsIn K pd "add" = some (some (.ref f13))) (de1 : PySem.W.nsIn K pd "sub" = some (some (.ref f14))) (de2 : PySem.W.nsIn K pd "mul" = some (some (.ref f15))) (de3 : PySem.W.nsIn K pd "udiv" = some (some (.ref f16))) (de4 : PySem.W.nsIn K pd "sdiv" = some (some (.ref f18))) (de5 : PySem.W.nsIn K pd "urem" = some (some (.ref f19))) (de6 : PySem.W.nsIn K pd "srem" = some (some (.ref f20))) (de7 : PySem.W.nsIn K pd "and" = some (some (.ref f21))) (de8 : PySem.W.nsIn K pd "or" = some (some (.ref f22))) (de9 : PySem.W.nsIn K pd "xor" = some (some (.ref f23))) (de10 : PySem.W.nsIn K pd "shl" = some (some (.ref f24))) (de11 : PySem.W.nsIn K pd "lshr" = some (some (.ref f25))) (de12 : PySem.W.nsIn K pd "ashr" = some (some (.ref f26))) (g_OPS : Glo K mg "OPS" (.tuple [(.str "add"), (.str "sub"), (.str "mul"), (.str "udiv"), (.str "sdiv"), (.str "urem"), (.str "srem"), (.str "and"), (.str "or"), (.str "xor"), (.str "shl"), (.str "lshr"), (.str "ashr")])) (g_WIDTHS : Glo K mg "WIDTHS" (.tuple [(.int 1), (.int 8), (.int 16), (.int 32), (.int 64)])) :
    ∃ fd : FuncData, (∀ (s : Shared) (v : Value), BindsTo s fd ⟨[v], []⟩ [("script", v)]) ∧ ∀ base : Heap, K.In base → base.Ns mainGlobals mg → FnG l.prog w K mg base CX0 4 fa fd ["script"] (spLaw K lawMost lawW) := by
  have e := hfa.symm.trans (PySem.W.mg_of X G a30)
  cases e
  have F0 := fun_mk (st := s__law_draw) l0 c0 k0
  have b0 := F0.binds (ps := ["script", "salt"]) fun _ _ _ _ _ _ us hl => match us, hl with | [_, _], _ => rfl
  have F1 := fun_mk (st := s__law_any) l1 c1 k1
  have b1 := F1.binds (ps := ["deal", "bound"]) fun _ _ _ _ _ _ us hl => match us, hl with | [_, _], _ => rfl
  have F2 := fun_mk (st := s__law_of) l2 c2 k2
  have b2 := F2.binds (ps := ["deal", "some"]) fun _ _ _ _ _ _ us hl => match us, hl with | [_, _], _ => rfl
  have F3 := fun_mk (st := s__law_power) l3 c3 k3
  have b3 := F3.binds (ps := ["many"]) fun _ _ _ _ _ _ us hl => match us, hl with | [_], _ => rfl
  have F4 := fun_mk (st := s__law_number) l4 c4 k4
  have b4 := F4.binds (ps := ["deal", "width"]) fun _ _ _ _ _ _ us hl => match us, hl with | [_, _], _ => rfl
  have F5 := fun_mk (st := s_is_number) l5 c5 k5
  have b5 := F5.binds (ps := ["value"]) fun _ _ _ _ _ _ us hl => match us, hl with | [_], _ => rfl
  have F6 := fun_mk (st := s_is_width) l6 c6 k6
  have b6 := F6.binds (ps := ["value"]) fun _ _ _ _ _ _ us hl => match us, hl with | [_], _ => rfl
  have bk6_value := F6.bindsK (ps := ["value"]) (ks := ["value"]) (π := [0]) fun _ _ _ _ _ _ ws hl => match ws, hl with | [_], _ => rfl
  have F7 := fun_mk (st := s_is_of_width) l7 c7 k7
  have b7 := F7.binds (ps := ["value", "width"]) fun _ _ _ _ _ _ us hl => match us, hl with | [_, _], _ => rfl
  have bk7_width_value := F7.bindsK (ps := ["value", "width"]) (ks := ["width", "value"]) (π := [1, 0]) fun _ _ _ _ _ _ ws hl => match ws, hl with | [_, _], _ => rfl
  have F8 := fun_mk (st := s_signed) l8 c8 k8
  have b8 := F8.binds (ps := ["number", "width"]) fun _ _ _ _ _ _ us hl => match us, hl with | [_, _], _ => rfl
  have bk8_width_number := F8.bindsK (ps := ["number", "width"]) (ks := ["width", "number"]) (π := [1, 0]) fun _ _ _ _ _ _ ws hl => match ws, hl with | [_, _], _ => rfl
  have F9 := fun_mk (st := s__law_read) l9 c9 k9
  have b9 := F9.binds (ps := ["digits"]) fun _ _ _ _ _ _ us hl => match us, hl with | [_], _ => rfl
  have F10 := fun_mk (st := s_wrapped) l10 c10 k10
  have b10 := F10.binds (ps := ["number", "width"]) fun _ _ _ _ _ _ us hl => match us, hl with | [_, _], _ => rfl
  have bk10_width_number := F10.bindsK (ps := ["number", "width"]) (ks := ["width", "number"]) (π := [1, 0]) fun _ _ _ _ _ _ ws hl => match ws, hl with | [_, _], _ => rfl
  have F11 := fun_mk (st := s__law_back) l11 c11 k11
  have b11 := F11.binds (ps := ["digits"]) fun _ _ _ _ _ _ us hl => match us, hl with | [_], _ => rfl
  have F12 := fun_mk (st := s__law_digits) l12 c12 k12
  have b12 := F12.binds (ps := ["number", "width"]) fun _ _ _ _ _ _ us hl => match us, hl with | [_, _], _ => rfl
  have F13 := fun_mk (st := s_told_add) l13 c13 k13
  have b13 := F13.binds (ps := ["width", "one", "other"]) fun _ _ _ _ _ _ us hl => match us, hl with | [_, _, _], _ => rfl
  have F14 := fun_mk (st := s_told_sub) l14 c14 k14
  have b14 := F14.binds (ps := ["width", "one", "other"]) fun _ _ _ _ _ _ us hl => match us, hl with | [_, _, _], _ => rfl
  have F15 := fun_mk (st := s_told_mul) l15 c15 k15
  have b15 := F15.binds (ps := ["width", "one", "other"]) fun _ _ _ _ _ _ us hl => match us, hl with | [_, _, _], _ => rfl
  have F16 := fun_mk (st := s_told_udiv) l16 c16 k16
  have b16 := F16.binds (ps := ["_", "one", "other"]) fun _ _ _ _ _ _ us hl => match us, hl with | [_, _, _], _ => rfl
  have F17 := fun_mk (st := s_quotient) l17 c17 k17
  have b17 := F17.binds (ps := ["one", "other"]) fun _ _ _ _ _ _ us hl => match us, hl with | [_, _], _ => rfl
  have F18 := fun_mk (st := s_told_sdiv) l18 c18 k18
  have b18 := F18.binds (ps := ["width", "one", "other"]) fun _ _ _ _ _ _ us hl => match us, hl with | [_, _, _], _ => rfl
  have F19 := fun_mk (st := s_told_urem) l19 c19 k19
  have b19 := F19.binds (ps := ["_", "one", "other"]) fun _ _ _ _ _ _ us hl => match us, hl with | [_, _, _], _ => rfl
  have F20 := fun_mk (st := s_told_srem) l20 c20 k20
  have b20 := F20.binds (ps := ["width", "one", "other"]) fun _ _ _ _ _ _ us hl => match us, hl with | [_, _, _], _ => rfl
  have F21 := fun_mk (st := s_told_and) l21 c21 k21
  have b21 := F21.binds (ps := ["_", "one", "other"]) fun _ _ _ _ _ _ us hl => match us, hl with | [_, _, _], _ => rfl
  have F22 := fun_mk (st := s_told_or) l22 c22 k22
  have b22 := F22.binds (ps := ["_", "one", "other"]) fun _ _ _ _ _ _ us hl => match us, hl with | [_, _, _], _ => rfl
  have F23 := fun_mk (st := s_told_xor) l23 c23 k23
  have b23 := F23.binds (ps := ["_", "one", "other"]) fun _ _ _ _ _ _ us hl => match us, hl with | [_, _, _], _ => rfl
  have F24 := fun_mk (st := s_told_shl) l24 c24 k24
  have b24 := F24.binds (ps := ["width", "one", "other"]) fun _ _ _ _ _ _ us hl => match us, hl with | [_, _, _], _ => rfl
  have F25 := fun_mk (st := s_told_lshr) l25 c25 k25
  have b25 := F25.binds (ps := ["width", "one", "other"]) fun _ _ _ _ _ _ us hl => match us, hl with | [_, _, _], _ => rfl
  have F26 := fun_mk (st := s_told_ashr) l26 c26 k26
  have b26 := F26.binds (ps := ["width", "one", "other"]) fun _ _ _ _ _ _ us hl => match us, hl with | [_, _, _], _ => rfl
  have F27 := fun_mk (st := s_bin_told) l27 c27 k27
  have b27 := F27.binds (ps := ["op", "width", "one", "other"]) fun _ _ _ _ _ _ us hl => match us, hl with | [_, _, _, _], _ => rfl
  have bk27_other_one_width_op := F27.bindsK (ps := ["op", "width", "one", "other"]) (ks := ["other", "one", "width", "op"]) (π := [3, 2, 1, 0]) fun _ _ _ _ _ _ ws hl => match ws, hl with | [_, _, _, _], _ => rfl
  have F28 := fun_mk (st := s__law_times) l28 c28 k28
  have b28 := F28.binds (ps := ["one", "other", "width"]) fun _ _ _ _ _ _ us hl => match us, hl with | [_, _, _], _ => rfl
  have F29 := fun_mk (st := s__law_due) l29 c29 k29
  have b29 := F29.binds (ps := ["op", "width", "one", "other"]) fun _ _ _ _ _ _ us hl => match us, hl with | [_, _, _, _], _ => rfl
  have F30 := fun_mk (st := s_law) l30 c30 k30
  refine ⟨PySem.W.fnOf "law" "law" (defArgs s_law) (defBody s_law) (defScope s_law) .none kV30 dc30 pm30 an30 cd30 ct30, fun s v => .of_eq rfl, fun base _ _ => ?_⟩
  have G0 : FnOk l.prog w K mg base CX0 1 f0 _ ["script", "salt"] (spDraw K) := ok_draw F0 (PySem.W.mg_none_of X G z3) (PySem.W.mg_none_of X G z0)
  have G1 : FnG l.prog w K mg base CX0 1 f1 _ ["deal", "bound"] (spD K 1 wAny) := FnG.of (ok_any F1 (PySem.W.mg_none_of X G z3))
  have C1 := calD_mk F1 G1 (PySem.W.mg_of X G a1) b1
  have G2 := ok__law_of (P := l.prog) (w := w) (mg := mg) (base := base) F2 C1 (PySem.W.mg_none_of X G z5)
  have C2 := calD_mk F2 G2 (PySem.W.mg_of X G a2) b2
  have G3 := ok__law_power (P := l.prog) (w := w) (mg := mg) (base := base) F3 
  have C3 := cal_mk F3 G3 (PySem.W.mg_of X G a3) b3
  have G4 := ok__law_number (P := l.prog) (w := w) (mg := mg) (base := base) F4 C3 C1 C2 (PySem.W.mg_none_of X G z3)
  have C4 := calD_mk F4 G4 (PySem.W.mg_of X G a4) b4
  have G5 := ok_is_number (P := l.prog) (w := w) (mg := mg) (base := base) F5 (PySem.W.mg_none_of X G z4) (PySem.W.mg_none_of X G z3) (PySem.W.mg_none_of X G z1)
  have C5 := cal_mk F5 G5 (PySem.W.mg_of X G a5) b5
  have G6 := ok_is_width (P := l.prog) (w := w) (mg := mg) (base := base) F6 C5 (g_WIDTHS)
  have C6 := cal_mk F6 G6 (PySem.W.mg_of X G a6) b6
  have CK6_value := calK_mk F6 G6 (PySem.W.mg_of X G a6) bk6_value
  have G7 := ok_is_of_width (P := l.prog) (w := w) (mg := mg) (base := base) F7 C5 C6
  have C7 := cal_mk F7 G7 (PySem.W.mg_of X G a7) b7
  have CK7_width_value := calK_mk F7 G7 (PySem.W.mg_of X G a7) bk7_width_value
  have G8 := ok_signed (P := l.prog) (w := w) (mg := mg) (base := base) F8 
  have C8 := cal_mk F8 G8 (PySem.W.mg_of X G a8) b8
  have CK8_width_number := calK_mk F8 G8 (PySem.W.mg_of X G a8) bk8_width_number
  have G9 := ok__law_read (P := l.prog) (w := w) (mg := mg) (base := base) F9 (PySem.W.mg_none_of X G z2) (PySem.W.mg_none_of X G z5)
  have C9 := cal_mk F9 G9 (PySem.W.mg_of X G a9) b9
  have G10 := ok_wrapped (P := l.prog) (w := w) (mg := mg) (base := base) F10 
  have C10 := cal_mk F10 G10 (PySem.W.mg_of X G a10) b10
  have CK10_width_number := calK_mk F10 G10 (PySem.W.mg_of X G a10) bk10_width_number
  have G11 := ok__law_back (P := l.prog) (w := w) (mg := mg) (base := base) F11 
  have C11 := cal_mk F11 G11 (PySem.W.mg_of X G a11) b11
  have G12 := ok__law_digits (P := l.prog) (w := w) (mg := mg) (base := base) F12 (PySem.W.mg_none_of X G z3) C3 (PySem.W.mg_none_of X G z7)
  have C12 := cal_mk F12 G12 (PySem.W.mg_of X G a12) b12
  have G13 := ok_told_add (P := l.prog) (w := w) (mg := mg) (base := base) F13 C10
  have C13 := cal_mk F13 G13 (PySem.W.mg_of X G a13) b13
  have G14 := ok_told_sub (P := l.prog) (w := w) (mg := mg) (base := base) F14 C10
  have C14 := cal_mk F14 G14 (PySem.W.mg_of X G a14) b14
  have G15 := ok_told_mul (P := l.prog) (w := w) (mg := mg) (base := base) F15 C10
  have C15 := cal_mk F15 G15 (PySem.W.mg_of X G a15) b15
  have G16 := ok_told_udiv (P := l.prog) (w := w) (mg := mg) (base := base) F16 
  have C16 := cal_mk F16 G16 (PySem.W.mg_of X G a16) b16
  have G17 := ok_quotient (P := l.prog) (w := w) (mg := mg) (base := base) F17 (PySem.W.mg_none_of X G z0)
  have C17 := cal_mk F17 G17 (PySem.W.mg_of X G a17) b17
  have G18 := ok_told_sdiv (P := l.prog) (w := w) (mg := mg) (base := base) F18 C10 C17 C8
  have C18 := cal_mk F18 G18 (PySem.W.mg_of X G a18) b18
  have G19 := ok_told_urem (P := l.prog) (w := w) (mg := mg) (base := base) F19 
  have C19 := cal_mk F19 G19 (PySem.W.mg_of X G a19) b19
  have G20 := ok_told_srem (P := l.prog) (w := w) (mg := mg) (base := base) F20 C8 C10 C17
  have C20 := cal_mk F20 G20 (PySem.W.mg_of X G a20) b20
  have G21 := ok_told_and (P := l.prog) (w := w) (mg := mg) (base := base) F21 
  have C21 := cal_mk F21 G21 (PySem.W.mg_of X G a21) b21
  have G22 := ok_told_or (P := l.prog) (w := w) (mg := mg) (base := base) F22 
  have C22 := cal_mk F22 G22 (PySem.W.mg_of X G a22) b22
  have G23 := ok_told_xor (P := l.prog) (w := w) (mg := mg) (base := base) F23 
  have C23 := cal_mk F23 G23 (PySem.W.mg_of X G a23) b23
  have G24 := ok_told_shl (P := l.prog) (w := w) (mg := mg) (base := base) F24 C10
  have C24 := cal_mk F24 G24 (PySem.W.mg_of X G a24) b24
  have G25 := ok_told_lshr (P := l.prog) (w := w) (mg := mg) (base := base) F25 
  have C25 := cal_mk F25 G25 (PySem.W.mg_of X G a25) b25
  have G26 := ok_told_ashr (P := l.prog) (w := w) (mg := mg) (base := base) F26 C10 C8
  have C26 := cal_mk F26 G26 (PySem.W.mg_of X G a26) b26
  have hT : ∀ s wf, bin_table s = some wf → ∃ g, KDct K w pd s (.ref g) ∧ HeldG l.prog w K mg base 2 g (spF K 3 wf) := by
    intro s wf h
    unfold bin_table at h
    by_cases q : s = "add"
    · rw [if_pos q] at h; cases h; subst q; exact ⟨f13, ⟨des, dn, .ref f13, dd2, dd3, de0, rfl⟩, ⟨_, _, G13.up (by decide), k13, b13⟩⟩
    rw [if_neg q] at h; clear q
    by_cases q : s = "sub"
    · rw [if_pos q] at h; cases h; subst q; exact ⟨f14, ⟨des, dn, .ref f14, dd2, dd3, de1, rfl⟩, ⟨_, _, G14.up (by decide), k14, b14⟩⟩
    rw [if_neg q] at h; clear q
    by_cases q : s = "mul"
    · rw [if_pos q] at h; cases h; subst q; exact ⟨f15, ⟨des, dn, .ref f15, dd2, dd3, de2, rfl⟩, ⟨_, _, G15.up (by decide), k15, b15⟩⟩
    rw [if_neg q] at h; clear q
    by_cases q : s = "udiv"
    · rw [if_pos q] at h; cases h; subst q; exact ⟨f16, ⟨des, dn, .ref f16, dd2, dd3, de3, rfl⟩, ⟨_, _, G16.up (by decide), k16, b16⟩⟩
    rw [if_neg q] at h; clear q
    by_cases q : s = "sdiv"
    · rw [if_pos q] at h; cases h; subst q; exact ⟨f18, ⟨des, dn, .ref f18, dd2, dd3, de4, rfl⟩, ⟨_, _, G18.up (by decide), k18, b18⟩⟩
    rw [if_neg q] at h; clear q
    by_cases q : s = "urem"
    · rw [if_pos q] at h; cases h; subst q; exact ⟨f19, ⟨des, dn, .ref f19, dd2, dd3, de5, rfl⟩, ⟨_, _, G19.up (by decide), k19, b19⟩⟩
    rw [if_neg q] at h; clear q
    by_cases q : s = "srem"
    · rw [if_pos q] at h; cases h; subst q; exact ⟨f20, ⟨des, dn, .ref f20, dd2, dd3, de6, rfl⟩, ⟨_, _, G20.up (by decide), k20, b20⟩⟩
    rw [if_neg q] at h; clear q
    by_cases q : s = "and"
    · rw [if_pos q] at h; cases h; subst q; exact ⟨f21, ⟨des, dn, .ref f21, dd2, dd3, de7, rfl⟩, ⟨_, _, G21.up (by decide), k21, b21⟩⟩
    rw [if_neg q] at h; clear q
    by_cases q : s = "or"
    · rw [if_pos q] at h; cases h; subst q; exact ⟨f22, ⟨des, dn, .ref f22, dd2, dd3, de8, rfl⟩, ⟨_, _, G22.up (by decide), k22, b22⟩⟩
    rw [if_neg q] at h; clear q
    by_cases q : s = "xor"
    · rw [if_pos q] at h; cases h; subst q; exact ⟨f23, ⟨des, dn, .ref f23, dd2, dd3, de9, rfl⟩, ⟨_, _, G23.up (by decide), k23, b23⟩⟩
    rw [if_neg q] at h; clear q
    by_cases q : s = "shl"
    · rw [if_pos q] at h; cases h; subst q; exact ⟨f24, ⟨des, dn, .ref f24, dd2, dd3, de10, rfl⟩, ⟨_, _, G24.up (by decide), k24, b24⟩⟩
    rw [if_neg q] at h; clear q
    by_cases q : s = "lshr"
    · rw [if_pos q] at h; cases h; subst q; exact ⟨f25, ⟨des, dn, .ref f25, dd2, dd3, de11, rfl⟩, ⟨_, _, G25.up (by decide), k25, b25⟩⟩
    rw [if_neg q] at h; clear q
    by_cases q : s = "ashr"
    · rw [if_pos q] at h; cases h; subst q; exact ⟨f26, ⟨des, dn, .ref f26, dd2, dd3, de12, rfl⟩, ⟨_, _, G26.up (by decide), k26, b26⟩⟩
    rw [if_neg q] at h; clear q
    cases h
  have G27 := ok_bin_told (P := l.prog) (w := w) (mg := mg) (base := base) (k := 2) F27 (PySem.W.mg_of X G dd1) bin_table hT
  have C27 := cal_mk F27 G27 (PySem.W.mg_of X G a27) b27
  have CK27_other_one_width_op := calK_mk F27 G27 (PySem.W.mg_of X G a27) bk27_other_one_width_op
  have G28 := ok__law_times (P := l.prog) (w := w) (mg := mg) (base := base) F28 (PySem.W.mg_none_of X G z7) (PySem.W.mg_none_of X G z6) C3
  have C28 := cal_mk F28 G28 (PySem.W.mg_of X G a28) b28
  have G29 := ok__law_due (P := l.prog) (w := w) (mg := mg) (base := base) F29 C12 C11 C9 C28 (PySem.W.mg_none_of X G z0) (PySem.W.mg_none_of X G z9) (PySem.W.mg_none_of X G z3)
  have C29 := cal_mk F29 G29 (PySem.W.mg_of X G a29) b29
  exact ok_law F30 G0 (PySem.W.mg_of X G a0) k0 b0 (g_WIDTHS) (g_OPS) (PySem.W.mg_none_of X G z8) (PySem.W.mg_none_of X G z7) C2 C4 CK7_width_value CK6_value CK8_width_number C9 C12 CK27_other_one_width_op C29 C3 C1 CK10_width_number C11 C7 C6 fun ns h => law_math ns h
end K01

open PySem PySem.W PyProof.Rows
set_option maxHeartbeats 0 in
theorem PySem.Challenge.cw_anypasses_k01_operations_on_numbers_holds : PySem.Challenge.rw_anypasses_k01_operations_on_numbers.Holds := by
  w_on; o_law; k_head; (case hw => w_witness2)
  k_fill
  refine Lay.walk_ofG (l := PySem.Challenge.rw_anypasses_k01_operations_on_numbers) (n := 63) (k := 4) (x := "script") (CX := fun _ => L2.CX0) (sp := fun w => Lay.spLaw _ K01.lawMost K01.lawW) rfl (by decide) rfl ⟨rfl, by decide, by decide⟩ (fun w h Y => PySem.W.kIn_of Y) ?F (fun _ _ a ns hl _ hS => ⟨a, ns, rfl, hS, hl, K01.lawAny ns, fun _ => rfl⟩) (fun _ _ _ _ _ h => h)
  case F =>
    intro w mg fa h KX G hmg
    refine' K01.all_mk KX G hmg ?a0 ?l0 ?c0 ?k0 ?a1 ?l1 ?c1 ?k1 ?a2 ?l2 ?c2 ?k2 ?a3 ?l3 ?c3 ?k3 ?a4 ?l4 ?c4 ?k4 ?a5 ?l5 ?c5 ?k5 ?a6 ?l6 ?c6 ?k6 ?a7 ?l7 ?c7 ?k7 ?a8 ?l8 ?c8 ?k8 ?a9 ?l9 ?c9 ?k9 ?a10 ?l10 ?c10 ?k10 ?a11 ?l11 ?c11 ?k11 ?a12 ?l12 ?c12 ?k12 ?a13 ?l13 ?c13 ?k13 ?a14 ?l14 ?c14 ?k14 ?a15 ?l15 ?c15 ?k15 ?a16 ?l16 ?c16 ?k16 ?a17 ?l17 ?c17 ?k17 ?a18 ?l18 ?c18 ?k18 ?a19 ?l19 ?c19 ?k19 ?a20 ?l20 ?c20 ?k20 ?a21 ?l21 ?c21 ?k21 ?a22 ?l22 ?c22 ?k22 ?a23 ?l23 ?c23 ?k23 ?a24 ?l24 ?c24 ?k24 ?a25 ?l25 ?c25 ?k25 ?a26 ?l26 ?c26 ?k26 ?a27 ?l27 ?c27 ?k27 ?a28 ?l28 ?c28 ?k28 ?a29 ?l29 ?c29 ?k29 ?a30 ?l30 ?c30 ?k30 ?z0 ?z1 ?z2 ?z3 ?z4 ?z5 ?z6 ?z7 ?z8 ?z9 ?dd1 ?dd2 ?dd3 ?de0 ?de1 ?de2 ?de3 ?de4 ?de5 ?de6 ?de7 ?de8 ?de9 ?de10 ?de11 ?de12 ?g_OPS ?g_WIDTHS
    (case a0 => k_is); (case l0 => k_is); (case c0 => k_is); (case k0 => k_is); (case a1 => k_is); (case l1 => k_is); (case c1 => k_is); (case k1 => k_is); (case a2 => k_is); (case l2 => k_is); (case c2 => k_is); (case k2 => k_is); (case a3 => k_is); (case l3 => k_is); (case c3 => k_is); (case k3 => k_is); (case a4 => k_is); (case l4 => k_is); (case c4 => k_is); (case k4 => k_is); (case a5 => k_is); (case l5 => k_is); (case c5 => k_is); (case k5 => k_is); (case a6 => k_is); (case l6 => k_is); (case c6 => k_is); (case k6 => k_is); (case a7 => k_is); (case l7 => k_is); (case c7 => k_is); (case k7 => k_is); (case a8 => k_is); (case l8 => k_is); (case c8 => k_is); (case k8 => k_is); (case a9 => k_is); (case l9 => k_is); (case c9 => k_is); (case k9 => k_is); (case a10 => k_is); (case l10 => k_is); (case c10 => k_is); (case k10 => k_is); (case a11 => k_is); (case l11 => k_is); (case c11 => k_is); (case k11 => k_is); (case a12 => k_is); (case l12 => k_is); (case c12 => k_is); (case k12 => k_is); (case a13 => k_is); (case l13 => k_is); (case c13 => k_is); (case k13 => k_is); (case a14 => k_is); (case l14 => k_is); (case c14 => k_is); (case k14 => k_is); (case a15 => k_is); (case l15 => k_is); (case c15 => k_is); (case k15 => k_is); (case a16 => k_is); (case l16 => k_is); (case c16 => k_is); (case k16 => k_is); (case a17 => k_is); (case l17 => k_is); (case c17 => k_is); (case k17 => k_is); (case a18 => k_is); (case l18 => k_is); (case c18 => k_is); (case k18 => k_is); (case a19 => k_is); (case l19 => k_is); (case c19 => k_is); (case k19 => k_is); (case a20 => k_is); (case l20 => k_is); (case c20 => k_is); (case k20 => k_is); (case a21 => k_is); (case l21 => k_is); (case c21 => k_is); (case k21 => k_is); (case a22 => k_is); (case l22 => k_is); (case c22 => k_is); (case k22 => k_is); (case a23 => k_is); (case l23 => k_is); (case c23 => k_is); (case k23 => k_is); (case a24 => k_is); (case l24 => k_is); (case c24 => k_is); (case k24 => k_is); (case a25 => k_is); (case l25 => k_is); (case c25 => k_is); (case k25 => k_is); (case a26 => k_is); (case l26 => k_is); (case c26 => k_is); (case k26 => k_is); (case a27 => k_is); (case l27 => k_is); (case c27 => k_is); (case k27 => k_is); (case a28 => k_is); (case l28 => k_is); (case c28 => k_is); (case k28 => k_is); (case a29 => k_is); (case l29 => k_is); (case c29 => k_is); (case k29 => k_is); (case a30 => k_is); (case l30 => k_is); (case c30 => k_is); (case k30 => k_is); (case z0 => k_is); (case z1 => k_is); (case z2 => k_is); (case z3 => k_is); (case z4 => k_is); (case z5 => k_is); (case z6 => k_is); (case z7 => k_is); (case z8 => k_is); (case z9 => k_is); (case dd1 => k_is); (case dd2 => k_is); (case dd3 => k_keys); (case de0 => k_is); (case de1 => k_is); (case de2 => k_is); (case de3 => k_is); (case de4 => k_is); (case de5 => k_is); (case de6 => k_is); (case de7 => k_is); (case de8 => k_is); (case de9 => k_is); (case de10 => k_is); (case de11 => k_is); (case de12 => k_is)
    (case g_OPS => (refine' Lay.glo_tup (xs := [.str "add", .str "sub", .str "mul", .str "udiv", .str "sdiv", .str "urem", .str "srem", .str "and", .str "or", .str "xor", .str "shl", .str "lshr", .str "ashr"]) KX G ?t1 ?t2 ?t3 ?t4 ?t5; (case t1 => k_is); (case t2 => k_is); (case t3 => decide +kernel); (case t4 => exact (.cons ⟨_, rfl⟩ (.cons ⟨_, rfl⟩ (.cons ⟨_, rfl⟩ (.cons ⟨_, rfl⟩ (.cons ⟨_, rfl⟩ (.cons ⟨_, rfl⟩ (.cons ⟨_, rfl⟩ (.cons ⟨_, rfl⟩ (.cons ⟨_, rfl⟩ (.cons ⟨_, rfl⟩ (.cons ⟨_, rfl⟩ (.cons ⟨_, rfl⟩ (.cons ⟨_, rfl⟩ (.nil))))))))))))))); (case t5 => intro B; exact (.cons (.str _) (.cons (.str _) (.cons (.str _) (.cons (.str _) (.cons (.str _) (.cons (.str _) (.cons (.str _) (.cons (.str _) (.cons (.str _) (.cons (.str _) (.cons (.str _) (.cons (.str _) (.cons (.str _) (.nil)))))))))))))))))
    (case g_WIDTHS => (refine' Lay.glo_tup (xs := [.int 1, .int 8, .int 16, .int 32, .int 64]) KX G ?t1 ?t2 ?t3 ?t4 ?t5; (case t1 => k_is); (case t2 => k_is); (case t3 => decide +kernel); (case t4 => exact (.cons ⟨_, rfl⟩ (.cons ⟨_, rfl⟩ (.cons ⟨_, rfl⟩ (.cons ⟨_, rfl⟩ (.cons ⟨_, rfl⟩ (.nil))))))); (case t5 => intro B; exact (.cons (.int _) (.cons (.int _) (.cons (.int _) (.cons (.int _) (.cons (.int _) (.nil)))))))))
