import PyProof.Rows.All
import Wide.All
import OpenK.AllK
import Wide.FinOn
import HandS.ForMost
import HandS.Flow
import HandS.Wide
import HandS.WideBits
import HandS.RaiseMore
import HandS.SortInts
import HandS.ForExc
import HandS.ExcInit
import HandS.ExcIs
import HandS.ExcValue
import HandS.IsInst
import KE.KExcIs
import PySem.Challenge.RW_castchains_k01_errors_and_their_values
set_option Elab.async false
set_option linter.all false
set_option maxRecDepth 100000
set_option maxHeartbeats 4000000
/-! A promise that is kept where no repr is under way; repr of plain data; powers of great ints; the frame around one list of ints that changes. -/
namespace Cc
open PySem PySem.Spec PyProof.Rows L2

/-! ### promises where no repr is under way -/
structure FnG (P : Program) (w : World) (K : PySem.W.Frag) (mg : Str → Option Value) (base : Heap) (CX : CXT) (k : Nat) (f : Addr) (fd : FuncData) (ps : List Str) (sp : Sp) : Prop where
  long : ∀ vs H Q E, sp vs H Q E → vs.length = ps.length
  goes : ∀ (A : Around), A.guards = some [] → Room k A → ∀ (outer : List Env) (s : Shared) (H : Hp), Env0 P w K mg base A outer s H → ∀ (args : Args) (us : List Value) (vs : List V) (Q : VK) (E : XK),
    BindsTo s fd args (ps.zip us) → Vals vs us → sp vs H Q E → codeAny (model P w) A (.call (.ref f) args) (CR CX outer P w H s Q E) s
section
variable {P : Program} {w : World} {K : PySem.W.Frag} {mg : Str → Option Value} {base : Heap} {CX : CXT} {k : Nat} {f : Addr} {fd : FuncData} {N ps : List Str} {sp : Sp}
theorem FnG.of (F : FnOk P w K mg base CX k f fd ps sp) : FnG P w K mg base CX k f fd ps sp :=
  ⟨F.len, fun A _ hr outer s H e0 args us vs Q E hb rv hs => F.run A outer s H args us vs Q E hr e0 hb rv hs⟩
theorem FnG.mono {j : Nat} (F : FnG P w K mg base CX j f fd ps sp) (h : j ≤ k) : FnG P w K mg base CX k f fd ps sp :=
  ⟨F.long, fun A hg hr => F.goes A hg (hr.mono h)⟩

theorem ce_of {cX : Cx} {outer : List Env} {s s' : Shared} {H H' : Hp} {Q : VK} {σ : L2.St} {v : V} {u : Value}
    (J : Inv cX [] σ H' s') (e0 : cX.prog = P) (e1 : cX.w = w) (e2 : cX.s_0 = s) (e3 : cX.H_0 = H) (e4 : cX.outer = outer) (e5 : cX.ex = []) (rv : RelV v u) (q : Q v H') : CE outer P w H s Q u s' := by
  subst e0 e1 e2 e3 e4
  refine ⟨v, H', J.os, J.bare, ?_, J.hok, rv, q⟩
  have b := J.base
  rw [e5] at b
  exact b
/-- a def by its body, at one place in a run -/
theorem def_at {qual : Str} {scope : Scope} {name : Str} {params : Arguments} {body : List Stmt} {dV kV doc pm cdv ct oc : Value} {an od : Option Addr} {osl : Array (Option Value)}
    (lk : K.lookup f = some ⟨oc, od, .func (PySem.W.fnOf name qual params body scope dV kV doc pm an cdv ct), osl⟩) (hcd : PySem.W.codeIn K cdv qual = true) (S : FnScope N ps scope)
    {A : Around} {outer : List Env} {s : Shared} {H : Hp} {args : Args} {us : List Value} {vs : List V} {Q : VK} {E : XK} {t : TS}
    (hr : Room (k + 1) A) (e0 : Env0 P w K mg base A outer s H) (hb : BindsTo s (PySem.W.fnOf name qual params body scope dV kV doc pm an cdv ct) args (ps.zip us)) (rv : Vals vs us) (hl : vs.length = ps.length)
    (ht : PSs (cxOf CX P w K mg base N qual scope f cdv A outer s H E) body t) (hq : t { nx := fun _ H' => Q .non H', rt := Q } (start N vs) H) :
    codeAny (model P w) A (.call (.ref f) args) (CR CX outer P w H s Q E) s := by
  have inK : K.In s.heap := e0.mod.kin.keeps fun b o e => (e0.bs b o e).1
  refine codeAny_call_function hr.depth (inK _ _ lk) rfl S.co S.gen rfl (PySem.W.codeRec_of inK hcd) (hb _ _ _ _ ?_)
  have kinds : ∀ y ∈ ps.zip us, scope.names.lookup y.1 = some .local ∨ (scope.names.lookup y.1 = some .cell ∧ ((cellsFrom (s.heap.objs.size + 1) scope.names []).lookup y.1).isSome = true) := by
    intro y hy
    obtain ⟨n, v⟩ := y
    cases S.par n (List.of_mem_zip hy).1 with
    | inl q => exact .inl q
    | inr q => exact .inr ⟨q, PySem.W.cellsFrom_some _ _ _ (.inl q)⟩
  refine wpAny_newFunctionEnv_cells S.kind kinds fun env he s1 x => ?_
  cases he
  have lim : s.heap.NoLimit := e0.mod.nolimit.keeps fun b o e => (e0.bs b o e).1
  refine ⟨lim.keeps x.toInCall.keep, codeAny_func ?_⟩
  have I : Inv (cxOf CX P w K mg base N qual scope f cdv A outer s H E) [] (start N vs) H s1 := inv_start S hr.hd e0 hl rv x
  refine wpAny_mono (ht.run [] s1 (start N vs) H _ I hq) (fun fl s' hs => ?_) fun _ _ h => h
  cases fl with
  | next =>
    obtain ⟨σ', H', J, q⟩ := hs
    exact ce_of (v := V.non) (u := Value.none) J rfl rfl rfl rfl rfl rfl rfl q
  | ret u =>
    obtain ⟨v, σ', H', J, rv', q⟩ := hs
    exact ce_of J rfl rfl rfl rfl rfl rfl rv' q
  | brk =>
    obtain ⟨_, _, _, q⟩ := hs
    exact False.elim q
  | cont =>
    obtain ⟨_, _, _, q⟩ := hs
    exact False.elim q
/-- a def of the text, its body read where no repr is under way -/
theorem okG {x qual : Str} {st : Stmt} (F : Fun K x qual st f fd) (S : FnScope N ps (defScope st)) (len : ∀ vs H Q E, sp vs H Q E → vs.length = ps.length)
    (hbody : ∀ (cdv : Value) (A : Around) (outer : List Env) (s : Shared) (H : Hp) (vs : List V) (Q : VK) (E : XK), A.guards = some [] → Room k (A.deeper (envOfC qual (defScope st) s.heap.objs.size f cdv)) → sp vs H Q E →
      ∃ t, PSs (cxOf CX0 P w K mg base N qual (defScope st) f cdv A outer s H E).nox (defBody st) t ∧ t { nx := fun _ H' => Q .non H', rt := Q } (start N vs) H) :
    FnG P w K mg base CX0 (k + 1) f fd ps sp := by
  obtain ⟨oc, od, kV, doc, pm, an, cdv, ct, osl, rfl, lk, hcd⟩ := F.ex
  refine ⟨len, fun A hg hr outer s H e0 args us vs Q E hb rv hs => ?_⟩
  obtain ⟨t, h, q⟩ := hbody cdv A outer s H vs Q E hg (hr.deeper _) hs
  exact def_at lk hcd S hr e0 hb rv (len _ _ _ _ hs) h.nox q
end

section
variable {X : Cx} {CX : CXT} {k : Nat} {f : Addr} {fd : FuncData} {ps : List Str} {sp : Sp} {dvs : List V} {ds : List Value} {E : XK} {x : Str} {p pos : Pos} {e : Expr} {es : List Expr} {t : TA}
theorem runG {pins : List (Addr × Obj)} {σ : L2.St} {H : Hp} {s : Shared} {Q : VK} {us : List Value} {vs : List V} (F : FnG X.prog X.w X.K X.mg X.base CX k f fd ps sp) (hG : X.A.guards = some []) (hr : Room k X.A) (hb : Binds X.K fd ps ds) (hd : Vals dvs ds) (hx : Passes CX X E)
    (I : Inv X pins σ H s) (r : Vals vs us) (h : sp (vs ++ dvs) H Q E) : wpAny (model X.prog X.w) X.A (call (.ref f) us) (EP X pins σ Q) X.xe s := by
  have both : Vals (vs ++ dvs) (us ++ ds) := r.append hd
  have many : (us ++ ds).length = ps.length := both.length.symm.trans (F.long _ _ _ _ h)
  refine wpAny_call (codeAny_mono (F.goes X.A hG hr X.stack s H I.env0 ⟨us, []⟩ (us ++ ds) (vs ++ dvs) Q E (hb s us I.kIn many) both h) fun r s' hq => ?_)
  match r, hq with
  | .error e, hq => exact hx pins σ H s e s' I hq
  | .ok (.ret u), hq => exact I.after hq
  | .ok .next, hq => exact hq.elim
  | .ok .brk, hq => exact hq.elim
  | .ok .cont, hq => exact hq.elim
/-- f(e, ..) -/
theorem pe_callG (F : FnG X.prog X.w X.K X.mg X.base CX k f fd ps sp) (hG : X.A.guards = some []) (hr : Room k X.A) (hg : Gl X x) (hm : X.mg x = some (.ref f)) (hk : PySem.W.keepIn X.K (.ref f) = true) (hb : Binds X.K fd ps ds) (hd : Vals dvs ds) (hx : Passes CX X E)
    (ha : PA X (e :: es) t) (hdb : (x == ("__debug__" : Str)) = false := by decide) (he : starEach (e :: es) X.env = (false, eval e X.env) :: starEach es X.env := by rfl) (hpl : (backTo pos (starEach es X.env)).any (·.1) = false := by rfl) :
    PE X (.Call (.Name x p) (e :: es) [] pos) (tCall sp dvs E t) :=
  ⟨fun pins s σ H Q I h => wpAny_Call_Name_kw (ld_glob I hg hm (PySem.W.callWith_K (h₀ := X.base) I.ok.mod.kin hk (thn (ha.run pos pins s σ H _ I h) fun us s1 ⟨vs, H1, I1, r, q⟩ => ⟨I1.kIn, runG F hG hr hb hd hx I1 r q⟩) he hpl) hdb)⟩
end

/-! ### the law's own call -/
theorem law_at {P : Program} {w : World} {K : PySem.W.Frag} {mg mb : Str → Option Value} {k : Nat} {fa a : Addr} {fd : FuncData} {x : Str} {sp : Sp} {s₁ : Shared} {vs : List Value} {ns : List Int}
    (inK : K.In s₁.heap) (hns : s₁.heap.Ns mainGlobals mg) (hb : s₁.heap.Ns builtinsNs mb) (hbb : ∀ x : Str, x ≠ "__name__" → mb x = bootBuiltins x) (hlim : s₁.heap.NoLimit) (hg : s₁.gens = #[])
    (ha : s₁.heap.get? a = some { cls := .type "list", data := .seq vs.toArray }) (hi : IntsAre vs ns) (hl : ns.length ≤ sizeLine) (hr : Room k callerA)
    (F : ∀ base : Heap, K.In base → base.Ns mainGlobals mg → FnG P w K mg base CX0 k fa fd [x] sp) (hbind : ∀ (s : Shared) (u : Value), BindsTo s fd ⟨[u], []⟩ [(x, u)])
    (hsp : ∀ H : Hp, Only H → SqL K H a (ns.map V.int) → sp [.ref a] H (fun v _ => v = .bl true) fun _ _ _ => False) :
    codeAny (model P w) callerA (.call (.ref fa) ⟨[.ref a], []⟩) (fun r s' => r = .ok (.ret (.bool true)) ∧ OldK s₁.heap s'.heap ∧ s'.os = s₁.os ∧ AllBare s'.gens) s₁ := by
  -- what is tracked is the script at most
  suffices core : ∀ H : Hp, (∀ b u, H b = some u → b = a ∧ u = .frz { cls := .type "list", data := .seq vs.toArray } (.lst (ns.map V.int)) ∧ K.lookup a = none) → SqL K H a (ns.map V.int) → HOk P w H s₁.heap →
      codeAny (model P w) callerA (.call (.ref fa) ⟨[.ref a], []⟩) (fun r s' => r = .ok (.ret (.bool true)) ∧ OldK s₁.heap s'.heap ∧ s'.os = s₁.os ∧ AllBare s'.gens) s₁ by
    cases hk : K.lookup a with
    | none =>
      refine core (fun b => if b = a then some (.frz { cls := .type "list", data := .seq vs.toArray } (.lst (ns.map V.int))) else none) (fun b u z => ?_) (.inl (.inr ⟨_, if_pos rfl⟩)) fun b u z => ?_
      · by_cases hb : b = a
        · exact ⟨hb, Option.some.inj (z.symm.trans (if_pos hb)), hk⟩
        · exact nomatch (if_neg hb).symm.trans z
      · by_cases hb : b = a
        · obtain rfl := Option.some.inj ((if_pos hb).symm.trans z)
          subst hb
          exact ⟨ha, by rw [List.length_map]; exact hl, vs, _, vals_ints hi, ha⟩
        · exact nomatch (if_neg hb).symm.trans z
    | some o =>
      have e := (inK a o hk).symm.trans ha
      cases e
      refine core (fun _ => none) (fun b u z => nomatch (show (none : Option HO) = some u from z)) (.inr ⟨_, vs.toArray, _, hk, rfl, rfl, rfl, ?_, ?_⟩) fun b u z => nomatch (show (none : Option HO) = some u from z)
      · rw [List.size_toArray, hi.length]; exact hl
      · simpa using vals_ints hi
  intro H only hS hok
  have off : ∀ {b : Addr} {o : Obj}, s₁.heap.get? b = some o → (b = a → False) → (hidT s₁.heap H).get? b = some o := fun {b o} e hne => hidT_get e (by
    cases q : H b with
    | none => rfl
    | some u => exact (hne (only b u q).1).elim)
  have dic : ∀ {b : Addr} {m : Str → Option Value}, s₁.heap.Ns b m → (hidT s₁.heap H).Ns b m := fun {b m} ⟨o, es, ep, e, d, r⟩ => ⟨o, es, ep, off e (fun hba => by
    rw [hba, ha] at e
    cases e
    exact nomatch (show Data.seq vs.toArray _ = Data.dict es ep from d)), d, r⟩
  have inB : K.In (hidT s₁.heap H) := fun b o e => hidT_get (inK b o e) (by
    cases q : H b with
    | none => rfl
    | some u =>
      obtain ⟨hba, _, hn⟩ := only b u q
      rw [hba, hn] at e
      cases e)
  have md : Mod K mg (hidT s₁.heap H) := ⟨inB, dic hns, ⟨mb, dic hb, hbb⟩, let ⟨mc, h1, h2⟩ := hlim; ⟨mc, dic h1, h2⟩⟩
  have e0 : Env0 P w K mg (hidT s₁.heap H) callerA [] s₁ H := ⟨rfl, md, fun _ _ e => of_hidT e, Nat.le_of_eq (hidT_size _ _), trivial, fun b hb => absurd (show b ∈ ([] : List Addr) from hb) (fun z => nomatch z), hok, .of_eq hg⟩
  have oH : Only H := fun b => by
    cases q : H b with
    | none => exact .inl rfl
    | some u => exact .inr ⟨_, _, congrArg some (only b u q).2.1⟩
  refine codeAny_mono ((F _ inB (dic hns)).goes callerA rfl hr [] s₁ H e0 ⟨[.ref a], []⟩ [.ref a] [.ref a] _ _ (hbind s₁ (.ref a)) (.cons rfl .nil) (hsp H oH hS)) fun r s' h => ?_
  match r, h with
  | .error e, h => exact h.elim
  | .ok .next, h => exact h.elim
  | .ok .brk, h => exact h.elim
  | .ok .cont, h => exact h.elim
  | .ok (.ret u), h =>
    obtain ⟨v, H', os, bare, un, hok', rv, q⟩ := h
    cases (show v = .bl true from q)
    cases (show u = Value.bool true from rv)
    refine ⟨rfl, OldK.of_keep fun b o e => ?_, os, bare⟩
    cases q : H b with
    | none => exact un.keep b o e q (fun z => nomatch z) (fun z => nomatch z)
    | some u =>
      obtain ⟨_, rfl, _⟩ := only b u q
      have e1 := (hok b _ q).1
      have e2 := (hok' b _ (un.frzs b _ _ q)).1
      exact e2.trans (e1.symm.trans e)
/-- the goal behind k_head -/
theorem walkG {l : PySem.W.OpenLaw} {n k : Nat} {q : Program} {loose : List Str} {XP : (Str → Option Value) → Heap → Prop} {YP : World → Heap → Prop} {d : DefRec} {K : Params → PySem.W.Frag} {sp : PySem.W.Frag → Sp} {x : Str}
    (hn : l.most = some n) (hn2 : n ≤ sizeLine) (hdf : d.params.defaults = []) (hr : Room k callerA) (hY : ∀ (w : World) (h : Heap), YP w h → (K w.params).In h)
    (F : ∀ (w : World) (mg : Str → Option Value) (fa : Addr) (h : Heap), (K w.params).In h → h.Ns mainGlobals mg → mg d.name = some (.ref fa) →
      ∃ fd : FuncData, (∀ (s : Shared) (u : Value), BindsTo s fd ⟨[u], []⟩ [(x, u)]) ∧ ∀ base : Heap, (K w.params).In base → base.Ns mainGlobals mg → FnG l.prog w (K w.params) mg base CX0 k fa fd [x] (sp (K w.params)))
    (hsp : ∀ (K : PySem.W.Frag) (H : Hp) (a : Addr) (ns : List Int), ns.length ≤ n → Only H → SqL K H a (ns.map V.int) → sp K [.ref a] H (fun v _ => v = .bl true) fun _ _ _ => False) :
    PySem.W.WalkO q loose XP YP l.row.toRowW d [] (fun f vs => PySem.call f vs) := by
  refine Att.attach_call hn hdf fun w s₀ s₁ mg mb fa o pm cd doc a vs ns G Y ho hd hcd hmg hobj hints hlen hg => ?_
  obtain ⟨fd, hb, hF⟩ := F w mg fa _ (hY w _ Y) G.T.g hmg
  exact law_at (hY w _ Y) G.T.g G.T.b G.T.builtins G.T.nolimit hg hobj hints (Nat.le_trans hlen hn2) hr hF hb fun H oH hS => hsp (K w.params) H a ns hlen oH hS

/-! ### repr of plain data -/
section
variable {X : Cx}
def rRepD (K : PySem.W.Frag) : List V → Hp → VK → Prop := fun xs H Q => ∃ v d, xs = [v] ∧ Dp K H v d ∧ d.showable = true ∧ d.depth ≤ 60 ∧ d.shown.length ≤ sizeLine ∧ Q (.str d.shown) H
theorem noDict {K : PySem.W.Frag} {H : Hp} : (∀ (d : PyData) (v : V), Dp K H v d → d.hasDict = false) ∧ True := by
  refine ⟨?_, trivial⟩
  intro d
  refine PyData.rec (motive_1 := fun d => ∀ v, Dp K H v d → d.hasDict = false) (motive_2 := fun ds => ∀ vs, DpAll K H vs ds → PyData.hasDictAll ds = false) (motive_3 := fun _ => True) (motive_4 := fun _ => True) ?_ ?_ ?_ ?_ ?_ ?_ ?_ ?_ ?_ ?_ ?_ ?_ d
  · intro v _; simp only [PyData.hasDict]
  · intro b v _; simp only [PyData.hasDict]
  · intro i v _; simp only [PyData.hasDict]
  · intro x v _; simp only [PyData.hasDict]
  · intro ds ih v h
    cases h with
    | lst _ ha => simp only [PyData.hasDict]; exact ih _ ha
  · intro ds ih v h
    cases h with
    | tup _ ha => simp only [PyData.hasDict]; exact ih _ ha
  · intro kvs _ v h
    cases h
  · intro vs _; simp only [PyData.hasDictAll]
  · intro d ds ih1 ih2 vs h
    cases h with
    | cons h1 h2 => simp only [PyData.hasDictAll, ih1 _ h1, ih2 _ h2, Bool.or_self]
  all_goals (intros; trivial)
theorem cr_repD (hG : X.A.guards = some []) (hu : X.A.units + 64 < cLine) : CallR X (.builtin "repr") (rRepD X.K) := by
  intro pins s σ H xs us Q I r h
  obtain ⟨v, d, rfl, hd, hs, hdp, hz, q⟩ := h
  obtain ⟨u, rfl, ru⟩ := vals1 r
  cases v with
  | ref a =>
    cases ru
    obtain ⟨as, rd⟩ := Dp.reads I d _ _ hd rfl
    exact repr_of_reads' rd hs (PyData.noDict_hsm (noDict.1 d _ hd)) hG (by omega) (fun _ _ e => e) (fun h' u tk hk => ⟨.str _, H, I.kept hk, ⟨_, rfl⟩, q⟩) hz
  | int i =>
    cases hd
    obtain ⟨t, rfl⟩ := ru
    exact PySem.P.repr_of_int (by simpa [PyData.showable] using hs) ⟨.str _, H, I.tok _, ⟨_, rfl⟩, q⟩
  | str x =>
    cases hd
    obtain ⟨t, rfl⟩ := ru
    exact PySem.P.repr_of_str ⟨.str _, H, I.tok _, ⟨_, rfl⟩, q⟩ hz
  | non =>
    cases hd
    cases ru
    exact PySem.P.repr_of_none ⟨.str _, H, I.tok _, ⟨_, rfl⟩, q⟩
  | bl b =>
    cases hd
    cases ru
    exact PySem.P.repr_of_bool ⟨.str _, H, I.tok _, ⟨_, rfl⟩, q⟩
  | byt b => cases hd
  | flt b => cases hd
  | ty n => cases hd
/-- a power of a great int -/
theorem op_powX : OpR X (binaryOp .Pow) (rI (fun i j => 0 ≤ j ∧ j ≤ 64 ∧ i.natAbs < 2 ^ 4000) fun i j => .int (i ^ j.toNat)) := opI fun i j _ _ _ _ _ hc q => by
  refine pow_int hc.1 ?_ q
  have b : (Builtin.Int.intBits i : Int) ≤ 4001 := by
    have h := PySem.Flt.log2_lt_of (k := 4000) (by omega) hc.2.2
    unfold Builtin.Int.intBits
    split <;> omega
  have n0 : (0 : Int) ≤ Builtin.Int.intBits i := Int.natCast_nonneg _
  have : (Builtin.Int.intBits i : Int) * j ≤ 4001 * 64 := Int.mul_le_mul b hc.2.1 hc.1 (by decide)
  have e : (2 : Int) ^ 27 = 134217728 := by decide
  omega
end
end Cc

set_option Elab.async false
set_option linter.all false
set_option maxRecDepth 100000
set_option maxHeartbeats 4000000
namespace Cc
open PySem PySem.Spec PyProof.Rows L2

/-! ### a def of the text by its name -/
def Tx (K : PySem.W.Frag) (mg : Str → Option Value) (x : Str) (st : Stmt) : Prop := ∃ f fd, Fun K x x st f fd ∧ mg x = some (.ref f)
/-- what a def of this name keeps -/
def Pr (P : Program) (w : World) (K : PySem.W.Frag) (mg : Str → Option Value) (base : Heap) (CX : CXT) (k : Nat) (x : Str) (ps : List Str) (sp : Sp) : Prop :=
  ∃ f fd, FnG P w K mg base CX k f fd ps sp ∧ mg x = some (.ref f) ∧ PySem.W.keepIn K (.ref f) = true ∧ Binds K fd ps []
section
variable {P : Program} {w : World} {K : PySem.W.Frag} {mg : Str → Option Value} {base : Heap} {k : Nat} {x : Str} {st : Stmt} {N ps : List Str} {sp : Sp}
theorem mkP (T : Tx K mg x st) (S : FnScope N ps (defScope st))
    (bi : ∀ (kV doc pm : Value) (an : Option Addr) (cdv ct : Value) (us : List Value), us.length = ps.length → bindArgs (PySem.W.fnOf x x (defArgs st) (defBody st) (defScope st) .none kV doc pm an cdv ct) ⟨us, []⟩ = pure (ps.zip us))
    (len : ∀ vs H Q E, sp vs H Q E → vs.length = ps.length)
    (hbody : ∀ (f : Addr) (cdv : Value) (A : Around) (outer : List Env) (s : Shared) (H : Hp) (vs : List V) (Q : VK) (E : XK), A.guards = some [] → Room k (A.deeper (envOfC x (defScope st) s.heap.objs.size f cdv)) → sp vs H Q E →
      ∃ t, PSs (cxOf CX0 P w K mg base N x (defScope st) f cdv A outer s H E).nox (defBody st) t ∧ t { nx := fun _ H' => Q .non H', rt := Q } (start N vs) H) :
    Pr P w K mg base CX0 (k + 1) x ps sp := by
  obtain ⟨f, fd, F, g⟩ := T
  exact ⟨f, fd, okG F S len (hbody f), g, F.kp, F.binds bi⟩
end
/-- the same of the def wherever its object stands -/
def PrAt (P : Program) (w : World) (K : PySem.W.Frag) (mg : Str → Option Value) (base : Heap) (CX : CXT) (k : Nat) (x : Str) (st : Stmt) (ps : List Str) (sp : Sp) : Prop :=
  ∀ f fd, Fun K x x st f fd → FnG P w K mg base CX k f fd ps sp
section
variable {P : Program} {w : World} {K : PySem.W.Frag} {mg : Str → Option Value} {base : Heap} {k : Nat} {x : Str} {st : Stmt} {N ps : List Str} {sp : Sp}
theorem mkA (S : FnScope N ps (defScope st)) (len : ∀ vs H Q E, sp vs H Q E → vs.length = ps.length)
    (hbody : ∀ (f : Addr) (cdv : Value) (A : Around) (outer : List Env) (s : Shared) (H : Hp) (vs : List V) (Q : VK) (E : XK), A.guards = some [] → Room k (A.deeper (envOfC x (defScope st) s.heap.objs.size f cdv)) → sp vs H Q E →
      ∃ t, PSs (cxOf CX0 P w K mg base N x (defScope st) f cdv A outer s H E).nox (defBody st) t ∧ t { nx := fun _ H' => Q .non H', rt := Q } (start N vs) H) :
    PrAt P w K mg base CX0 (k + 1) x st ps sp := fun f fd F => okG F S len (hbody f)
theorem tx_mk {f : Addr} {h : Heap} {oc : Value} {od an : Option Addr} {osl : Array (Option Value)} {kV doc pm cdv ct : Value} (X : K.In h) (G : h.Ns mainGlobals mg) (a : PySem.W.nsIn K mainGlobals x = some (some (.ref f)))
    (l : K.lookup f = some ⟨oc, od, .func (PySem.W.fnOf x x (defArgs st) (defBody st) (defScope st) .none kV doc pm an cdv ct), osl⟩) (c : PySem.W.codeIn K cdv x = true) (kp : PySem.W.keepIn K (.ref f) = true) : Tx K mg x st :=
  ⟨f, _, fun_mk l c kp, PySem.W.mg_of X G a⟩
end
section
variable {X : Cx} {CX : CXT} {j k : Nat} {ps : List Str} {sp : Sp} {x : Str} {p pos : Pos} {e : Expr} {es : List Expr} {t : TA}
theorem pe_P (h : Pr X.prog X.w X.K X.mg X.base CX0 j x ps sp) (hr : Room k X.A) (hG : X.A.guards = some []) (hg : Gl X x) (ha : PA X (e :: es) t) (hj : j ≤ k := by decide)
    (hdb : (x == ("__debug__" : Str)) = false := by decide) (he : starEach (e :: es) X.env = (false, eval e X.env) :: starEach es X.env := by rfl) (hpl : (backTo pos (starEach es X.env)).any (·.1) = false := by rfl) :
    PE X (.Call (.Name x p) (e :: es) [] pos) (tCall sp [] E0 t) := by
  obtain ⟨f, fd, F, g, kp, b⟩ := h
  exact pe_callG F hG (hr.mono hj) hg g kp b .nil pass0 ha hdb he hpl
end

/-! ### readings, one step each -/
theorem cxK {CX : CXT} {P : Program} {w : World} {K : PySem.W.Frag} {mg : Str → Option Value} {base : Heap} {N : List Str} {qual : Str} {scope : Scope} {f : Addr} {cd : Value} {A : Around} {outer : List Env} {s : Shared} {H : Hp} {E : XK} :
    (cxOf CX P w K mg base N qual scope f cd A outer s H E).K = K := rfl
theorem cxKn {CX : CXT} {P : Program} {w : World} {K : PySem.W.Frag} {mg : Str → Option Value} {base : Heap} {N : List Str} {qual : Str} {scope : Scope} {f : Addr} {cd : Value} {A : Around} {outer : List Env} {s : Shared} {H : Hp} {E : XK} :
    (cxOf CX P w K mg base N qual scope f cd A outer s H E).nox.K = K := rfl
section
variable {σ : L2.St} {H : Hp} {Q : VK} {K : PySem.W.Frag} {v x : V} {a b i' : Int} {i n : Nat} {s z : Str} {o : Option V} {k : Bool}
theorem x_var0 {r : L2.St} : tVar 0 (some v :: r) H Q ↔ Q v H := ⟨fun ⟨u, e, q⟩ => by cases e; exact q, fun q => ⟨v, rfl, q⟩⟩
theorem x_varS {r : L2.St} : tVar (n + 1) (o :: r) H Q ↔ tVar n r H Q := Iff.rfl
theorem x_c : tC v σ H Q ↔ Q v H := Iff.rfl
theorem x_op {r : R2} {ta tb : TE} : tOp r ta tb σ H Q ↔ ta σ H fun x H1 => tb σ H1 fun y H2 => r x y H2 Q := Iff.rfl
theorem x_un {r : V → Hp → VK → Prop} {ta : TE} : tUn r ta σ H Q ↔ ta σ H fun x H1 => r x H1 Q := Iff.rfl
theorem x_I0 {g : Int → Int → V} : rI0 g (.int a) (.int b) H Q ↔ Q (g a b) H := ⟨fun ⟨_, _, e1, e2, q⟩ => by cases e1; cases e2; exact q, fun q => ⟨_, _, rfl, rfl, q⟩⟩
theorem x_I {C : Int → Int → Prop} {g : Int → Int → V} : rI C g (.int a) (.int b) H Q ↔ C a b ∧ Q (g a b) H := ⟨fun ⟨_, _, e1, e2, q⟩ => by cases e1; cases e2; exact q, fun q => ⟨_, _, rfl, rfl, q⟩⟩
theorem x_rU {g : Int → V} : rU g (.int a) H Q ↔ Q (g a) H := ⟨fun ⟨_, e1, q⟩ => by cases e1; exact q, fun q => ⟨_, rfl, q⟩⟩
theorem x_nil {Q : List V → Hp → Prop} : tNil σ H Q ↔ Q [] H := Iff.rfl
theorem x_cons {ta : TE} {tr : TA} {Q : List V → Hp → Prop} : tCons ta tr σ H Q ↔ ta σ H fun x H1 => tr σ H1 fun xs H2 => Q (x :: xs) H2 := Iff.rfl
theorem x_test {te : TE} {Q : Bool → Hp → Prop} : tTest te σ H Q ↔ te σ H fun x H1 => ∃ k, x = .bl k ∧ Q k H1 := Iff.rfl
theorem x_B {te : TE} {Q : Bool → Hp → Prop} : tB te σ H Q ↔ te σ H fun x H1 => ∃ k, x = .bl k ∧ Q k H1 := Iff.rfl
theorem x_bl {Q : Bool → Prop} : (∃ c, V.bl k = V.bl c ∧ Q c) ↔ Q k := ⟨fun ⟨_, e, q⟩ => by cases e; exact q, fun q => ⟨_, rfl, q⟩⟩
theorem x_call {sp : Sp} {dvs : List V} {E : XK} {t : TA} : tCall sp dvs E t σ H Q ↔ t σ H fun vs H1 => sp (vs ++ dvs) H1 Q E := Iff.rfl
theorem x_CB {r : List V → Hp → VK → Prop} {t : TA} : tCB r t σ H Q ↔ t σ H fun vs H1 => r vs H1 Q := Iff.rfl
theorem x_tup {t : TA} : tTup t σ H Q ↔ t σ H fun xs H1 => xs.length ≤ sizeLine ∧ ∀ p, H1 p = none → Q (.ref p) (upd H1 p (.tup xs)) := Iff.rfl
theorem x_lst {t : TA} : tLst t σ H Q ↔ t σ H fun xs H1 => xs.length ≤ sizeLine ∧ ∀ p, H1 p = none → Q (.ref p) (upd H1 p (.lst xs)) := Iff.rfl
theorem x_not {t : TT} {Q : Bool → Hp → Prop} : tNot t σ H Q ↔ t σ H fun c H1 => Q (!c) H1 := Iff.rfl
theorem x_seq {t u : TS} {D : Ends} : tSeq t u D σ H ↔ t { D with nx := u D } σ H := Iff.rfl
theorem x_asg {te : TE} {g : TG} {D : Ends} : tAsg te g D σ H ↔ te σ H fun x H1 => g x σ H1 D.nx := Iff.rfl
theorem x_name {Q : L2.St → Hp → Prop} : gName i v σ H Q ↔ Q (σ.set i (some v)) H := Iff.rfl
theorem x_sub {to ti : TE} {t : TSet} {Q : L2.St → Hp → Prop} : gSub to ti t v σ H Q ↔ to σ H fun o H1 => ti σ H1 fun i H2 => t o i v H2 fun H3 => Q σ H3 := Iff.rfl
theorem x_ret {te : TE} {D : Ends} : tRet te D σ H ↔ te σ H D.rt := Iff.rfl
theorem x_ifS {c : TT} {t u : TS} {D : Ends} : tIfS c t u D σ H ↔ c σ H fun b H1 => if b = true then t D σ H1 else u D σ H1 := Iff.rfl
theorem x_next {D : Ends} : tNext D σ H ↔ D.nx σ H := Iff.rfl
theorem x_ixL {p : Addr} {xs : List V} (h : SqL K H p xs) (ha : atI xs i' = some v) (q : Q v H) : rIxL K (.ref p) (.int i') H Q := ⟨p, xs, i', v, rfl, rfl, h, ha, q⟩
theorem x_ixT {p : Addr} {xs : List V} (h : SqT K H p xs) (ha : atI xs i' = some v) (q : Q v H) : rIxT K (.ref p) (.int i') H Q := ⟨p, xs, i', v, rfl, rfl, h, ha, q⟩
theorem x_ite {c : Prop} [Decidable c] {A B : Prop} : (if decide c = true then A else B) ↔ ((c → A) ∧ (¬ c → B)) := by
  by_cases h : c
  · simp [h]
  · simp [h]
theorem x_iteN {c : Prop} [Decidable c] {A B : Prop} : (if (!decide c) = true then A else B) ↔ ((¬ c → A) ∧ (c → B)) := by
  by_cases h : c
  · simp [h]
  · simp [h]
theorem x_T {A B : Prop} : (if true = true then A else B) ↔ A := by simp
theorem x_F {A B : Prop} : (if false = true then A else B) ↔ B := by simp
theorem x_tT {A B : Prop} : (if (!true) = true then A else B) ↔ B := by simp
theorem x_tF {A B : Prop} : (if (!false) = true then A else B) ↔ A := by simp
theorem x_eqII {a b : Int} : scal (.int a) (.int b) = true := rfl
theorem x_eqSS {a b : Str} : scal (.str a) (.str b) = true := rfl
theorem x_eqBB {a b : Bool} : scal (.bl a) (.bl b) = true := rfl
theorem x_Eq : rEq v x H Q ↔ (scal v x = true ∧ Q (.bl (decide (v = x))) H) := Iff.rfl
theorem x_Ne : rNe v x H Q ↔ (scal v x = true ∧ Q (.bl (!decide (v = x))) H) := Iff.rfl
theorem x_and {t u : TT} {Q : Bool → Hp → Prop} : tAnd t u σ H Q ↔ t σ H fun c H1 => if c = true then u σ H1 Q else Q false H1 := Iff.rfl
theorem x_or {t u : TT} {Q : Bool → Hp → Prop} : tOr t u σ H Q ↔ t σ H fun c H1 => if c = true then Q true H1 else u σ H1 Q := Iff.rfl
theorem x_andV {ta tb : TE} : tAndV ta tb σ H Q ↔ ta σ H fun x H1 => ∃ c, x = .bl c ∧ if c = true then tb σ H1 Q else Q (.bl false) H1 := Iff.rfl
theorem x_orV {ta tb : TE} : tOrV ta tb σ H Q ↔ ta σ H fun x H1 => ∃ c, x = .bl c ∧ if c = true then Q (.bl true) H1 else tb σ H1 Q := Iff.rfl
theorem x_notV {ta : TE} : tNotV ta σ H Q ↔ ta σ H fun x H1 => ∃ c, x = .bl c ∧ Q (.bl (!c)) H1 := Iff.rfl
theorem x_if {t : TT} {ta tb : TE} : tIf t ta tb σ H Q ↔ t σ H fun c H1 => if c = true then ta σ H1 Q else tb σ H1 Q := Iff.rfl
theorem x_par {i j : Nat} {ta : TA} {D : Ends} : tPar i j ta D σ H ↔ ta σ H fun vs H1 => ∃ v w, vs = [v, w] ∧ D.nx ((σ.set i (some v)).set j (some w)) H1 := Iff.rfl
theorem x_two {v w : V} {Q : V → V → Prop} : (∃ a b, [v, w] = [a, b] ∧ Q a b) ↔ Q v w := ⟨fun ⟨_, _, e, q⟩ => by cases e; exact q, fun q => ⟨_, _, rfl, q⟩⟩
theorem x_drop {te : TE} {D : Ends} : tDrop te D σ H ↔ te σ H fun _ H1 => D.nx σ H1 := Iff.rfl
theorem x_BM {T : String} {r : V → List V → Hp → VK → Prop} {to : TE} {t : TA} : tBM K T r to t σ H Q ↔ to σ H fun x H1 => tyV K T x H1 ∧ t σ H1 fun xs H2 => r x xs H2 Q := Iff.rfl
theorem x_app {l : Addr} {xs : List V} (h : H l = some (.lst xs)) (hz : xs.length < sizeLine) (q : Q .non (upd H l (.lst (xs ++ [v])))) : rAppend (.ref l) [v] H Q := ⟨l, xs, v, rfl, rfl, h, hz, q⟩
theorem x_tyL {l : Addr} {xs : List V} (h : SqL K H l xs) : tyV K "list" (.ref l) H := Or.inl ⟨rfl, _, h⟩
theorem x_set0 {r : L2.St} {u : Option V} : List.set (o :: r) 0 u = u :: r := rfl
theorem x_setS {r : L2.St} {u : Option V} : List.set (o :: r) (n + 1) u = o :: List.set r n u := rfl
theorem x_setL {p : Addr} {xs : List V} {j : Nat} {Q : Hp → Prop} (h : H p = some (.lst xs)) (hj : ixN xs.length i' = some j) (q : Q (upd H p (.lst (xs.set j v)))) : rSetL (.ref p) (.int i') v H Q := ⟨p, xs, i', j, rfl, rfl, h, hj, q⟩
/-- what is left of a for loop over J -/
def Lp (J : It) (g : TG) (tb : TS) (D : Ends) (σ : L2.St) (H1 : Hp) : Prop := ∃ W : Nat → Nat → L2.St → Hp → Prop, (∃ m, W 0 m σ H1) ∧ ∀ i m σ H, W i m σ H →
  (J.stop i H ∧ D.nx σ H) ∨ (J.go i H ∧ ∃ N : L2.St → Hp → Prop, (∀ σ' H', N σ' H' → ∃ m', m' < m ∧ W (i + 1) m' σ' H') ∧ ∀ x H', J.yld i H x H' → g x σ H' fun σ2 H2 => tb { D with nx := N, ct := N, bk := D.nx } σ2 H2)
theorem x_forL {te : TE} {g : TG} {tb : TS} {D : Ends} : tFor (iList K te) g tb D σ H ↔ te σ H fun x H1 => ∃ a, x = .ref a ∧ (∃ xs, SqL K H1 a xs) ∧ Lp (Itl K a) g tb D σ H1 := Iff.rfl
theorem x_forT {te : TE} {g : TG} {tb : TS} {D : Ends} : tFor (iTup K te) g tb D σ H ↔ te σ H fun x H1 => ∃ a, x = .ref a ∧ (∃ xs, SqT K H1 a xs) ∧ Lp (Itt K a) g tb D σ H1 := Iff.rfl
theorem x_forR1 {ta : TA} {g : TG} {tb : TS} {D : Ends} : tFor (iRng1 ta) g tb D σ H ↔ ta σ H fun vs H1 => ∃ j : Int, vs = [.int j] ∧ -(2 ^ 62) ≤ j ∧ j < 2 ^ 62 ∧ Lp (Itr 0 j.toNat) g tb D σ H1 := Iff.rfl
theorem x_forR2 {ta : TA} {g : TG} {tb : TS} {D : Ends} : tFor (iRng2 ta) g tb D σ H ↔ ta σ H fun vs H1 => ∃ i j : Int, vs = [.int i, .int j] ∧ (-(2 ^ 62) ≤ i ∧ i < 2 ^ 62 ∧ -(2 ^ 62) ≤ j ∧ j < 2 ^ 62) ∧ Lp (Itr i (j - i).toNat) g tb D σ H1 := Iff.rfl
theorem x_forE {ta : TA} {g : TG} {tb : TS} {D : Ends} : tFor (iEnum K ta) g tb D σ H ↔ ta σ H fun vs H1 => ∃ a xs, vs = [.ref a] ∧ SqL K H1 a xs ∧ Lp (Ite K a) g tb D σ H1 := Iff.rfl
theorem lpL {a : Addr} {xs : List V} {g : TG} {tb : TS} {D : Ends} (Pv : Nat → L2.St → Hp → Prop) (h0 : Pv 0 σ H) (hl : ∀ i σ H, i ≤ xs.length → Pv i σ H → SqL K H a xs)
    (hs : ∀ i x σ H, xs[i]? = some x → Pv i σ H → g x σ H fun σ2 H2 => tb { D with nx := Pv (i + 1), ct := Pv (i + 1), bk := D.nx } σ2 H2) (hd : ∀ σ H, Pv xs.length σ H → D.nx σ H) : Lp (Itl K a) g tb D σ H := for_list Pv h0 hl hs hd
theorem lpT {a : Addr} {xs : List V} {g : TG} {tb : TS} {D : Ends} (Pv : Nat → L2.St → Hp → Prop) (h0 : Pv 0 σ H) (hl : ∀ i σ H, i ≤ xs.length → Pv i σ H → SqT K H a xs)
    (hs : ∀ i x σ H, xs[i]? = some x → Pv i σ H → g x σ H fun σ2 H2 => tb { D with nx := Pv (i + 1), ct := Pv (i + 1), bk := D.nx } σ2 H2) (hd : ∀ σ H, Pv xs.length σ H → D.nx σ H) : Lp (Itt K a) g tb D σ H := for_tup Pv h0 hl hs hd
theorem lpR {lo : Int} {m : Nat} {g : TG} {tb : TS} {D : Ends} (Pv : Nat → L2.St → Hp → Prop) (h0 : Pv 0 σ H)
    (hs : ∀ i σ H, i < m → Pv i σ H → g (.int (lo + i)) σ H fun σ2 H2 => tb { D with nx := Pv (i + 1), ct := Pv (i + 1), bk := D.nx } σ2 H2) (hd : ∀ σ H, Pv m σ H → D.nx σ H) : Lp (Itr lo m) g tb D σ H := for_range Pv h0 hs hd
theorem lpE {a : Addr} {xs : List V} {g : TG} {tb : TS} {D : Ends} (Pv : Nat → L2.St → Hp → Prop) (h0 : Pv 0 σ H) (hl : ∀ i σ H, i ≤ xs.length → Pv i σ H → SqL K H a xs)
    (hs : ∀ i x σ H T, xs[i]? = some x → Pv i σ H → H T = none → g (.ref T) σ (upd H T (.tup [.int (i : Nat), x])) fun σ2 H2 => tb { D with nx := Pv (i + 1), ct := Pv (i + 1), bk := D.nx } σ2 H2) (hd : ∀ σ H, Pv xs.length σ H → D.nx σ H) : Lp (Ite K a) g tb D σ H := by
  refine ⟨fun i m σ H => m = xs.length - i ∧ i ≤ xs.length ∧ Pv i σ H, ⟨xs.length, by simp, Nat.zero_le _, h0⟩, ?_⟩
  rintro i m σ H ⟨rfl, hi, p⟩
  have q := hl i σ H hi p
  by_cases hlt : i < xs.length
  · refine .inr ⟨⟨xs, xs[i], q, by simp [hlt]⟩, Pv (i + 1), fun σ' H' p' => ⟨xs.length - (i + 1), by omega, rfl, hlt, p'⟩, fun x H' y => ?_⟩
    obtain ⟨T, z, rfl, nT, rfl, f⟩ := y
    have e := f xs q
    exact hs i z σ H T e p nT
  · have e : i = xs.length := by omega
    subst e
    exact .inl ⟨⟨xs, q, Nat.le_refl _⟩, hd σ H p⟩
theorem x_ref {b : Addr} {P : Addr → Prop} : (∃ a, V.ref b = V.ref a ∧ P a) ↔ P b := ⟨fun ⟨_, e, q⟩ => by cases e; exact q, fun q => ⟨_, rfl, q⟩⟩
theorem x_int1 {a : Int} {P : Int → Prop} : (∃ i, V.int a = V.int i ∧ P i) ↔ P a := ⟨fun ⟨_, e, q⟩ => by cases e; exact q, fun q => ⟨_, rfl, q⟩⟩
theorem x_oneI {a : Int} {P : Int → Prop} : (∃ i, [V.int a] = [V.int i] ∧ P i) ↔ P a := ⟨fun ⟨_, e, q⟩ => by cases e; exact q, fun q => ⟨_, rfl, q⟩⟩
theorem x_oneB {P : Bool → Prop} : (∃ i, [V.bl k] = [V.bl i] ∧ P i) ↔ P k := ⟨fun ⟨_, e, q⟩ => by cases e; exact q, fun q => ⟨_, rfl, q⟩⟩
theorem x_noBI {P : Int → Prop} : (∃ i, [V.bl k] = [V.int i] ∧ P i) ↔ False := ⟨fun ⟨_, e, _⟩ => (nomatch e), fun q => q.elim⟩
theorem x_twoI {a b : Int} {P : Int → Int → Prop} : (∃ i j, [V.int a, V.int b] = [V.int i, V.int j] ∧ P i j) ↔ P a b := ⟨fun ⟨_, _, e, q⟩ => by cases e; exact q, fun q => ⟨_, _, rfl, q⟩⟩
theorem x_sl {r : V → Option Int → Option Int → Hp → VK → Prop} {te : TE} {tl th : TO} : tSl r te tl th σ H Q ↔ te σ H fun x H1 => tl σ H1 fun l H2 => th σ H2 fun u H3 => r x l u H3 Q := Iff.rfl
theorem x_noP {Q : Option Int → Hp → Prop} : tNoPart σ H Q ↔ Q none H := Iff.rfl
theorem x_part {te : TE} {Q : Option Int → Hp → Prop} : tPart te σ H Q ↔ te σ H fun x H1 => ∃ i, x = .int i ∧ Q (some i) H1 := Iff.rfl
theorem x_slL {a : Addr} {xs : List V} {lo hi : Option Int} (h : SqL K H a xs) (q : ∀ p, H p = none → Q (.ref p) (upd H p (.lst (cutV xs lo hi)))) : rSlL K (.ref a) lo hi H Q := ⟨a, xs, rfl, h, q⟩
theorem same_new {H : Hp} {p : Addr} {o : HO} (h : H p = none) : Same H (upd H p o) := fun b x e => by rw [upd_ne (ne_of_none e h)]; exact e
theorem same_mut {H H' : Hp} {p : Addr} {o : HO} (e : Same H H') (h : H p = none) : Same H (upd H' p o) := fun a u ha => by rw [upd_ne (ne_of_none ha h)]; exact e a u ha
theorem x_gtup {a : Addr} {xs : List V} {t : TGs} {Q : L2.St → Hp → Prop} (h : SqT K H a xs) (hl : xs.length = n) (q : t xs σ H Q) : gTup K n t (.ref a) σ H Q := ⟨a, xs, rfl, h, hl, q⟩
theorem x_gcons {t : TG} {u : TGs} {xs : List V} {Q : L2.St → Hp → Prop} : gCons t u (v :: xs) σ H Q ↔ t v σ H fun σ' H' => u xs σ' H' Q := ⟨fun ⟨_, _, e, q⟩ => by cases e; exact q, fun q => ⟨_, _, rfl, q⟩⟩
theorem x_gnil {Q : L2.St → Hp → Prop} : gNil [] σ H Q ↔ Q σ H := ⟨fun ⟨_, q⟩ => q, fun q => ⟨rfl, q⟩⟩
theorem x_dec {a b : Int} : decide (V.int a = V.int b) = decide (a = b) := by
  by_cases h : a = b
  · simp [h]
  · rw [decide_eq_false h, decide_eq_false (fun e => h (V.int.inj e))]
theorem x_decS {a b : Str} : decide (V.str a = V.str b) = decide (a = b) := by
  by_cases h : a = b
  · simp [h]
  · rw [decide_eq_false h, decide_eq_false (fun e => h (V.str.inj e))]
end
theorem atI_in {xs : List V} {i : Int} (h0 : 0 ≤ i) (h1 : i < xs.length) : ∃ x, atI xs i = some x ∧ x ∈ xs := by
  have hj : i.toNat < xs.length := by omega
  refine ⟨xs[i.toNat], ?_, List.getElem_mem hj⟩
  have e := atI_nat (xs := xs) (j := i.toNat) (List.getElem?_eq_getElem hj)
  rwa [Int.toNat_of_nonneg h0] at e
/-- an if without else: what follows is shown once, for all heaps of which I holds -/
theorem joinI {c A : Prop} {G : Hp → Prop} {H : Hp} (I : Hp → Prop) (hI : I H) (t : ∀ H, I H → G H) (ha : c → (∀ H, I H → G H) → A) : (c → A) ∧ (¬ c → G H) := ⟨fun h => ha h t, fun _ => t H hI⟩
theorem joinE {c A : Prop} {G : Hp → Prop} {H : Hp} (I : Hp → Prop) (hI : I H) (t : ∀ H, I H → G H) (ha : ¬ c → (∀ H, I H → G H) → A) : (c → G H) ∧ (¬ c → A) := ⟨fun _ => t H hI, fun h => ha h t⟩
end Cc

set_option Elab.async false
set_option linter.all false
set_option maxRecDepth 100000
set_option maxHeartbeats 4000000
/-! When repr of plain data is short enough. -/
namespace Cc
open PySem PySem.Spec PyProof.Rows L2
mutual
def smallD : PyData → Prop
  | .none => True
  | .bool _ => True
  | .int i => i.natAbs < 10 ^ 500
  | .str x => ∀ c ∈ x.cps.toList, c < 16 ^ 8
  | .list xs => smallL xs
  | .tuple xs => smallL xs
  | .dict _ => False
def smallL : List PyData → Prop
  | [] => True
  | x :: xs => smallD x ∧ smallL xs
end
mutual
theorem small_ok : ∀ d : PyData, smallD d → d.showable = true ∧ d.leavesShort 700 = true
  | .none, _ => ⟨rfl, rfl⟩
  | .bool _, _ => ⟨rfl, rfl⟩
  | .int i, h => by
    have h1 : i.natAbs < 10 ^ 500 := by simpa only [smallD] using h
    have h2 : i.natAbs < 2 ^ 1920 := Nat.lt_trans h1 (by decide +kernel)
    refine ⟨by simp only [PyData.showable, decide_eq_true_eq]; exact log2_small h2, ?_⟩
    simp only [PyData.leavesShort, decide_eq_true_eq, PyData.shown]
    refine decide_eq_true ?_
    rw [PySem.ofString_length]
    exact Nat.le_trans (int_text_length_le10 (k := 500) (by decide) h1) (show 500 + 1 ≤ 700 by decide)
  | .str x, h => by
    refine ⟨rfl, ?_⟩
    simp only [PyData.leavesShort, List.all_eq_true, decide_eq_true_eq]
    simpa only [smallD] using h
  | .list xs, h => by
    have q := small_okL xs (by simpa only [smallD] using h)
    exact ⟨by simpa only [PyData.showable] using q.1, by simpa only [PyData.leavesShort] using q.2⟩
  | .tuple xs, h => by
    have q := small_okL xs (by simpa only [smallD] using h)
    exact ⟨by simpa only [PyData.showable] using q.1, by simpa only [PyData.leavesShort] using q.2⟩
  | .dict _, h => by simp only [smallD] at h
theorem small_okL : ∀ ds : List PyData, smallL ds → PyData.showableAll ds = true ∧ PyData.leavesShortAll 700 ds = true
  | [], _ => ⟨rfl, rfl⟩
  | d :: ds, h => by
    have h' : smallD d ∧ smallL ds := by simpa only [smallL] using h
    have q1 := small_ok d h'.1
    have q2 := small_okL ds h'.2
    exact ⟨by simp only [PyData.showableAll, q1.1, q2.1, Bool.and_self], by simp only [PyData.leavesShortAll, q1.2, q2.2, Bool.and_self]⟩
end
def Rok (d : PyData) : Prop := d.showable = true ∧ d.depth ≤ 60 ∧ d.shown.length ≤ sizeLine
theorem rok_of {d : PyData} (h : smallD d) (hd : d.depth ≤ 60) (hb : d.bulk ≤ 20000) : Rok d := by
  have q := small_ok d h
  refine ⟨q.1, hd, ?_⟩
  have z := PyData.shown_le_bulk 700 (by decide) d q.2
  have : (700 + 2) * d.bulk ≤ 702 * 20000 := Nat.mul_le_mul (by omega) hb
  rw [sizeLine_eq]
  omega
section
variable {K : PySem.W.Frag} {H : Hp} {Q : VK} {v : V} {d : PyData}
theorem x_repD (h : Dp K H v d) (r : Rok d) (q : Q (.str d.shown) H) : rRepD K [v] H Q := ⟨v, d, rfl, h, r.1, r.2.1, r.2.2, q⟩
end
theorem nat_abs_lt {i : Int} (h0 : -(10 ^ 400) < i) (h1 : i < 10 ^ 400) : i.natAbs < 10 ^ 500 := by
  have h : i.natAbs < 10 ^ 400 := by
    rcases Int.natAbs_eq i with e | e
    · rw [e] at h1; exact_mod_cast h1
    · rw [e] at h0
      have : ((i.natAbs : Nat) : Int) < 10 ^ 400 := by omega
      exact_mod_cast this
  exact Nat.lt_trans h (by decide +kernel)
end Cc

set_option Elab.async false
set_option linter.all false
set_option maxRecDepth 100000
set_option maxHeartbeats 4000000
/-! Data in a growing heap; comprehensions; a text repeated. -/
namespace Cc
open PySem PySem.Spec PyProof.Rows L2
theorem Same.tup' {K : PySem.W.Frag} {H H' : Hp} {a : Addr} {xs : List V} (e : Same H H') (h : SqT K H a xs) : SqT K H' a xs := by
  rcases h with (h | ⟨o, h⟩) | h
  · exact .inl (.inl (e _ _ h))
  · exact .inl (.inr ⟨o, e _ _ h⟩)
  · exact .inr h
mutual
theorem Dp.same {K : PySem.W.Frag} {H H' : Hp} (e : Same H H') : ∀ (d : PyData) {v : V}, Dp K H v d → Dp K H' v d
  | .none, _, h => by cases h; exact .non
  | .bool b, _, h => by cases h; exact .bl b
  | .int i, _, h => by cases h; exact .int i
  | .str x, _, h => by cases h; exact .str x
  | .list ds, _, h => by
    cases h with
    | lst hs ha => exact .lst (e.seq hs) (DpAll.same e ds ha)
  | .tuple ds, _, h => by
    cases h with
    | tup hs ha => exact .tup (Same.tup' e hs) (DpAll.same e ds ha)
  | .dict _, _, h => by cases h
theorem DpAll.same {K : PySem.W.Frag} {H H' : Hp} (e : Same H H') : ∀ (ds : List PyData) {vs : List V}, DpAll K H vs ds → DpAll K H' vs ds
  | [], _, h => by cases h; exact .nil
  | d :: ds, _, h => by
    cases h with
    | cons h1 h2 => exact .cons (Dp.same e d h1) (DpAll.same e ds h2)
end
theorem dpBools {K : PySem.W.Frag} {H : Hp} : ∀ bs : List Bool, DpAll K H (bs.map V.bl) (bs.map PyData.bool)
  | [] => .nil
  | b :: bs => .cons (.bl b) (dpBools bs)
/-- what is left of a comprehension over J, its list at D -/
def Lcp (J : It) (g : TG) (tt : TT) (te : TE) (vs : List Nat) (σ : L2.St) (D : Addr) (H1 : Hp) (Q : VK) : Prop := ∃ W : Nat → Nat → Hp → Prop, (∃ m, W 0 m (upd H1 D (.lst []))) ∧ ∀ i m H, W i m H →
  (J.stop i H ∧ Q (.ref D) H) ∨ (J.go i H ∧ ∃ Nx : Hp → Prop, (∀ H', Nx H' → ∃ m', m' < m ∧ W (i + 1) m' H') ∧ ∀ x H', J.yld i H x H' → g x (wipe σ vs) H' fun σ2 H2 => wipe σ2 vs = wipe σ vs ∧ tt σ2 H2 fun b H3 =>
    if b = true then te σ2 H3 fun y H4 => ∃ acc, H4 D = some (.lst acc) ∧ acc.length < sizeLine ∧ Nx (upd H4 D (.lst (acc ++ [y]))) else Nx H3)
section
variable {K : PySem.W.Frag} {σ : L2.St} {H : Hp} {Q : VK} {g : TG} {tt : TT} {te tl : TE} {ta : TA} {vs : List Nat} {D : Addr} {n : Nat} {o : Option V}
theorem x_lcR1 : tLc (iRng1 ta) g tt te vs σ H Q ↔ ta σ H fun ws H1 => ∃ j : Int, ws = [.int j] ∧ -(2 ^ 62) ≤ j ∧ j < 2 ^ 62 ∧ ∀ D, H1 D = none → Lcp (Itr 0 j.toNat) g tt te vs σ D H1 Q := Iff.rfl
theorem x_lcL : tLc (iList K tl) g tt te vs σ H Q ↔ tl σ H fun x H1 => ∃ a, x = .ref a ∧ (∃ xs, SqL K H1 a xs) ∧ ∀ D, H1 D = none → Lcp (Itl K a) g tt te vs σ D H1 Q := Iff.rfl
theorem lcR {lo : Int} {n : Nat} (Pv : Nat → Hp → Prop) (h0 : Pv 0 (upd H D (.lst [])))
    (hs : ∀ i H, i < n → Pv i H → g (.int (lo + i)) (wipe σ vs) H fun σ2 H2 => wipe σ2 vs = wipe σ vs ∧ tt σ2 H2 fun b H3 =>
      if b = true then te σ2 H3 fun y H4 => ∃ acc, H4 D = some (.lst acc) ∧ acc.length < sizeLine ∧ Pv (i + 1) (upd H4 D (.lst (acc ++ [y]))) else Pv (i + 1) H3) (hd : ∀ H, Pv n H → Q (.ref D) H) : Lcp (Itr lo n) g tt te vs σ D H Q := lc_range Pv h0 hs hd
theorem lcL {a : Addr} {xs : List V} (Pv : Nat → Hp → Prop) (h0 : Pv 0 (upd H D (.lst []))) (hl : ∀ i H, i ≤ xs.length → Pv i H → SqL K H a xs)
    (hs : ∀ i x H, xs[i]? = some x → Pv i H → g x (wipe σ vs) H fun σ2 H2 => wipe σ2 vs = wipe σ vs ∧ tt σ2 H2 fun b H3 =>
      if b = true then te σ2 H3 fun y H4 => ∃ acc, H4 D = some (.lst acc) ∧ acc.length < sizeLine ∧ Pv (i + 1) (upd H4 D (.lst (acc ++ [y]))) else Pv (i + 1) H3) (hd : ∀ H, Pv xs.length H → Q (.ref D) H) : Lcp (Itl K a) g tt te vs σ D H Q := lc_list Pv h0 hl hs hd
theorem x_yes {Q : Bool → Hp → Prop} : tYes σ H Q ↔ Q true H := Iff.rfl
theorem x_wipe0 : wipe σ [] = σ := rfl
theorem x_wipeS {v : Nat} : wipe σ (v :: vs) = (wipe σ vs).set v none := rfl
end
/-! ### a text repeated -/
theorem rep_size (a : Array Nat) : ∀ (n : Nat) (b : Array Nat), ((List.replicate n a).foldl (· ++ ·) b).size = b.size + n * a.size
  | 0, b => by simp
  | n + 1, b => by
    rw [List.replicate_succ, List.foldl_cons, rep_size a n (b ++ a), Array.size_append, Nat.succ_mul]
    omega
theorem rep_mem (a : Array Nat) : ∀ (n : Nat) (b : Array Nat) (c : Nat), c ∈ ((List.replicate n a).foldl (· ++ ·) b).toList → c ∈ b.toList ∨ c ∈ a.toList
  | 0, b, c, h => by simp at h; exact .inl (by simpa using h)
  | n + 1, b, c, h => by
    rw [List.replicate_succ, List.foldl_cons] at h
    rcases rep_mem a n (b ++ a) c h with h | h
    · rw [Array.toList_append, List.mem_append] at h
      exact h
    · exact .inr h
section
variable {X : Cx}
def rRepS : R2 := fun x y H Q => ∃ z n, x = .str z ∧ y = .int n ∧ 0 ≤ n ∧ n ≤ 1000 ∧ z.length ≤ 1000 ∧ ∀ z' : Str, z'.length ≤ z.length * n.toNat → (∀ c ∈ z'.cps.toList, c ∈ z.cps.toList) → Q (.str z') H
theorem op_repS : OpR X (binaryOp .Mult) rRepS := by
  intro pins s σ H x y v u Q I rx ry h
  obtain ⟨z, n, rfl, rfl, n0, n1, hz, q⟩ := h
  obtain ⟨t, rfl⟩ := rx
  obtain ⟨t', rfl⟩ := ry
  have hm : z.length * n.toNat ≤ 1000 * 1000 := Nat.mul_le_mul hz (by omega)
  refine PySem.P.mul_str (by simp; omega) (fun h1 _ => ?_) (fun _ _ => ?_) ?_
  · have h2 : (1000 : Int) ≤ (2 ^ 63 - 1) / n := by
      rw [Int.le_ediv_iff_mul_le (by omega)]
      omega
    omega
  · unfold PySem.Builtin.Str.tooLong
    rw [decide_eq_false]
    rw [sizeLine_eq]
    omega
  · split
    · exact ⟨by decide, ⟨.str Str.empty, H, I.tok _, ⟨_, rfl⟩, q _ (Nat.zero_le _) (fun c hc => nomatch hc)⟩⟩
    · split
      · rename_i h1 h2
        refine ⟨.str z, H, I, ⟨_, rfl⟩, q z ?_ (fun c hc => hc)⟩
        exact Nat.le_mul_of_pos_right _ (by omega)
      · refine ⟨?_, ⟨.str _, H, I.tok _, ⟨_, rfl⟩, q _ ?_ (fun c hc => ?_)⟩⟩
        · show ((List.replicate n.toNat z.cps).foldl (· ++ ·) #[]).size ≤ sizeLine
          rw [rep_size, sizeLine_eq, Nat.mul_comm, show z.cps.size = z.length from rfl]
          simp only [List.size_toArray, List.length_nil]
          omega
        · show ((List.replicate n.toNat z.cps).foldl (· ++ ·) #[]).size ≤ _
          rw [rep_size, Nat.mul_comm, show z.cps.size = z.length from rfl]
          simp only [List.size_toArray, List.length_nil]
          omega
        · rcases rep_mem _ _ _ _ hc with h | h
          · exact nomatch h
          · exact h
end
section
variable {σ : L2.St} {H : Hp} {Q : VK} {z : Str} {n : Int}
theorem x_repS (n0 : 0 ≤ n) (n1 : n ≤ 1000) (hz : z.length ≤ 1000) (q : ∀ z' : Str, z'.length ≤ z.length * n.toNat → (∀ c ∈ z'.cps.toList, c ∈ z.cps.toList) → Q (.str z') H) : rRepS (.str z) (.int n) H Q := ⟨z, n, rfl, rfl, n0, n1, hz, q⟩
theorem x_cat {l b : Addr} {xs zs : List V} (h1 : H l = some (.lst xs)) (h2 : H b = some (.lst zs)) (hz : xs.length + zs.length ≤ sizeLine) (q : ∀ p, H p = none → Q (.ref p) (upd H p (.lst (xs ++ zs)))) : rCat (.ref l) (.ref b) H Q := ⟨l, b, xs, zs, rfl, rfl, h1, h2, hz, q⟩
end
end Cc

set_option Elab.async false
set_option linter.all false
set_option maxRecDepth 100000
set_option maxHeartbeats 4000000
/-! An exception of an own class made by a call with keywords. -/
namespace PySem
namespace HandSPX
open PySem.W PySem.Calls PyProof.Rows
section
variable {nm q : Str} {C N : Addr} {bs bm bmB : List Value} {hdct : Bool} {sn : List Str} {sub : List Value} {ab : Bool} {col : Option Bool} {dd : Option Addr} {k0 k1 k2 k3 k5 : Option Value} {B newId initId : String}
variable {h : Heap} {g : Array GenState} {d : Drawn} {t : Nat} {os : OsState}
theorem kwx_check_new {M : Model} {A : Around} {E : Value → Shared → Prop} {key : Str} {v : Value} {Q : Unit → Shared → Prop}
    (F : ExcBaseFacts B newId initId bmB) (hT : ∀ X : String, bm.contains (.type X) = bmB.contains (.type X))
    (hC : h.get? C = some (excClassObj nm q C N bs bm hdct sn sub ab col dd k0 k1 k2 k3 k5 newId)) (hq : Q () ⟨h, g, d, t, os⟩) :
    wpAny M A (checkBuiltinCall newId ⟨[.ref C], [(key, v)]⟩) Q E ⟨h, g, d, t, os⟩ := by
  have inB : (Value.ref C :: bm).contains (.type B) = true := by
    rw [List.contains_cons, hT]
    rw [F.hasB, Bool.or_true]
  have star := F.noStar
  simp only [checkBuiltinCall, F.newKind, F.newSplit, F.newRow]
  repeat (first
    | refine wpAny_loadPart_at hC ?_
    | (refine wpAny_isSubtype_exc hC ?_
       rw [inB])
    | refine wpAny_staticBase_exc hC ?_
    | refine wpAny_madeBy_exc hC ?_
    | simp only [bne_self_eq_false, Bool.false_eq_true, if_false]
    | wp_step)
  exact hq
theorem kwx_check_call {M : Model} {A : Around} {E : Value → Shared → Prop} {key : Str} {v : Value} {Q : Unit → Shared → Prop}
    (hC : h.get? C = some (excClassObj nm q C N bs bm hdct sn sub ab col dd k0 k1 k2 k3 k5 newId)) (hq : Q () ⟨h, g, d, t, os⟩) :
    wpAny M A (checkBuiltinCall "type.__call__" ⟨[.ref C], [(key, v)]⟩) Q E ⟨h, g, d, t, os⟩ := by
  have f3 := tc_sub
  have isT : (⟨h, g, d, t, os⟩ : Shared).TypeIs (.ref C) "type" := ⟨_, hC, rfl⟩
  simp only [checkBuiltinCall, tc_kind, tc_split]
  repeat (any_goals (first
    | assumption
    | with_reducible refine wpAny_loadPart_at hC ?_
    | with_reducible refine wpAny_onRaise ?_
    | with_reducible refine wpAny_map ?_
    | wp_step))
end
section
variable {nm q : Str} {C N : Addr} {bs bm bmB : List Value} {hdct : Bool} {sn : List Str} {sub : List Value} {ab : Bool} {col : Option Bool} {dd : Option Addr} {k0 k1 k2 k3 k5 : Option Value} {B newId initId : String}
variable {h : Heap} {g : Array GenState} {d : Drawn} {t : Nat} {os : OsState} {prog : Program} {w : World} {A : Around} {E : Value → Shared → Prop} {R : Result → Shared → Prop}
theorem kwx_new {key : Str} {v : Value} (F : ExcBaseFacts B newId initId bmB) (hT : ∀ X : String, bm.contains (.type X) = bmB.contains (.type X))
    (hC : h.get? C = some (excClassObj nm q C N bs bm hdct sn sub ab col dd k0 k1 k2 k3 k5 newId))
    (hq : R (.ok (.ret (.ref (h.objs.size + 1)))) ⟨(h.push (W.kdv_tup [])).push (excO C h.objs.size), g, d, t, os⟩) :
    codeAny (model prog w) A (.builtin newId ⟨[.ref C], [(key, v)]⟩) R ⟨h, g, d, t, os⟩ := by
  have ends := F.ends
  have inB : (Value.ref C :: bm).contains (.type B) = true := by rw [List.contains_cons, hT]; rw [F.hasB, Bool.or_true]
  have inA : (Value.ref C :: bm).contains (.type "AttributeError") = false := by rw [List.contains_cons, hT]; simp only [F.noAttr]; rfl
  have inN : (Value.ref C :: bm).contains (.type "NameError") = false := by rw [List.contains_cons, hT]; simp only [F.noName]; rfl
  refine codeAny_builtinAt F.entry ?_
  unfold Builtin.«BaseException.__new__»
  refine wpAt_bind ?_
  show wpAt _ _ _ (stack >>= _) _ _ _
  refine wpAt_bind (wpAt_stack fun p below => wpAt_of_wpAny ?_)
  wp_walk
  refine wpAt_of_wpAny ?_
  rw [F.owner]
  repeat (first
    | with_reducible refine wpAny_madeHere_exc F.canon hC ?_
    | with_reducible refine wpAny_loadPart_at hC ?_
    | (with_reducible refine wpAny_isSubtype_exc hC ?_
       first
       | rw [inB]
       | rw [inA]
       | rw [inN])
    | wp_step)
  show R _ _
  rw [Heap.size_push]
  exact hq
theorem kwx_type_call {key : Str} {v : Value} {fI : Addr} {Q : Fin → Shared → Prop} (F : ExcBaseFacts B newId initId bmB) (hT : ∀ X : String, bm.contains (.type X) = bmB.contains (.type X))
    (hC : h.get? C = some (excClassObj nm q C N bs bm hdct sn sub ab col dd k0 k1 k2 k3 k5 newId))
    (hi : W.Looks (model prog w) h (typeLookup (.ref C) "__init__") (some (.ref fI))) (hb : ∀ self, W.Looks (model prog w) h (bindSpecial (.ref fI) self) (.ref fI, [self]))
    (hq : codeAny (model prog w) A (.call (.ref fI) ⟨[.ref (h.objs.size + 1)], [(key, v)]⟩)
      (fun r s' => match r with | .ok (.ret z) => z = .none ∧ Q (.done (.ret (.ref (h.objs.size + 1)))) s' | .ok _ => False | .error e => E e s')
      ⟨(h.push (W.kdv_tup [])).push (excO C h.objs.size), g, d, t, os⟩) :
    wpAny (model prog w) A (Builtin.«type.__call__» ⟨[.ref C], [(key, v)]⟩) Q E ⟨h, g, d, t, os⟩ := by
  repeat (first
    | with_reducible refine wpAny_loadPart_at hC ?_
    | with_reducible refine wpAny_madeBy_exc hC ?_
    | wp_step)
  refine codeAny_call_builtin_code (Code.quiet_builtin _ F.quiet) (kwx_check_new F hT hC ?_)
  refine kwx_new F hT hC ?_
  show wpAny _ _ _ _ _ _
  have keep : ∀ b o, h.get? b = some o → ((h.push (W.kdv_tup [])).push (excO C h.objs.size)).get? b = some o := fun b o e => Heap.get?_push_of_some _ (Heap.get?_push_of_some _ e)
  have atC := keep _ _ hC
  have atE : ((h.push (W.kdv_tup [])).push (excO C h.objs.size)).get? (h.objs.size + 1) = some (excO C h.objs.size) := by heap_get
  have inC : (Value.ref C :: bm).contains (.ref C) = true := by simp
  have i1 := hi.keeps keep
  have b1 := (hb (.ref (h.objs.size + 1))).keeps keep
  unfold isInstance
  repeat (first
    | with_reducible refine wpAny_loadPart_at atE ?_
    | (with_reducible refine wpAny_isSubtype_exc atC ?_
       rw [inC])
    | wp_step)
  show wpAny _ _ (typeLookup (.ref C) _) _ _ _
  refine i1.at ?_
  refine wpAny_holding (wpAny_bind (b1.at ?_))
  refine wpAny_bind (wpAny_call (codeAny_mono hq fun r s' z => ?_))
  match r, z with
  | .error e, z => exact z
  | .ok .next, z => exact z.elim
  | .ok .brk, z => exact z.elim
  | .ok .cont, z => exact z.elim
  | .ok (.ret u), z =>
    obtain ⟨rfl, z⟩ := z
    first
      | exact wpAny_pure (wpAny_pure z)
      | (wp_walk; exact z)
theorem kwx_call {key : Str} {v : Value} {fI : Addr} (F : ExcBaseFacts B newId initId bmB) (hT : ∀ X : String, bm.contains (.type X) = bmB.contains (.type X))
    (hC : h.get? C = some (excClassObj nm q C N bs bm hdct sn sub ab col dd k0 k1 k2 k3 k5 newId))
    (hi : W.Looks (model prog w) h (typeLookup (.ref C) "__init__") (some (.ref fI))) (hb : ∀ self, W.Looks (model prog w) h (bindSpecial (.ref fI) self) (.ref fI, [self]))
    (hq : codeAny (model prog w) (A.under (.builtin "type.__call__" ⟨[.ref C], [(key, v)]⟩)) (.call (.ref fI) ⟨[.ref (h.objs.size + 1)], [(key, v)]⟩) (W.InitBack (h.objs.size + 1) R)
      ⟨(h.push (W.kdv_tup [])).push (excO C h.objs.size), g, d, t, os⟩) :
    codeAny (model prog w) A (.call (.ref C) ⟨[], [(key, v)]⟩) R ⟨h, g, d, t, os⟩ := by
  have f1 := tc_lookup
  have f2 := tc_bind (.ref C)
  have isT : (⟨h, g, d, t, os⟩ : Shared).TypeIs (.ref C) "type" := ⟨_, hC, rfl⟩
  refine codeAny_of_tree ?_
  show wpAny _ _ (callAny (.ref C) _) _ _ _
  repeat (any_goals (first
    | assumption
    | with_reducible refine wpAny_loadPart_at hC ?_
    | wp_step))
  refine ⟨rfl, ?_⟩
  refine codeAny_call_builtin_at (Code.quiet_builtin _ (by decide +kernel)) entry_typeCall (kwx_check_call hC (kwx_type_call F hT hC hi hb ?_))
  refine codeAny_mono hq fun r s' z => ?_
  match r, z with
  | .error e, z => exact z
  | .ok .next, z => exact z
  | .ok .brk, z => exact z
  | .ok .cont, z => exact z
  | .ok (.ret u), z => exact z
end
end HandSPX
end PySem

set_option Elab.async false
set_option linter.all false
set_option maxRecDepth 100000
set_option maxHeartbeats 4000000
/-! Exceptions of own classes as values: made, asked for their class, their field read. -/
namespace Cc
open PySem PySem.Spec PyProof.Rows L2
/-- an exception of the class cls stands at a, its own dict at d -/
def exT (a : Addr) (cls : Value) (d : Option Addr) : HO := .ext fun h => ∃ oe vs, h.get? a = some oe ∧ Zc cls d oe ∧ oe.data = .fields vs
theorem exT_ok {P : Program} {w : World} {H : Hp} {h : Heap} {a : Addr} {cls : Value} {d : Option Addr} {oe : Obj} {vs : Array Value} (e : h.get? a = some oe) (z : Zc cls d oe) (f : oe.data = .fields vs) : ObjOk P w H h a (exT a cls d) :=
  ⟨⟨oe, vs, e, z, f⟩, ⟨oe, e⟩, fun _ _ ⟨o, v, q, r⟩ k => ⟨o, v, k o q, r⟩⟩
/-- what the written part says of an exception class with an __init__ that stores value -/
structure XC (K : PySem.W.Frag) (mg : Str → Option Value) (x : Str) (C fI : Addr) : Prop where
  gC : mg x = some (.ref C)
  T : OexC K C
  I : ExcC K C
  no : PySem.W.findIn K (.ref C) "value" = some none
  iC : PySem.W.findIn K (.ref C) "__init__" = some (some (.ref fI))
  tI : PySem.W.typeIn K (.ref fI) = some (.type "function")
def spInit (K : PySem.W.Frag) (C : Addr) : Sp := fun vs H Q _ => ∃ (a : Addr) (v : V), vs = [.ref a, v] ∧ H a = some (exo a C none) ∧ ∀ dx, H dx = none → dx ≠ a → Q .non (upd (upd H dx (exd dx [("value", v)])) a (exo a C (some dx)))
section
variable {X : Cx} {x : Str} {C fI : Addr} {e : Expr} {ta : TA} {p pos : Pos} {k : Nat} {fd : FuncData}
theorem made_eq {H1 : Hp} {a d : Addr} {C : Addr} {fs : List (Str × V)} {u v : HO} (na : H1 a = none) (hne : d ≠ a) :
    upd (del (upd (upd (upd H1 a u) d (exd d fs)) a v) a) d (.xd fs) = upd H1 d (.xd fs) := by
  funext b
  by_cases hd : b = d
  · rw [hd, upd_same, upd_same]
  · rw [upd_ne hd, upd_ne hd]
    by_cases ha : b = a
    · rw [ha, del_same, na]
    · rw [del_ne ha, upd_ne ha, upd_ne hd, upd_ne ha]
/-- an exception of the class at C is made of the values vs -/
def MkR (K : PySem.W.Frag) (C : Addr) (vs : List V) (H1 : Hp) (Q : XK) : Prop := vs.length ≤ 1000 ∧ ∀ a, H1 a = none → spInit K C (.ref a :: (vs ++ [])) (upd H1 a (exo a C none))
  (fun v H2 => v = .non ∧ ∃ (d : Addr) (fs : List (Str × V)), H2 a = some (exo a C (some d)) ∧ H2 d = some (exd d fs) ∧ H1 d = none ∧ Q (.ref C) (some d) (upd (del H2 a) d (.xd fs))) (fun _ _ _ => False)
theorem mkR {K : PySem.W.Frag} {H1 : Hp} {v : V} {Q : XK} (h : ∀ d, H1 d = none → Q (.ref C) (some d) (upd H1 d (.xd [("value", v)]))) : MkR K C [v] H1 Q :=
  ⟨by simp, fun a na => ⟨a, v, rfl, upd_same, fun d hd hne => ⟨rfl, d, _, upd_same, by rw [upd_ne hne, upd_same], by rw [upd_ne hne] at hd; exact hd, by
    rw [upd_ne hne] at hd
    rw [made_eq (C := C) na hne]
    exact h d hd⟩⟩⟩
def asV (Q : VK) : XK := fun cls d H' => ∀ a, H' a = none → Q (.ref a) (upd H' a (exT a cls d))
/-- as a value -/
theorem mkV {K : PySem.W.Frag} {H1 : Hp} {v : V} {Q : VK} (h : ∀ d a, H1 d = none → upd H1 d (.xd [("value", v)]) a = none → Q (.ref a) (upd (upd H1 d (.xd [("value", v)])) a (exT a (.ref C) (some d)))) : MkR K C [v] H1 (asV Q) :=
  mkR fun d hd a ha => h d a hd ha
theorem pe_mk {t : L2.St → Hp → XK → Prop} (h : PMk X e t) : PE X e (fun σ H Q => t σ H (asV Q)) := by
  refine ⟨fun pins s σ H Q I q => thn (h pins s σ H _ I q) fun u s1 hu => ?_⟩
  obtain ⟨a, oe, vs, sI, H', cls, d, rfl, J, kp, ne, ho, hz, hf, _, na, os, ag, _, q1⟩ := hu
  obtain ⟨hp, g, dr, tk, o1⟩ := s1
  have J2 : Inv X pins σ (upd H' a (exT a cls d)) { sI with heap := hp, toks := tk } := J.laidN (t' := tk) kp ne na (exT_ok ho hz hf)
  have J3 : Inv X pins σ (upd H' a (exT a cls d)) ⟨hp, g, dr, tk, o1⟩ := ⟨J2.ok, os.trans J2.os, ag, J2.base, J2.loc, J2.cell, J2.free, J2.freeC, J2.pin, J2.hok, J2.len⟩
  exact ⟨.ref a, _, J3, rfl, q1 a na⟩
def tMk (K : PySem.W.Frag) (C : Addr) (ta : TA) : L2.St → Hp → XK → Prop := fun σ H Q => ta σ H fun vs H1 => MkR K C vs H1 Q
def tMkV (K : PySem.W.Frag) (C : Addr) (ta : TA) : TE := fun σ H Q => ta σ H fun vs H1 => MkR K C vs H1 (asV Q)
theorem pmk_ex (Y : XC X.K X.mg x C fI) (F1 : FnOk X.prog X.w X.K X.mg X.base CX0 k fI fd ["self", "value"] (spInit X.K C)) (hr : Room (k + 1) X.A) (hb : Binds X.K fd ["self", "value"] []) (hg : Gl X x) (ha : PA X [e] ta)
    (hdb : (x == ("__debug__" : Str)) = false := by decide) (he : starEach [e] X.env = (false, eval e X.env) :: starEach [] X.env := by rfl) (hpl : (backTo pos (starEach [] X.env)).any (·.1) = false := by rfl) :
    PMk X (.Call (.Name x p) [e] [] pos) (tMk X.K C ta) :=
  pmk_oex (dvs := []) Y.T Y.iC Y.tI F1 hr hb .nil (fun _ _ _ _ _ _ _ z => z.elim) hg Y.gC ha hdb he hpl
/-- x(value = e) -/
theorem pmk_exK {kws : List Keyword} (Y : XC X.K X.mg x C fI) (F1 : FnOk X.prog X.w X.K X.mg X.base CX0 k fI fd ["self", "value"] (spInit X.K C)) (hr : Room (k + 1) X.A)
    (hb : ∀ (s : Shared) (u v : Value), BindsTo s fd ⟨[u], [("value", v)]⟩ [("self", u), ("value", v)]) (hg : Gl X x) (hkw : PK X kws ta)
    (hall : (backToKw pos (keywordEach kws X.env)).all (·.1.isSome) = true := by rfl) (hks : (backToKw pos (keywordEach kws X.env)).filterMap (·.1) = [("value" : Str)] := by rfl) (hdb : (x == ("__debug__" : Str)) = false := by decide)
    (hpl : ((backTo pos (starEach [] X.env)).any (·.1) || (backToKw pos (keywordEach kws X.env)).any (·.1.isNone)) = false := by rfl) :
    PMk X (.Call (.Name x p) [] kws pos) (tMk X.K C ta) := by
  intro pins s σ H Q I h
  obtain ⟨nm, q, N, bs, bm, sn, sub, ab, col, dd, k0, k1, k2, k3, k5, hC, hbm⟩ := Y.T.cls
  refine wpAny_Call_Name_kw (ld_glob I hg Y.gC ?_ hdb)
  refine PySem.W.callWith_KW0 (h₀ := X.base) I.ok.mod.kin Y.T.kC hall ?_ hpl
  refine thn (hkw.run pos pins s σ H _ I h) fun ws s1 ⟨vs, H1, I1, rz, _, q1⟩ => ⟨I1.kIn, ?_⟩
  rw [hks]
  obtain ⟨hp, g, dr, tk, os⟩ := s1
  have more : hp.objs.size ≤ hp.objs.size + 1 := Nat.le_succ _
  have hn : H1 (hp.objs.size + 1) = none := I1.hok.fresh more
  have hq := q1 (hp.objs.size + 1) hn
  obtain ⟨v, rfl⟩ : ∃ v, vs = [v] := by
    obtain ⟨a0, v, e0, _⟩ := hq
    rw [List.append_nil] at e0
    obtain ⟨_, e2⟩ := List.cons.inj e0
    exact ⟨v, e2⟩
  cases rz with
  | @cons _ wv _ ur rv rest =>
    cases rest
    have kk : ∀ b o, hp.get? b = some o → ((hp.push (PySem.W.kdv_tup [])).push (PySem.HandSPX.excO C hp.objs.size)).get? b = some o := fun b o z => Heap.get?_push_of_some _ (Heap.get?_push_of_some _ z)
    have atE : ((hp.push (PySem.W.kdv_tup [])).push (PySem.HandSPX.excO C hp.objs.size)).get? (hp.objs.size + 1) = some (PySem.HandSPX.excO C hp.objs.size) := by heap_get
    have I2 := I1.laid (t' := tk) (a := hp.objs.size + 1) (o := exo (hp.objs.size + 1) C none) (h' := (hp.push (PySem.W.kdv_tup [])).push (PySem.HandSPX.excO C hp.objs.size)) kk more (exo_ok atE)
    show wpAny _ _ (call (.ref C) [] [("value", wv)]) _ _ _
    have both : Vals [V.ref (hp.objs.size + 1), v] [Value.ref (hp.objs.size + 1), wv] := .cons rfl (.cons rv .nil)
    refine wpAny_call (PySem.HandSPX.kwx_call F.excBase_ValueError (fun Z => PySem.HandSPX.refsVE_contains Z bm hbm) (I1.kIn _ _ hC) (PySem.W.looks_findIn I1.kIn Y.iC) (fun self => PySem.W.bind_fn I1.kIn self Y.tI) ?_)
    have run := F1.run _ X.stack _ _ ⟨[Value.ref (hp.objs.size + 1)], [("value", wv)]⟩ _ _ _ (fun _ _ _ => False) (hr.make C [] [("value", wv)]) (I2.env0.make C [] [("value", wv)]) (hb _ (Value.ref (hp.objs.size + 1)) wv) both hq
    refine codeAny_mono run fun r s' z => ?_
    match r, z with
    | .error e, z => exact z.elim
    | .ok .next, z => exact z.elim
    | .ok .brk, z => exact z.elim
    | .ok .cont, z => exact z.elim
    | .ok (.ret u), z =>
      obtain ⟨v', H2, os2, bare2, un2, hok2, rv', ev, d, fs, ea, ed, hd1, q2⟩ := z
      subst ev
      obtain ⟨h2, g2, d2, t2, os'⟩ := s'
      exact ⟨rv', mk_end (raises_own Y.T.exC Y.T.tyC) I1 more kk un2 hok2 os2 bare2 ea ed hd1 q2⟩
theorem pe_ex (Y : XC X.K X.mg x C fI) (F1 : FnOk X.prog X.w X.K X.mg X.base CX0 k fI fd ["self", "value"] (spInit X.K C)) (hr : Room (k + 1) X.A) (hb : Binds X.K fd ["self", "value"] []) (hg : Gl X x) (ha : PA X [e] ta)
    (hdb : (x == ("__debug__" : Str)) = false := by decide) (he : starEach [e] X.env = (false, eval e X.env) :: starEach [] X.env := by rfl) (hpl : (backTo pos (starEach [] X.env)).any (·.1) = false := by rfl) :
    PE X (.Call (.Name x p) [e] [] pos) (tMkV X.K C ta) := pe_mk (pmk_ex Y F1 hr hb hg ha hdb he hpl)
theorem pe_exK {kws : List Keyword} (Y : XC X.K X.mg x C fI) (F1 : FnOk X.prog X.w X.K X.mg X.base CX0 k fI fd ["self", "value"] (spInit X.K C)) (hr : Room (k + 1) X.A)
    (hb : ∀ (s : Shared) (u v : Value), BindsTo s fd ⟨[u], [("value", v)]⟩ [("self", u), ("value", v)]) (hg : Gl X x) (hkw : PK X kws ta)
    (hall : (backToKw pos (keywordEach kws X.env)).all (·.1.isSome) = true := by rfl) (hks : (backToKw pos (keywordEach kws X.env)).filterMap (·.1) = [("value" : Str)] := by rfl) (hdb : (x == ("__debug__" : Str)) = false := by decide)
    (hpl : ((backTo pos (starEach [] X.env)).any (·.1) || (backToKw pos (keywordEach kws X.env)).any (·.1.isNone)) = false := by rfl) :
    PE X (.Call (.Name x p) [] kws pos) (tMkV X.K C ta) := pe_mk (pmk_exK Y F1 hr hb hg hkw hall hks hdb hpl)
/-- the object that stands at a, with its dict -/
theorem ex_inst {pins : List (Addr × Obj)} {σ : L2.St} {H : Hp} {s : Shared} {a d : Addr} {fs : List (Str × V)} (I : Inv X pins σ H s) (ha : H a = some (exT a (.ref C) (some d))) (hd : H d = some (.xd fs)) :
    ∃ (oe od : Obj) (mA : Str → Option Value), PySem.W.InstAt s.heap a oe C (some od) ∧ (∀ name, PySem.W.lookIn name od = some (mA name)) ∧ ∀ f, RelO (fs.lookup f) (mA f) := by
  have h1 : ObjOk X.prog X.w H s.heap a (exT a (.ref C) (some d)) := I.hok a _ ha
  obtain ⟨⟨oe, vs, e, z, f⟩, _, _⟩ := h1
  have h2 : ObjOk X.prog X.w H s.heap d (.xd fs) := I.hok d _ hd
  obtain ⟨mA, hns, hr⟩ := h2
  obtain ⟨od, ho, hl⟩ := lookIn_ns hns
  exact ⟨oe, od, mA, ⟨e, z.1, by unfold PySem.W.notCls; rw [f] <;> rfl, by rw [z.2]; exact ho⟩, hl, hr⟩
/-- isinstance(e, c) -/
def rIsX (K : PySem.W.Frag) : List V → Hp → VK → Prop := fun xs H Q => ∃ (a C d : Addr) (fs : List (Str × V)) (c : V) (u : Value) (b : Bool), xs = [.ref a, c] ∧ H a = some (exT a (.ref C) (some d)) ∧ H d = some (.xd fs) ∧ ExcC K C ∧ ClsV c u ∧
  PySem.W.kitOne K (.ref C) u = some b ∧ Q (.bl b) H
theorem cr_isX : CallR X (.builtin "isinstance") (rIsX X.K) := by
  intro pins s σ H xs us Q I r h
  obtain ⟨a, C, d, fs, c, u, b, rfl, ha, hd, E, hc, e, q⟩ := h
  cases r with
  | cons rx rr =>
    cases rr with
    | cons rt rr =>
      cases rr
      cases rx
      have ec := hc.eq rt
      subst ec
      obtain ⟨oe, od, mA, J, _⟩ := ex_inst I ha hd
      exact PySem.W.kia_one (PySem.W.kitx_exc (by obtain ⟨cd, hcd, _⟩ := PySem.W.any_some E.hd; rw [hcd]; rfl) E.hg E.hk E.hs E.ha E.hn E.ht E.hm) I.kIn J e (fun z => nomatch z) fun tk => ⟨.bl b, H, I.kept (t' := tk) fun _ _ z => z, rfl, q⟩
/-- e.value -/
def tValue (K : PySem.W.Frag) (te : TE) : TE := fun σ H Q => te σ H fun x H1 => ∃ (a C d : Addr) (v : V), x = .ref a ∧ H1 a = some (exT a (.ref C) (some d)) ∧ H1 d = some (.xd [("value", v)]) ∧ ExcC K C ∧ PySem.W.findIn K (.ref C) "value" = some none ∧ Q v H1
theorem pe_value {te : TE} (he : PE X e te) (hb : attributeBase e "value" X.env (eval e X.env) = eval e X.env := by rfl) : PE X (.Attribute e "value" pos) (tValue X.K te) := by
  refine ⟨fun pins s σ H Q I h => ?_⟩
  refine attr_of hb (thn (he.run pins s σ H _ I h) fun u s1 hh => ?_)
  obtain ⟨x, H1, I1, rx, a, C, d, v, rfl, ha, hd, E, hno, q⟩ := hh
  cases rx
  obtain ⟨oe, od, mA, J, hl, hr⟩ := ex_inst I1 ha hd
  have l : List.lookup ("value" : Str) [(("value" : Str), v)] = some v := by simp [List.lookup]
  obtain ⟨u, hu, ru⟩ := RelO.some_of (v := v) (o := mA "value") (by rw [← l]; exact hr "value")
  exact PySem.HandSPX.exc_get I1.kIn J E.hg E.hk E.hs (PySem.W.findObj_own E.hd hno rfl (by rw [hl, hu])) (handed_of ru) ⟨v, H1, I1.tok _, ru, q⟩
end
section
variable {σ : L2.St} {H : Hp} {Q : VK} {K : PySem.W.Frag} {C : Addr} {ta : TA} {te : TE}
theorem x_mkV : tMkV K C ta σ H Q ↔ ta σ H fun vs H1 => MkR K C vs H1 (asV Q) := Iff.rfl
theorem x_value : tValue K te σ H Q ↔ te σ H fun x H1 => ∃ (a C d : Addr) (v : V), x = .ref a ∧ H1 a = some (exT a (.ref C) (some d)) ∧ H1 d = some (.xd [("value", v)]) ∧ ExcC K C ∧ PySem.W.findIn K (.ref C) "value" = some none ∧ Q v H1 := Iff.rfl
end
end Cc


set_option Elab.async false
set_option linter.all false
set_option maxRecDepth 100000
set_option maxHeartbeats 4000000
namespace Cc
open PySem PySem.Spec PyProof.Rows L2
def topS (i : Nat) : Stmt := PySem.Challenge.pw_castchains_k01_errors_and_their_values.main.body.getD i (.Pass ⟨0, 0, 0, 0⟩)
abbrev s_law_rng : Stmt := topS 10
theorem sc_law_rng : FnScope ["script", "digits", "seed", "cell", "far"] ["script"] (defScope s_law_rng) := ⟨rfl, rfl, rfl, by decide +kernel, rfl, by decide +kernel, by decide +kernel⟩
abbrev s_law_draw : Stmt := topS 11
theorem sc_law_draw : FnScope ["rng", "limit", "found", "mixed"] ["rng", "limit"] (defScope s_law_draw) := ⟨rfl, rfl, rfl, by decide +kernel, rfl, by decide +kernel, by decide +kernel⟩
section
variable {P : Program} {w : World} {K : PySem.W.Frag} {mg : Str → Option Value} {base : Heap}
/-- the draws' list at r: what is left of the digits, the seed, how many draws were made (at most n) -/
def RngAt (H : Hp) (r : Addr) (n : Nat) : Prop := ∃ d s c : Int, H r = some (.lst [.int d, .int s, .int c]) ∧ 0 ≤ d ∧ d < 10 ^ 3780 ∧ 0 ≤ s ∧ s < 2305843009213693951 ∧ 0 ≤ c ∧ c ≤ n
/-- all but r stands -/
def Oth (r : Addr) (H H' : Hp) : Prop := ∀ b o, b ≠ r → H b = some o → H' b = some o
theorem Oth.refl (r : Addr) (H : Hp) : Oth r H H := fun _ _ _ e => e
theorem Oth.trans {r : Addr} {H H1 H2 : Hp} (a : Oth r H H1) (b : Oth r H1 H2) : Oth r H H2 := fun c o hc e => b c o hc (a c o hc e)
theorem Oth.same {r : Addr} {H H' : Hp} (e : Same H H') : Oth r H H' := fun b o _ h => e b o h
theorem Oth.new {r : Addr} {H : Hp} {p : Addr} {o : HO} (h : H p = none) : Oth r H (upd H p o) := Oth.same (same_new h)
theorem RngAt.same {H H' : Hp} {r : Addr} {n : Nat} (R : RngAt H r n) (e : Same H H') : RngAt H' r n := by
  obtain ⟨d, s, c, h, q⟩ := R
  exact ⟨d, s, c, e _ _ h, q⟩
theorem RngAt.new {H : Hp} {r p : Addr} {o : HO} {n : Nat} (R : RngAt H r n) (h : H p = none) : RngAt (upd H p o) r n := R.same (same_new h)
theorem RngAt.ne {H : Hp} {r p : Addr} {n : Nat} (R : RngAt H r n) (h : H p = none) : p ≠ r := fun e => by
  obtain ⟨d, s, c, q, _⟩ := R
  rw [e, q] at h
  cases h
theorem RngAt.mut {H : Hp} {r p : Addr} {o : HO} {n : Nat} (R : RngAt H r n) (h : p ≠ r) : RngAt (upd H p o) r n := by
  obtain ⟨d, s, c, q, z⟩ := R
  exact ⟨d, s, c, by rw [upd_ne (Ne.symm h)]; exact q, z⟩
theorem RngAt.up {H : Hp} {r : Addr} {m n : Nat} (R : RngAt H r m) (h : m ≤ n) : RngAt H r n := by
  obtain ⟨d, s, c, q, a1, a2, a3, a4, a5, a6⟩ := R
  exact ⟨d, s, c, q, a1, a2, a3, a4, a5, by omega⟩
/-- free behind is free before -/
theorem Oth.free {r : Addr} {H H' : Hp} {n : Nat} (a : Oth r H H') (R : RngAt H' r n) {p : Addr} (h : H' p = none) : H p = none := by
  cases q : H p with
  | none => rfl
  | some o =>
    rw [a p o (R.ne h) q] at h
    cases h
theorem Oth.mut {r : Addr} {H H' : Hp} {p : Addr} {o : HO} (a : Oth r H H') (h : H p = none) : Oth r H (L2.upd H' p o) := fun b u hb e => by
  show (upd H' p o) b = some u
  rw [upd_ne (ne_of_none e h)]
  exact a b u hb e
theorem Oth.upd {H : Hp} (r : Addr) (o : HO) : Oth r H (upd H r o) := fun b u hb e => by rw [upd_ne hb]; exact e
theorem pow_ok {i : Int} (h0 : 0 ≤ i) (h : i < 2 ^ 200) : i.natAbs < 2 ^ 4000 := by
  have h1 : i.natAbs < 2 ^ 200 := by omega
  exact Nat.lt_of_lt_of_le h1 (Nat.pow_le_pow_right (by omega) (by omega))
def spDraw : Sp := fun vs H Q _ => ∃ (r : Addr) (lim : Int) (n : Nat), vs = [.ref r, .int lim] ∧ RngAt H r n ∧ n < 100000000 ∧ 1 ≤ lim ∧ lim < 2 ^ 1000 ∧ ∀ v H', 0 ≤ v → v < lim → RngAt H' r (n + 1) → Oth r H H' → Q (.int v) H'
theorem p_draw (T : Tx K mg "_law_draw" s_law_draw) : Pr P w K mg base CX0 1 "_law_draw" ["rng", "limit"] spDraw := by
  refine mkP T sc_law_draw (fun _ _ _ _ _ _ us hl => match us, hl with | [_, _], _ => rfl) (fun vs H Q E h => ?_) (fun f cdv A outer s H vs Q E hG hr h => ?_)
  · obtain ⟨_, _, _, rfl, _⟩ := h
    rfl
  · obtain ⟨r, lim, n, rfl, ⟨d, sd, c, e, d0, d1, s0, s1, c0, c1⟩, hn, l0, l1, q⟩ := h
    have nd := sc_law_draw.nd
    refine ⟨_, (pss_cons (ps_if (pt_cmpR op_gt (pe_ix ix_list (pv 0) pe_int (fun _ _ => rfl)) pe_int (nomark _)) (pss_cons (ps_set (i := 2) nd rfl (.inl rfl) (pe_op op_mod (pe_ix ix_list (pv 0) pe_int (fun _ _ => rfl)) (pv 1))) (pss_cons (ps_asg (pe_op op_fdivW (pe_ix ix_list (pv 0) pe_int (fun _ _ => rfl)) (pv 1)) (pg_sub (pv 0) pe_int set_list)) (pss_one (ps_ret (pv 2))))) pss_nil) (pss_cons (ps_asg (pe_op op_add (pe_ix ix_list (pv 0) pe_int (fun _ _ => rfl)) pe_int) (pg_sub (pv 0) pe_int set_list)) (pss_cons (ps_set (i := 3) nd rfl (.inl rfl) (pe_op op_mod (pe_op op_powX (pe_op op_add (pe_ix ix_list (pv 0) pe_int (fun _ _ => rfl)) (pe_op op_mulW pe_int (pe_ix ix_list (pv 0) pe_int (fun _ _ => rfl)))) pe_int) pe_int)) (pss_cons (ps_set (i := 3) nd rfl (.inl rfl) (pe_op op_mod (pe_op op_powX (pe_op op_add (pv 3) (pe_op op_mulW pe_int (pe_ix ix_list (pv 0) pe_int (fun _ _ => rfl)))) pe_int) pe_int)) (pss_one (ps_ret (pe_op op_mod (pe_op op_fdivW (pv 3) pe_int) (pv 1)))))))), ?_⟩
    show (tSeq _ _) _ [some (V.ref r), some (V.int lim), none, none] H
    refine x_seq.mpr ?_
    (try simp only [x_asg, x_mkV, x_value, x_lcR1, x_lcL, List.map_cons, List.map_nil, x_yes, x_wipe0, x_wipeS, x_name, x_sub, x_ret, x_next, x_ifS, x_ite, x_iteN, x_T, x_F, x_tT, x_tF, x_op, x_un, x_var0, x_varS, x_c, x_I0, x_I, x_rU, x_nil, x_cons, x_test, x_B, x_bl, x_call, x_CB, x_tup, x_lst, x_not, x_Eq, x_Ne, x_eqII, x_eqSS, x_eqBB,  x_and, x_or, x_andV, x_orV, x_notV, x_if, x_par, x_two, x_drop, x_BM, x_set0, x_setS, x_gcons, x_gnil, x_forL, x_forT, x_forR1, x_forR2, x_forE, x_ref, x_int1, x_oneI, x_oneB, x_noBI, x_twoI, false_or, x_sl, x_noP, x_part, true_and, List.append_nil, cxK, cxKn]; try simp only [V.str.injEq, V.int.injEq, V.bl.injEq])
    refine x_ixL (SqL.of e) rfl ?_
    (try simp only [x_asg, x_mkV, x_value, x_lcR1, x_lcL, List.map_cons, List.map_nil, x_yes, x_wipe0, x_wipeS, x_name, x_sub, x_ret, x_next, x_ifS, x_ite, x_iteN, x_T, x_F, x_tT, x_tF, x_op, x_un, x_var0, x_varS, x_c, x_I0, x_I, x_rU, x_nil, x_cons, x_test, x_B, x_bl, x_call, x_CB, x_tup, x_lst, x_not, x_Eq, x_Ne, x_eqII, x_eqSS, x_eqBB,  x_and, x_or, x_andV, x_orV, x_notV, x_if, x_par, x_two, x_drop, x_BM, x_set0, x_setS, x_gcons, x_gnil, x_forL, x_forT, x_forR1, x_forR2, x_forE, x_ref, x_int1, x_oneI, x_oneB, x_noBI, x_twoI, false_or, x_sl, x_noP, x_part, true_and, List.append_nil, cxK, cxKn]; try simp only [V.str.injEq, V.int.injEq, V.bl.injEq])
    refine ⟨fun hd => ?_, fun hd => ?_⟩
    · refine x_seq.mpr ?_
      (try simp only [x_asg, x_mkV, x_value, x_lcR1, x_lcL, List.map_cons, List.map_nil, x_yes, x_wipe0, x_wipeS, x_name, x_sub, x_ret, x_next, x_ifS, x_ite, x_iteN, x_T, x_F, x_tT, x_tF, x_op, x_un, x_var0, x_varS, x_c, x_I0, x_I, x_rU, x_nil, x_cons, x_test, x_B, x_bl, x_call, x_CB, x_tup, x_lst, x_not, x_Eq, x_Ne, x_eqII, x_eqSS, x_eqBB,  x_and, x_or, x_andV, x_orV, x_notV, x_if, x_par, x_two, x_drop, x_BM, x_set0, x_setS, x_gcons, x_gnil, x_forL, x_forT, x_forR1, x_forR2, x_forE, x_ref, x_int1, x_oneI, x_oneB, x_noBI, x_twoI, false_or, x_sl, x_noP, x_part, true_and, List.append_nil, cxK, cxKn]; try simp only [V.str.injEq, V.int.injEq, V.bl.injEq])
      refine x_ixL (SqL.of e) rfl ?_
      (try simp only [x_asg, x_mkV, x_value, x_lcR1, x_lcL, List.map_cons, List.map_nil, x_yes, x_wipe0, x_wipeS, x_name, x_sub, x_ret, x_next, x_ifS, x_ite, x_iteN, x_T, x_F, x_tT, x_tF, x_op, x_un, x_var0, x_varS, x_c, x_I0, x_I, x_rU, x_nil, x_cons, x_test, x_B, x_bl, x_call, x_CB, x_tup, x_lst, x_not, x_Eq, x_Ne, x_eqII, x_eqSS, x_eqBB,  x_and, x_or, x_andV, x_orV, x_notV, x_if, x_par, x_two, x_drop, x_BM, x_set0, x_setS, x_gcons, x_gnil, x_forL, x_forT, x_forR1, x_forR2, x_forE, x_ref, x_int1, x_oneI, x_oneB, x_noBI, x_twoI, false_or, x_sl, x_noP, x_part, true_and, List.append_nil, cxK, cxKn]; try simp only [V.str.injEq, V.int.injEq, V.bl.injEq])
      refine ⟨by omega, ?_⟩
      refine x_seq.mpr ?_
      (try simp only [x_asg, x_mkV, x_value, x_lcR1, x_lcL, List.map_cons, List.map_nil, x_yes, x_wipe0, x_wipeS, x_name, x_sub, x_ret, x_next, x_ifS, x_ite, x_iteN, x_T, x_F, x_tT, x_tF, x_op, x_un, x_var0, x_varS, x_c, x_I0, x_I, x_rU, x_nil, x_cons, x_test, x_B, x_bl, x_call, x_CB, x_tup, x_lst, x_not, x_Eq, x_Ne, x_eqII, x_eqSS, x_eqBB,  x_and, x_or, x_andV, x_orV, x_notV, x_if, x_par, x_two, x_drop, x_BM, x_set0, x_setS, x_gcons, x_gnil, x_forL, x_forT, x_forR1, x_forR2, x_forE, x_ref, x_int1, x_oneI, x_oneB, x_noBI, x_twoI, false_or, x_sl, x_noP, x_part, true_and, List.append_nil, cxK, cxKn]; try simp only [V.str.injEq, V.int.injEq, V.bl.injEq])
      refine x_ixL (SqL.of e) rfl ?_
      (try simp only [x_asg, x_mkV, x_value, x_lcR1, x_lcL, List.map_cons, List.map_nil, x_yes, x_wipe0, x_wipeS, x_name, x_sub, x_ret, x_next, x_ifS, x_ite, x_iteN, x_T, x_F, x_tT, x_tF, x_op, x_un, x_var0, x_varS, x_c, x_I0, x_I, x_rU, x_nil, x_cons, x_test, x_B, x_bl, x_call, x_CB, x_tup, x_lst, x_not, x_Eq, x_Ne, x_eqII, x_eqSS, x_eqBB,  x_and, x_or, x_andV, x_orV, x_notV, x_if, x_par, x_two, x_drop, x_BM, x_set0, x_setS, x_gcons, x_gnil, x_forL, x_forT, x_forR1, x_forR2, x_forE, x_ref, x_int1, x_oneI, x_oneB, x_noBI, x_twoI, false_or, x_sl, x_noP, x_part, true_and, List.append_nil, cxK, cxKn]; try simp only [V.str.injEq, V.int.injEq, V.bl.injEq])
      refine ⟨⟨by omega, Nat.lt_of_lt_of_le (PySem.Flt.log2_lt_of (k := 1000) (by omega) (by omega)) (by decide)⟩, x_setL e (j := 0) rfl ?_⟩
      refine q _ _ (Int.emod_nonneg _ (by omega)) (Int.emod_lt_of_pos _ (by omega)) ⟨d / lim, sd, c, upd_same, Int.ediv_nonneg d0 (by omega), ?_, s0, s1, c0, by omega⟩ (Oth.upd r _)
      exact Int.lt_of_le_of_lt (Int.ediv_le_self _ d0) d1
    · refine x_seq.mpr ?_
      (try simp only [x_asg, x_mkV, x_value, x_lcR1, x_lcL, List.map_cons, List.map_nil, x_yes, x_wipe0, x_wipeS, x_name, x_sub, x_ret, x_next, x_ifS, x_ite, x_iteN, x_T, x_F, x_tT, x_tF, x_op, x_un, x_var0, x_varS, x_c, x_I0, x_I, x_rU, x_nil, x_cons, x_test, x_B, x_bl, x_call, x_CB, x_tup, x_lst, x_not, x_Eq, x_Ne, x_eqII, x_eqSS, x_eqBB,  x_and, x_or, x_andV, x_orV, x_notV, x_if, x_par, x_two, x_drop, x_BM, x_set0, x_setS, x_gcons, x_gnil, x_forL, x_forT, x_forR1, x_forR2, x_forE, x_ref, x_int1, x_oneI, x_oneB, x_noBI, x_twoI, false_or, x_sl, x_noP, x_part, true_and, List.append_nil, cxK, cxKn]; try simp only [V.str.injEq, V.int.injEq, V.bl.injEq])
      refine x_ixL (SqL.of e) rfl ?_
      (try simp only [x_asg, x_mkV, x_value, x_lcR1, x_lcL, List.map_cons, List.map_nil, x_yes, x_wipe0, x_wipeS, x_name, x_sub, x_ret, x_next, x_ifS, x_ite, x_iteN, x_T, x_F, x_tT, x_tF, x_op, x_un, x_var0, x_varS, x_c, x_I0, x_I, x_rU, x_nil, x_cons, x_test, x_B, x_bl, x_call, x_CB, x_tup, x_lst, x_not, x_Eq, x_Ne, x_eqII, x_eqSS, x_eqBB,  x_and, x_or, x_andV, x_orV, x_notV, x_if, x_par, x_two, x_drop, x_BM, x_set0, x_setS, x_gcons, x_gnil, x_forL, x_forT, x_forR1, x_forR2, x_forE, x_ref, x_int1, x_oneI, x_oneB, x_noBI, x_twoI, false_or, x_sl, x_noP, x_part, true_and, List.append_nil, cxK, cxKn]; try simp only [V.str.injEq, V.int.injEq, V.bl.injEq])
      refine x_setL e (j := 2) rfl ?_
      have e1 : upd H r (.lst [.int d, .int sd, .int (c + 1)]) r = some (.lst [.int d, .int sd, .int (c + 1)]) := upd_same
      refine x_seq.mpr ?_
      (try simp only [x_asg, x_mkV, x_value, x_lcR1, x_lcL, List.map_cons, List.map_nil, x_yes, x_wipe0, x_wipeS, x_name, x_sub, x_ret, x_next, x_ifS, x_ite, x_iteN, x_T, x_F, x_tT, x_tF, x_op, x_un, x_var0, x_varS, x_c, x_I0, x_I, x_rU, x_nil, x_cons, x_test, x_B, x_bl, x_call, x_CB, x_tup, x_lst, x_not, x_Eq, x_Ne, x_eqII, x_eqSS, x_eqBB,  x_and, x_or, x_andV, x_orV, x_notV, x_if, x_par, x_two, x_drop, x_BM, x_set0, x_setS, x_gcons, x_gnil, x_forL, x_forT, x_forR1, x_forR2, x_forE, x_ref, x_int1, x_oneI, x_oneB, x_noBI, x_twoI, false_or, x_sl, x_noP, x_part, true_and, List.append_nil, cxK, cxKn]; try simp only [V.str.injEq, V.int.injEq, V.bl.injEq])
      refine x_ixL (SqL.of e1) rfl ?_
      (try simp only [x_asg, x_mkV, x_value, x_lcR1, x_lcL, List.map_cons, List.map_nil, x_yes, x_wipe0, x_wipeS, x_name, x_sub, x_ret, x_next, x_ifS, x_ite, x_iteN, x_T, x_F, x_tT, x_tF, x_op, x_un, x_var0, x_varS, x_c, x_I0, x_I, x_rU, x_nil, x_cons, x_test, x_B, x_bl, x_call, x_CB, x_tup, x_lst, x_not, x_Eq, x_Ne, x_eqII, x_eqSS, x_eqBB,  x_and, x_or, x_andV, x_orV, x_notV, x_if, x_par, x_two, x_drop, x_BM, x_set0, x_setS, x_gcons, x_gnil, x_forL, x_forT, x_forR1, x_forR2, x_forE, x_ref, x_int1, x_oneI, x_oneB, x_noBI, x_twoI, false_or, x_sl, x_noP, x_part, true_and, List.append_nil, cxK, cxKn]; try simp only [V.str.injEq, V.int.injEq, V.bl.injEq])
      refine x_ixL (SqL.of e1) rfl ?_
      (try simp only [x_asg, x_mkV, x_value, x_lcR1, x_lcL, List.map_cons, List.map_nil, x_yes, x_wipe0, x_wipeS, x_name, x_sub, x_ret, x_next, x_ifS, x_ite, x_iteN, x_T, x_F, x_tT, x_tF, x_op, x_un, x_var0, x_varS, x_c, x_I0, x_I, x_rU, x_nil, x_cons, x_test, x_B, x_bl, x_call, x_CB, x_tup, x_lst, x_not, x_Eq, x_Ne, x_eqII, x_eqSS, x_eqBB,  x_and, x_or, x_andV, x_orV, x_notV, x_if, x_par, x_two, x_drop, x_BM, x_set0, x_setS, x_gcons, x_gnil, x_forL, x_forT, x_forR1, x_forR2, x_forE, x_ref, x_int1, x_oneI, x_oneB, x_noBI, x_twoI, false_or, x_sl, x_noP, x_part, true_and, List.append_nil, cxK, cxKn]; try simp only [V.str.injEq, V.int.injEq, V.bl.injEq])
      refine ⟨wide_mul (a := 64) (b := 64) (by omega) (by omega) (by omega) (by omega) (by omega), ⟨by omega, by omega, pow_ok (by omega) (by omega)⟩, by omega, ?_⟩
      refine x_seq.mpr ?_
      (try simp only [x_asg, x_mkV, x_value, x_lcR1, x_lcL, List.map_cons, List.map_nil, x_yes, x_wipe0, x_wipeS, x_name, x_sub, x_ret, x_next, x_ifS, x_ite, x_iteN, x_T, x_F, x_tT, x_tF, x_op, x_un, x_var0, x_varS, x_c, x_I0, x_I, x_rU, x_nil, x_cons, x_test, x_B, x_bl, x_call, x_CB, x_tup, x_lst, x_not, x_Eq, x_Ne, x_eqII, x_eqSS, x_eqBB,  x_and, x_or, x_andV, x_orV, x_notV, x_if, x_par, x_two, x_drop, x_BM, x_set0, x_setS, x_gcons, x_gnil, x_forL, x_forT, x_forR1, x_forR2, x_forE, x_ref, x_int1, x_oneI, x_oneB, x_noBI, x_twoI, false_or, x_sl, x_noP, x_part, true_and, List.append_nil, cxK, cxKn]; try simp only [V.str.injEq, V.int.injEq, V.bl.injEq])
      refine x_ixL (SqL.of e1) rfl ?_
      (try simp only [x_asg, x_mkV, x_value, x_lcR1, x_lcL, List.map_cons, List.map_nil, x_yes, x_wipe0, x_wipeS, x_name, x_sub, x_ret, x_next, x_ifS, x_ite, x_iteN, x_T, x_F, x_tT, x_tF, x_op, x_un, x_var0, x_varS, x_c, x_I0, x_I, x_rU, x_nil, x_cons, x_test, x_B, x_bl, x_call, x_CB, x_tup, x_lst, x_not, x_Eq, x_Ne, x_eqII, x_eqSS, x_eqBB,  x_and, x_or, x_andV, x_orV, x_notV, x_if, x_par, x_two, x_drop, x_BM, x_set0, x_setS, x_gcons, x_gnil, x_forL, x_forT, x_forR1, x_forR2, x_forE, x_ref, x_int1, x_oneI, x_oneB, x_noBI, x_twoI, false_or, x_sl, x_noP, x_part, true_and, List.append_nil, cxK, cxKn]; try simp only [V.str.injEq, V.int.injEq, V.bl.injEq])
      have m0 := Int.emod_nonneg ((sd + 998244353 * (c + 1)) ^ (3 : Int).toNat) (show (162259276829213363391578010288127 : Int) ≠ 0 by omega)
      have m1 := Int.emod_lt_of_pos ((sd + 998244353 * (c + 1)) ^ (3 : Int).toNat) (show (0 : Int) < 162259276829213363391578010288127 by omega)
      refine ⟨wide_mul (a := 64) (b := 64) (by omega) (by omega) (by omega) (by omega) (by omega), ⟨by omega, by omega, pow_ok (by omega) (by omega)⟩, by omega, ?_⟩
      refine ⟨⟨by omega, by decide +kernel⟩, by omega, ?_⟩
      exact q _ _ (Int.emod_nonneg _ (by omega)) (Int.emod_lt_of_pos _ (by omega)) ⟨d, sd, c + 1, e1, d0, d1, s0, s1, by omega, by omega⟩ (Oth.upd r _)
def spRng (K : PySem.W.Frag) : Sp := fun vs H Q _ => ∃ (a : Addr) (ns : List Int), vs = [.ref a] ∧ SqL K H a (ns.map V.int) ∧ ns.length ≤ 63 ∧ ∀ r H', H r = none → RngAt H' r 0 → Same H H' → Q (.ref r) H'
theorem p_rng (T : Tx K mg "_law_rng" s_law_rng) (m_abs : mg "abs" = none) : Pr P w K mg base CX0 1 "_law_rng" ["script"] (spRng K) := by
  refine mkP T sc_law_rng (fun _ _ _ _ _ _ us hl => match us, hl with | [_], _ => rfl) (fun vs H Q E h => ?_) (fun f cdv A outer s H vs Q E hG hr h => ?_)
  · obtain ⟨_, _, rfl, _⟩ := h
    rfl
  · obtain ⟨a, ns, rfl, hS, hlen, q⟩ := h
    have nd := sc_law_rng.nd
    refine ⟨_, (pss_cons (ps_asg (pe_tup (pa_cons pe_int (pa_cons pe_int pa_nil))) (pg_tup rfl (pgs_cons (pg_name (i := 1) nd rfl (.inl rfl)) (pgs_cons (pg_name (i := 2) nd rfl (.inl rfl)) pgs_nil)))) (pss_cons (ps_for PassesOwn.never rfl (pi_list (pe_slice sl_list (pv 0) po_none (po_some pe_int))) (pg_name (i := 3) nd rfl (.inl rfl)) (pss_cons (ps_set (i := 4) nd rfl (.inl rfl) (pe_callB call_abs (by rfl) m_abs (by decide +kernel) (pa_cons (pv 3) pa_nil))) (pss_cons (ps_if (pt_cmpR op_ge (pv 4) (pe_op op_powX pe_int pe_int) (nomark _)) (pss_one (ps_set (i := 1) nd rfl (.inl rfl) (pe_op op_add (pe_op op_mulW (pv 1) (pe_op op_powX pe_int pe_int)) (pe_op op_mod (pv 4) (pe_op op_powX pe_int pe_int))))) pss_nil) (pss_one (ps_set (i := 2) nd rfl (.inl rfl) (pe_op op_mod (pe_op op_add (pe_op op_add (pe_op op_mulW (pv 2) pe_int) (pe_op op_mod (pv 3) pe_int)) pe_int) pe_int)))))) (pss_one (ps_ret (pe_lst (pa_cons (pv 1) (pa_cons (pv 2) (pa_cons pe_int pa_nil)))))))), ?_⟩
    show (tSeq _ _) _ [some (V.ref a), none, none, none, none] H
    refine x_seq.mpr ?_
    (try simp only [x_asg, x_mkV, x_value, x_lcR1, x_lcL, List.map_cons, List.map_nil, x_yes, x_wipe0, x_wipeS, x_name, x_sub, x_ret, x_next, x_ifS, x_ite, x_iteN, x_T, x_F, x_tT, x_tF, x_op, x_un, x_var0, x_varS, x_c, x_I0, x_I, x_rU, x_nil, x_cons, x_test, x_B, x_bl, x_call, x_CB, x_tup, x_lst, x_not, x_Eq, x_Ne, x_eqII, x_eqSS, x_eqBB,  x_and, x_or, x_andV, x_orV, x_notV, x_if, x_par, x_two, x_drop, x_BM, x_set0, x_setS, x_gcons, x_gnil, x_forL, x_forT, x_forR1, x_forR2, x_forE, x_ref, x_int1, x_oneI, x_oneB, x_noBI, x_twoI, false_or, x_sl, x_noP, x_part, true_and, List.append_nil, cxK, cxKn]; try simp only [V.str.injEq, V.int.injEq, V.bl.injEq])
    refine ⟨by show 2 ≤ sizeLine; decide, fun t nt => ?_⟩
    refine x_gtup (SqT.of upd_same) rfl ?_
    (try simp only [x_asg, x_mkV, x_value, x_lcR1, x_lcL, List.map_cons, List.map_nil, x_yes, x_wipe0, x_wipeS, x_name, x_sub, x_ret, x_next, x_ifS, x_ite, x_iteN, x_T, x_F, x_tT, x_tF, x_op, x_un, x_var0, x_varS, x_c, x_I0, x_I, x_rU, x_nil, x_cons, x_test, x_B, x_bl, x_call, x_CB, x_tup, x_lst, x_not, x_Eq, x_Ne, x_eqII, x_eqSS, x_eqBB,  x_and, x_or, x_andV, x_orV, x_notV, x_if, x_par, x_two, x_drop, x_BM, x_set0, x_setS, x_gcons, x_gnil, x_forL, x_forT, x_forR1, x_forR2, x_forE, x_ref, x_int1, x_oneI, x_oneB, x_noBI, x_twoI, false_or, x_sl, x_noP, x_part, true_and, List.append_nil, cxK, cxKn]; try simp only [V.str.injEq, V.int.injEq, V.bl.injEq])
    have sH := same_new (o := .tup [.int 0, .int 88675123]) nt
    generalize hH0 : upd H t (.tup [.int 0, .int 88675123]) = H0 at sH ⊢
    have hS0 := sH.seq hS
    refine x_seq.mpr ?_
    (try simp only [x_asg, x_mkV, x_value, x_lcR1, x_lcL, List.map_cons, List.map_nil, x_yes, x_wipe0, x_wipeS, x_name, x_sub, x_ret, x_next, x_ifS, x_ite, x_iteN, x_T, x_F, x_tT, x_tF, x_op, x_un, x_var0, x_varS, x_c, x_I0, x_I, x_rU, x_nil, x_cons, x_test, x_B, x_bl, x_call, x_CB, x_tup, x_lst, x_not, x_Eq, x_Ne, x_eqII, x_eqSS, x_eqBB,  x_and, x_or, x_andV, x_orV, x_notV, x_if, x_par, x_two, x_drop, x_BM, x_set0, x_setS, x_gcons, x_gnil, x_forL, x_forT, x_forR1, x_forR2, x_forE, x_ref, x_int1, x_oneI, x_oneB, x_noBI, x_twoI, false_or, x_sl, x_noP, x_part, true_and, List.append_nil, cxK, cxKn]; try simp only [V.str.injEq, V.int.injEq, V.bl.injEq])
    refine x_slL hS0 fun p np => ?_
    (try simp only [x_asg, x_mkV, x_value, x_lcR1, x_lcL, List.map_cons, List.map_nil, x_yes, x_wipe0, x_wipeS, x_name, x_sub, x_ret, x_next, x_ifS, x_ite, x_iteN, x_T, x_F, x_tT, x_tF, x_op, x_un, x_var0, x_varS, x_c, x_I0, x_I, x_rU, x_nil, x_cons, x_test, x_B, x_bl, x_call, x_CB, x_tup, x_lst, x_not, x_Eq, x_Ne, x_eqII, x_eqSS, x_eqBB,  x_and, x_or, x_andV, x_orV, x_notV, x_if, x_par, x_two, x_drop, x_BM, x_set0, x_setS, x_gcons, x_gnil, x_forL, x_forT, x_forR1, x_forR2, x_forE, x_ref, x_int1, x_oneI, x_oneB, x_noBI, x_twoI, false_or, x_sl, x_noP, x_part, true_and, List.append_nil, cxK, cxKn]; try simp only [V.str.injEq, V.int.injEq, V.bl.injEq])
    have hcut : cutV (ns.map V.int) none (some 63) = ns.map V.int := by
      unfold cutV
      rw [HT.sIx_none, show HT.sIx (ns.map V.int).length (ns.map V.int).length (some 63) = min 63 (ns.map V.int).length from HT.sIx_nat _ _ 63]
      rw [List.drop_zero, List.length_map, Nat.sub_zero, Nat.min_eq_right hlen]
      exact List.take_of_length_le (by simp)
    rw [hcut]
    refine ⟨⟨_, SqL.of upd_same⟩, ?_⟩
    refine lpL (xs := ns.map V.int) (fun i σ H' => ∃ (d sd : Int) (y3 y4 : Option V), σ = [some (.ref a), some (.int d), some (.int sd), y3, y4] ∧ H' = upd H0 p (.lst (ns.map V.int)) ∧ 0 ≤ d ∧ d < (10 ^ 60) ^ i ∧ 0 ≤ sd ∧ sd < 2305843009213693951)
      ⟨0, 88675123, none, none, rfl, rfl, by omega, by omega, by omega, by omega⟩ (fun i σ H' _ h => ?_) (fun i x σ H' hx h => ?_) (fun σ H' h => ?_)
    · obtain ⟨_, _, _, _, _, rfl, _⟩ := h
      exact SqL.of upd_same
    · obtain ⟨d, sd, y3, y4, rfl, rfl, d0, d1, s0, s1⟩ := h
      obtain ⟨c, rfl⟩ : ∃ c : Int, x = .int c := by
        rw [List.getElem?_map] at hx
        cases e : ns[i]? with
        | none => rw [e] at hx; cases hx
        | some c => rw [e] at hx; cases hx; exact ⟨c, rfl⟩
      have hi : i < 63 := by
        have := (List.getElem?_eq_some_iff.mp hx).1
        rw [List.length_map] at this
        omega
      (try simp only [x_asg, x_mkV, x_value, x_lcR1, x_lcL, List.map_cons, List.map_nil, x_yes, x_wipe0, x_wipeS, x_name, x_sub, x_ret, x_next, x_ifS, x_ite, x_iteN, x_T, x_F, x_tT, x_tF, x_op, x_un, x_var0, x_varS, x_c, x_I0, x_I, x_rU, x_nil, x_cons, x_test, x_B, x_bl, x_call, x_CB, x_tup, x_lst, x_not, x_Eq, x_Ne, x_eqII, x_eqSS, x_eqBB,  x_and, x_or, x_andV, x_orV, x_notV, x_if, x_par, x_two, x_drop, x_BM, x_set0, x_setS, x_gcons, x_gnil, x_forL, x_forT, x_forR1, x_forR2, x_forE, x_ref, x_int1, x_oneI, x_oneB, x_noBI, x_twoI, false_or, x_sl, x_noP, x_part, true_and, List.append_nil, cxK, cxKn]; try simp only [V.str.injEq, V.int.injEq, V.bl.injEq])
      refine x_seq.mpr ?_
      (try simp only [x_asg, x_mkV, x_value, x_lcR1, x_lcL, List.map_cons, List.map_nil, x_yes, x_wipe0, x_wipeS, x_name, x_sub, x_ret, x_next, x_ifS, x_ite, x_iteN, x_T, x_F, x_tT, x_tF, x_op, x_un, x_var0, x_varS, x_c, x_I0, x_I, x_rU, x_nil, x_cons, x_test, x_B, x_bl, x_call, x_CB, x_tup, x_lst, x_not, x_Eq, x_Ne, x_eqII, x_eqSS, x_eqBB,  x_and, x_or, x_andV, x_orV, x_notV, x_if, x_par, x_two, x_drop, x_BM, x_set0, x_setS, x_gcons, x_gnil, x_forL, x_forT, x_forR1, x_forR2, x_forE, x_ref, x_int1, x_oneI, x_oneB, x_noBI, x_twoI, false_or, x_sl, x_noP, x_part, true_and, List.append_nil, cxK, cxKn]; try simp only [V.str.injEq, V.int.injEq, V.bl.injEq])
      refine x_seq.mpr ?_
      (try simp only [x_asg, x_mkV, x_value, x_lcR1, x_lcL, List.map_cons, List.map_nil, x_yes, x_wipe0, x_wipeS, x_name, x_sub, x_ret, x_next, x_ifS, x_ite, x_iteN, x_T, x_F, x_tT, x_tF, x_op, x_un, x_var0, x_varS, x_c, x_I0, x_I, x_rU, x_nil, x_cons, x_test, x_B, x_bl, x_call, x_CB, x_tup, x_lst, x_not, x_Eq, x_Ne, x_eqII, x_eqSS, x_eqBB,  x_and, x_or, x_andV, x_orV, x_notV, x_if, x_par, x_two, x_drop, x_BM, x_set0, x_setS, x_gcons, x_gnil, x_forL, x_forT, x_forR1, x_forR2, x_forE, x_ref, x_int1, x_oneI, x_oneB, x_noBI, x_twoI, false_or, x_sl, x_noP, x_part, true_and, List.append_nil, cxK, cxKn]; try simp only [V.str.injEq, V.int.injEq, V.bl.injEq])
      refine ⟨⟨by omega, by omega, pow_ok (by omega) (by omega)⟩, ?_⟩
      have lst : ∀ d' : Int, 0 ≤ d' → d' < (10 ^ 60) ^ (i + 1) → ∃ (d_1 sd_1 : Int) (y3' y4' : Option V), [some (V.ref a), some (V.int d'), some (V.int ((sd * 1000003 + c % 2305843009213693921 + 7) % 2305843009213693951)), some (V.int c), some (V.int (if c < 0 then -c else c))] = [some (V.ref a), some (V.int d_1), some (V.int sd_1), y3', y4'] ∧
          0 ≤ d_1 ∧ d_1 < (10 ^ 60) ^ (i + 1) ∧ 0 ≤ sd_1 ∧ sd_1 < 2305843009213693951 := fun d' h0 h1 =>
        ⟨_, _, _, _, rfl, h0, h1, Int.emod_nonneg _ (by omega), Int.emod_lt_of_pos _ (by omega)⟩
      have sok : CMulW sd 1000003 := wide_mul (a := 64) (b := 64) (by omega) (by omega) (by omega) (by omega) (by omega)
      have grow : (10 ^ 60 : Int) ^ i * 10 ^ 60 = (10 ^ 60) ^ (i + 1) := (Int.pow_succ _ _).symm
      have dn : (10 ^ 60 : Int) ^ i ≤ (10 ^ 60) ^ 62 := by
        have h : ((10 ^ 60) ^ i : Nat) ≤ (10 ^ 60) ^ 62 := Nat.pow_le_pow_right (by decide) (by omega)
        exact_mod_cast h
      have db : ((10 ^ 60) ^ 62 : Int) < 2 ^ 13000 := by decide +kernel
      have dd : d.natAbs < 2 ^ 13000 := by
        have h : d < 2 ^ 13000 := Int.lt_of_lt_of_le d1 (Int.le_of_lt (Int.lt_of_le_of_lt dn db))
        have e : ((d.natAbs : Nat) : Int) = d := Int.natAbs_of_nonneg d0
        exact Int.ofNat_lt.mp (by rw [e]; exact_mod_cast h)
      refine ⟨fun hb => ?_, fun hb => ?_⟩
      · refine ⟨⟨by omega, by omega, pow_ok (by omega) (by omega)⟩, ?_⟩
        have r0 := Int.emod_nonneg (if c < 0 then -c else c) (show (10 ^ 60 : Int) ≠ 0 by decide)
        have r1 := Int.emod_lt_of_pos (if c < 0 then -c else c) (show (0 : Int) < 10 ^ 60 by decide)
        refine ⟨wide_mul (a := 13000) (b := 200) dd (by decide +kernel) (by omega) (by omega) (by omega), ⟨by omega, by omega, pow_ok (by omega) (by omega)⟩, by decide, sok, by omega, by omega, ?_⟩
        refine lst _ ?_ ?_
        · have : 0 ≤ d * 10 ^ 60 := Int.mul_nonneg d0 (by decide)
          exact Int.add_nonneg this r0
        · rw [← grow]
          have h1 : (d + 1) * 10 ^ 60 ≤ (10 ^ 60) ^ i * 10 ^ 60 := Int.mul_le_mul_of_nonneg_right d1 (by decide)
          have h2 : (d + 1) * 10 ^ 60 = d * 10 ^ 60 + 10 ^ 60 := by rw [Int.add_mul, Int.one_mul]
          show d * 10 ^ 60 + (if c < 0 then -c else c) % 10 ^ 60 < _
          exact Int.lt_of_lt_of_le (Int.add_lt_add_left r1 _) (by rw [← h2]; exact h1)
      · refine ⟨sok, by omega, by omega, ?_⟩
        refine lst d d0 ?_
        rw [← grow]
        have h1 : d * 1 ≤ d * 10 ^ 60 := Int.mul_le_mul_of_nonneg_left (by decide) d0
        have h2 : (d + 1) * 10 ^ 60 ≤ (10 ^ 60) ^ i * 10 ^ 60 := Int.mul_le_mul_of_nonneg_right d1 (by decide)
        have h3 : (d + 1) * 10 ^ 60 = d * 10 ^ 60 + 10 ^ 60 := by rw [Int.add_mul, Int.one_mul]
        rw [h3] at h2
        have h4 : (0 : Int) < 10 ^ 60 := by decide
        omega
    · obtain ⟨d, sd, y3, y4, rfl, rfl, d0, d1, s0, s1⟩ := h
      (try simp only [x_asg, x_mkV, x_value, x_lcR1, x_lcL, List.map_cons, List.map_nil, x_yes, x_wipe0, x_wipeS, x_name, x_sub, x_ret, x_next, x_ifS, x_ite, x_iteN, x_T, x_F, x_tT, x_tF, x_op, x_un, x_var0, x_varS, x_c, x_I0, x_I, x_rU, x_nil, x_cons, x_test, x_B, x_bl, x_call, x_CB, x_tup, x_lst, x_not, x_Eq, x_Ne, x_eqII, x_eqSS, x_eqBB,  x_and, x_or, x_andV, x_orV, x_notV, x_if, x_par, x_two, x_drop, x_BM, x_set0, x_setS, x_gcons, x_gnil, x_forL, x_forT, x_forR1, x_forR2, x_forE, x_ref, x_int1, x_oneI, x_oneB, x_noBI, x_twoI, false_or, x_sl, x_noP, x_part, true_and, List.append_nil, cxK, cxKn]; try simp only [V.str.injEq, V.int.injEq, V.bl.injEq])
      refine ⟨by show 3 ≤ sizeLine; decide, fun r hn => ?_⟩
      have np' : H r = none := Same.free (sH.trans (same_new np)) hn
      refine q r _ np' ⟨d, sd, 0, upd_same, d0, ?_, s0, s1, by omega, by omega⟩ ((sH.trans (same_new np)).trans (same_new hn))
      refine Int.lt_of_lt_of_le d1 ?_
      rw [List.length_map]
      have h : ((10 ^ 60) ^ ns.length : Nat) ≤ (10 ^ 60) ^ 63 := Nat.pow_le_pow_right (by decide) hlen
      have h2 : ((10 ^ 60) ^ 63 : Int) = 10 ^ 3780 := by decide +kernel
      rw [← h2]
      exact_mod_cast h
end

abbrev s_law_flags : Stmt := topS 12
theorem sc_law_flags : FnScope ["error", "found"] ["error"] (defScope s_law_flags) := ⟨rfl, rfl, rfl, by decide +kernel, rfl, by decide +kernel, by decide +kernel⟩
abbrev s_law_made : Stmt := topS 13
theorem sc_law_made : FnScope ["number", "what", "by_name"] ["number", "what", "by_name"] (defScope s_law_made) := ⟨rfl, rfl, rfl, by decide +kernel, rfl, by decide +kernel, by decide +kernel⟩
abbrev s_law : Stmt := topS 14
theorem sc_law : FnScope ["script", "rng", "lap", "far", "what", "number", "by_name", "error", "place"] ["script"] (defScope s_law) := ⟨rfl, rfl, rfl, by decide +kernel, rfl, by decide +kernel, by decide +kernel⟩
def nameOf : Nat → Str
  | 0 => "InvalidStep" | 1 => "InvalidForm" | 2 => "InvalidNumber" | 3 => "InvalidRange" | 4 => "ChangedNumber" | 5 => "NothingToUndo" | _ => "Unreadable"
/-- the seven classes with their __init__s, and CastError -/
structure Cls (P : Program) (w : World) (K : PySem.W.Frag) (mg : Str → Option Value) (base : Heap) (C fI : Nat → Addr) (fd : Nat → FuncData) (C0 : Addr) : Prop where
  cls : ∀ i : Nat, XC K mg (nameOf i) (C i) (fI i)
  ini : ∀ i : Nat, FnOk P w K mg base CX0 1 (fI i) (fd i) ["self", "value"] (spInit K (C i))
  bi : ∀ i : Nat, Binds K (fd i) ["self", "value"] []
  kw : ∀ i : Nat, ∀ (s : Shared) (u v : Value), BindsTo s (fd i) ⟨[u], [("value", v)]⟩ [("self", u), ("value", v)]
  g0 : mg "CastError" = some (.ref C0)
  kit : ∀ i j : Nat, i < 7 → j < 7 → PySem.W.kitOne K (.ref (C i)) (.ref (C j)) = some (decide (i = j))
  kit0 : ∀ i : Nat, i < 7 → PySem.W.kitOne K (.ref (C i)) (.ref C0) = some true
  kitV : ∀ i : Nat, i < 7 → PySem.W.kitOne K (.ref (C i)) (.type "ValueError") = some true
section
variable {P : Program} {w : World} {K : PySem.W.Frag} {mg : Str → Option Value} {base : Heap} {C fI : Nat → Addr} {fd : Nat → FuncData} {C0 : Addr}
def flags (i : Nat) : List Bool := (List.range 7).map fun j => decide (i = j)
def ErrAt (K : PySem.W.Frag) (H : Hp) (a C : Addr) (v : V) : Prop := ∃ d, H a = some (exT a (.ref C) (some d)) ∧ H d = some (.xd [("value", v)])
theorem ErrAt.same {H H' : Hp} {a C : Addr} {v : V} (e : Same H H') (h : ErrAt K H a C v) : ErrAt K H' a C v := by
  obtain ⟨d, h1, h2⟩ := h
  exact ⟨d, e _ _ h1, e _ _ h2⟩
theorem x_isX {H : Hp} {Q : VK} {a c : Addr} {v : V} {b : Bool} (Y : Cls P w K mg base C fI fd C0) {i : Nat} (h : ErrAt K H a (C i) v) (k : PySem.W.kitOne K (.ref (C i)) (.ref c) = some b) (q : Q (.bl b) H) : rIsX K [.ref a, .ref c] H Q := by
  obtain ⟨d, h1, h2⟩ := h
  exact ⟨a, C i, d, _, .ref c, .ref c, b, rfl, h1, h2, (Y.cls i).I, .own c, k, q⟩
theorem x_isV {H : Hp} {Q : VK} {a : Addr} {v : V} {b : Bool} {n : String} (Y : Cls P w K mg base C fI fd C0) {i : Nat} (h : ErrAt K H a (C i) v) (k : PySem.W.kitOne K (.ref (C i)) (.type n) = some b) (q : Q (.bl b) H) : rIsX K [.ref a, .ty n] H Q := by
  obtain ⟨d, h1, h2⟩ := h
  exact ⟨a, C i, d, _, .ty n, .type n, b, rfl, h1, h2, (Y.cls i).I, .ty n, k, q⟩
def spFlags (K : PySem.W.Frag) (C : Nat → Addr) : Sp := fun vs H Q _ => ∃ (a : Addr) (i : Nat) (v : V), vs = [.ref a] ∧ i < 7 ∧ ErrAt K H a (C i) v ∧ ∀ p H', H p = none → H' p = some (.lst ((flags i).map V.bl)) → Same H H' → Q (.ref p) H'
theorem p_flags (T : Tx K mg "_law_flags" s_law_flags) (Y : Cls P w K mg base C fI fd C0) (m_isinstance : mg "isinstance" = none) : Pr P w K mg base CX0 2 "_law_flags" ["error"] (spFlags K C) := by
  refine mkP T sc_law_flags (fun _ _ _ _ _ _ us hl => match us, hl with | [_], _ => rfl) (fun vs H Q E h => ?_) (fun f cdv A outer s H vs Q E hG hr h => ?_)
  · obtain ⟨_, _, _, rfl, _⟩ := h
    rfl
  · obtain ⟨a, i, v, rfl, hi, hE, q⟩ := h
    have nd := sc_law_flags.nd
    refine ⟨_, (pss_cons (ps_set (i := 1) nd rfl (.inl rfl) (pe_lst (pa_cons (pe_callB cr_isX (by rfl) m_isinstance (by decide +kernel) (pa_cons (pv 0) (pa_cons (pe_glob (v := .ref (C 0)) (by rfl) (Y.cls 0).gC rfl) pa_nil))) (pa_cons (pe_callB cr_isX (by rfl) m_isinstance (by decide +kernel) (pa_cons (pv 0) (pa_cons (pe_glob (v := .ref (C 1)) (by rfl) (Y.cls 1).gC rfl) pa_nil))) (pa_cons (pe_callB cr_isX (by rfl) m_isinstance (by decide +kernel) (pa_cons (pv 0) (pa_cons (pe_glob (v := .ref (C 2)) (by rfl) (Y.cls 2).gC rfl) pa_nil))) pa_nil))))) (pss_cons (ps_set (i := 1) nd rfl (.inl rfl) (pe_op op_cat (pv 1) (pe_lst (pa_cons (pe_callB cr_isX (by rfl) m_isinstance (by decide +kernel) (pa_cons (pv 0) (pa_cons (pe_glob (v := .ref (C 3)) (by rfl) (Y.cls 3).gC rfl) pa_nil))) (pa_cons (pe_callB cr_isX (by rfl) m_isinstance (by decide +kernel) (pa_cons (pv 0) (pa_cons (pe_glob (v := .ref (C 4)) (by rfl) (Y.cls 4).gC rfl) pa_nil))) pa_nil))))) (pss_one (ps_ret (pe_op op_cat (pv 1) (pe_lst (pa_cons (pe_callB cr_isX (by rfl) m_isinstance (by decide +kernel) (pa_cons (pv 0) (pa_cons (pe_glob (v := .ref (C 5)) (by rfl) (Y.cls 5).gC rfl) pa_nil))) (pa_cons (pe_callB cr_isX (by rfl) m_isinstance (by decide +kernel) (pa_cons (pv 0) (pa_cons (pe_glob (v := .ref (C 6)) (by rfl) (Y.cls 6).gC rfl) pa_nil))) pa_nil)))))))), ?_⟩
    show (tSeq _ _) _ [some (V.ref a), none] H
    refine x_seq.mpr ?_
    (try simp only [x_asg, x_mkV, x_value, x_lcR1, x_lcL, List.map_cons, List.map_nil, x_yes, x_wipe0, x_wipeS, x_name, x_sub, x_ret, x_next, x_ifS, x_ite, x_iteN, x_T, x_F, x_tT, x_tF, x_op, x_un, x_var0, x_varS, x_c, x_I0, x_I, x_rU, x_nil, x_cons, x_test, x_B, x_bl, x_call, x_CB, x_tup, x_lst, x_not, x_Eq, x_Ne, x_eqII, x_eqSS, x_eqBB,  x_and, x_or, x_andV, x_orV, x_notV, x_if, x_par, x_two, x_drop, x_BM, x_set0, x_setS, x_gcons, x_gnil, x_forL, x_forT, x_forR1, x_forR2, x_forE, x_ref, x_int1, x_oneI, x_oneB, x_noBI, x_twoI, false_or, x_sl, x_noP, x_part, true_and, List.append_nil, cxK, cxKn]; try simp only [V.str.injEq, V.int.injEq, V.bl.injEq])
    refine x_isX Y hE (Y.kit i 0 hi (by decide)) ?_
    (try simp only [x_asg, x_mkV, x_value, x_lcR1, x_lcL, List.map_cons, List.map_nil, x_yes, x_wipe0, x_wipeS, x_name, x_sub, x_ret, x_next, x_ifS, x_ite, x_iteN, x_T, x_F, x_tT, x_tF, x_op, x_un, x_var0, x_varS, x_c, x_I0, x_I, x_rU, x_nil, x_cons, x_test, x_B, x_bl, x_call, x_CB, x_tup, x_lst, x_not, x_Eq, x_Ne, x_eqII, x_eqSS, x_eqBB,  x_and, x_or, x_andV, x_orV, x_notV, x_if, x_par, x_two, x_drop, x_BM, x_set0, x_setS, x_gcons, x_gnil, x_forL, x_forT, x_forR1, x_forR2, x_forE, x_ref, x_int1, x_oneI, x_oneB, x_noBI, x_twoI, false_or, x_sl, x_noP, x_part, true_and, List.append_nil, cxK, cxKn]; try simp only [V.str.injEq, V.int.injEq, V.bl.injEq])
    refine x_isX Y hE (Y.kit i 1 hi (by decide)) ?_
    (try simp only [x_asg, x_mkV, x_value, x_lcR1, x_lcL, List.map_cons, List.map_nil, x_yes, x_wipe0, x_wipeS, x_name, x_sub, x_ret, x_next, x_ifS, x_ite, x_iteN, x_T, x_F, x_tT, x_tF, x_op, x_un, x_var0, x_varS, x_c, x_I0, x_I, x_rU, x_nil, x_cons, x_test, x_B, x_bl, x_call, x_CB, x_tup, x_lst, x_not, x_Eq, x_Ne, x_eqII, x_eqSS, x_eqBB,  x_and, x_or, x_andV, x_orV, x_notV, x_if, x_par, x_two, x_drop, x_BM, x_set0, x_setS, x_gcons, x_gnil, x_forL, x_forT, x_forR1, x_forR2, x_forE, x_ref, x_int1, x_oneI, x_oneB, x_noBI, x_twoI, false_or, x_sl, x_noP, x_part, true_and, List.append_nil, cxK, cxKn]; try simp only [V.str.injEq, V.int.injEq, V.bl.injEq])
    refine x_isX Y hE (Y.kit i 2 hi (by decide)) ?_
    (try simp only [x_asg, x_mkV, x_value, x_lcR1, x_lcL, List.map_cons, List.map_nil, x_yes, x_wipe0, x_wipeS, x_name, x_sub, x_ret, x_next, x_ifS, x_ite, x_iteN, x_T, x_F, x_tT, x_tF, x_op, x_un, x_var0, x_varS, x_c, x_I0, x_I, x_rU, x_nil, x_cons, x_test, x_B, x_bl, x_call, x_CB, x_tup, x_lst, x_not, x_Eq, x_Ne, x_eqII, x_eqSS, x_eqBB,  x_and, x_or, x_andV, x_orV, x_notV, x_if, x_par, x_two, x_drop, x_BM, x_set0, x_setS, x_gcons, x_gnil, x_forL, x_forT, x_forR1, x_forR2, x_forE, x_ref, x_int1, x_oneI, x_oneB, x_noBI, x_twoI, false_or, x_sl, x_noP, x_part, true_and, List.append_nil, cxK, cxKn]; try simp only [V.str.injEq, V.int.injEq, V.bl.injEq])
    refine ⟨by show 3 ≤ sizeLine; decide, fun p np => ?_⟩
    have s1 := same_new (o := .lst [.bl (decide (i = 0)), .bl (decide (i = 1)), .bl (decide (i = 2))]) np
    have hp : upd H p (.lst [.bl (decide (i = 0)), .bl (decide (i = 1)), .bl (decide (i = 2))]) p = some (.lst [.bl (decide (i = 0)), .bl (decide (i = 1)), .bl (decide (i = 2))]) := upd_same
    generalize upd H p (.lst [.bl (decide (i = 0)), .bl (decide (i = 1)), .bl (decide (i = 2))]) = H1 at s1 hp
    refine x_seq.mpr ?_
    (try simp only [x_asg, x_mkV, x_value, x_lcR1, x_lcL, List.map_cons, List.map_nil, x_yes, x_wipe0, x_wipeS, x_name, x_sub, x_ret, x_next, x_ifS, x_ite, x_iteN, x_T, x_F, x_tT, x_tF, x_op, x_un, x_var0, x_varS, x_c, x_I0, x_I, x_rU, x_nil, x_cons, x_test, x_B, x_bl, x_call, x_CB, x_tup, x_lst, x_not, x_Eq, x_Ne, x_eqII, x_eqSS, x_eqBB,  x_and, x_or, x_andV, x_orV, x_notV, x_if, x_par, x_two, x_drop, x_BM, x_set0, x_setS, x_gcons, x_gnil, x_forL, x_forT, x_forR1, x_forR2, x_forE, x_ref, x_int1, x_oneI, x_oneB, x_noBI, x_twoI, false_or, x_sl, x_noP, x_part, true_and, List.append_nil, cxK, cxKn]; try simp only [V.str.injEq, V.int.injEq, V.bl.injEq])
    refine x_isX Y (hE.same s1) (Y.kit i 3 hi (by decide)) ?_
    (try simp only [x_asg, x_mkV, x_value, x_lcR1, x_lcL, List.map_cons, List.map_nil, x_yes, x_wipe0, x_wipeS, x_name, x_sub, x_ret, x_next, x_ifS, x_ite, x_iteN, x_T, x_F, x_tT, x_tF, x_op, x_un, x_var0, x_varS, x_c, x_I0, x_I, x_rU, x_nil, x_cons, x_test, x_B, x_bl, x_call, x_CB, x_tup, x_lst, x_not, x_Eq, x_Ne, x_eqII, x_eqSS, x_eqBB,  x_and, x_or, x_andV, x_orV, x_notV, x_if, x_par, x_two, x_drop, x_BM, x_set0, x_setS, x_gcons, x_gnil, x_forL, x_forT, x_forR1, x_forR2, x_forE, x_ref, x_int1, x_oneI, x_oneB, x_noBI, x_twoI, false_or, x_sl, x_noP, x_part, true_and, List.append_nil, cxK, cxKn]; try simp only [V.str.injEq, V.int.injEq, V.bl.injEq])
    refine x_isX Y (hE.same s1) (Y.kit i 4 hi (by decide)) ?_
    (try simp only [x_asg, x_mkV, x_value, x_lcR1, x_lcL, List.map_cons, List.map_nil, x_yes, x_wipe0, x_wipeS, x_name, x_sub, x_ret, x_next, x_ifS, x_ite, x_iteN, x_T, x_F, x_tT, x_tF, x_op, x_un, x_var0, x_varS, x_c, x_I0, x_I, x_rU, x_nil, x_cons, x_test, x_B, x_bl, x_call, x_CB, x_tup, x_lst, x_not, x_Eq, x_Ne, x_eqII, x_eqSS, x_eqBB,  x_and, x_or, x_andV, x_orV, x_notV, x_if, x_par, x_two, x_drop, x_BM, x_set0, x_setS, x_gcons, x_gnil, x_forL, x_forT, x_forR1, x_forR2, x_forE, x_ref, x_int1, x_oneI, x_oneB, x_noBI, x_twoI, false_or, x_sl, x_noP, x_part, true_and, List.append_nil, cxK, cxKn]; try simp only [V.str.injEq, V.int.injEq, V.bl.injEq])
    refine ⟨by show 2 ≤ sizeLine; decide, fun p2 np2 => ?_⟩
    have s2 := same_new (o := .lst [.bl (decide (i = 3)), .bl (decide (i = 4))]) np2
    refine x_cat (s2 _ _ hp) upd_same (by show 5 ≤ sizeLine; decide) fun p3 np3 => ?_
    (try simp only [x_asg, x_mkV, x_value, x_lcR1, x_lcL, List.map_cons, List.map_nil, x_yes, x_wipe0, x_wipeS, x_name, x_sub, x_ret, x_next, x_ifS, x_ite, x_iteN, x_T, x_F, x_tT, x_tF, x_op, x_un, x_var0, x_varS, x_c, x_I0, x_I, x_rU, x_nil, x_cons, x_test, x_B, x_bl, x_call, x_CB, x_tup, x_lst, x_not, x_Eq, x_Ne, x_eqII, x_eqSS, x_eqBB,  x_and, x_or, x_andV, x_orV, x_notV, x_if, x_par, x_two, x_drop, x_BM, x_set0, x_setS, x_gcons, x_gnil, x_forL, x_forT, x_forR1, x_forR2, x_forE, x_ref, x_int1, x_oneI, x_oneB, x_noBI, x_twoI, false_or, x_sl, x_noP, x_part, true_and, List.append_nil, cxK, cxKn]; try simp only [V.str.injEq, V.int.injEq, V.bl.injEq])
    have s3 := same_new (o := .lst ([.bl (decide (i = 0)), .bl (decide (i = 1)), .bl (decide (i = 2))] ++ [.bl (decide (i = 3)), .bl (decide (i = 4))])) np3
    have hp3 : upd (upd H1 p2 (.lst [.bl (decide (i = 3)), .bl (decide (i = 4))])) p3 (.lst ([.bl (decide (i = 0)), .bl (decide (i = 1)), .bl (decide (i = 2))] ++ [.bl (decide (i = 3)), .bl (decide (i = 4))])) p3 = _ := upd_same
    have s13 := (s1.trans s2).trans s3
    generalize upd (upd H1 p2 (.lst [.bl (decide (i = 3)), .bl (decide (i = 4))])) p3 (.lst ([.bl (decide (i = 0)), .bl (decide (i = 1)), .bl (decide (i = 2))] ++ [.bl (decide (i = 3)), .bl (decide (i = 4))])) = H3 at s13 hp3
    refine x_isX Y (hE.same s13) (Y.kit i 5 hi (by decide)) ?_
    (try simp only [x_asg, x_mkV, x_value, x_lcR1, x_lcL, List.map_cons, List.map_nil, x_yes, x_wipe0, x_wipeS, x_name, x_sub, x_ret, x_next, x_ifS, x_ite, x_iteN, x_T, x_F, x_tT, x_tF, x_op, x_un, x_var0, x_varS, x_c, x_I0, x_I, x_rU, x_nil, x_cons, x_test, x_B, x_bl, x_call, x_CB, x_tup, x_lst, x_not, x_Eq, x_Ne, x_eqII, x_eqSS, x_eqBB,  x_and, x_or, x_andV, x_orV, x_notV, x_if, x_par, x_two, x_drop, x_BM, x_set0, x_setS, x_gcons, x_gnil, x_forL, x_forT, x_forR1, x_forR2, x_forE, x_ref, x_int1, x_oneI, x_oneB, x_noBI, x_twoI, false_or, x_sl, x_noP, x_part, true_and, List.append_nil, cxK, cxKn]; try simp only [V.str.injEq, V.int.injEq, V.bl.injEq])
    refine x_isX Y (hE.same s13) (Y.kit i 6 hi (by decide)) ?_
    (try simp only [x_asg, x_mkV, x_value, x_lcR1, x_lcL, List.map_cons, List.map_nil, x_yes, x_wipe0, x_wipeS, x_name, x_sub, x_ret, x_next, x_ifS, x_ite, x_iteN, x_T, x_F, x_tT, x_tF, x_op, x_un, x_var0, x_varS, x_c, x_I0, x_I, x_rU, x_nil, x_cons, x_test, x_B, x_bl, x_call, x_CB, x_tup, x_lst, x_not, x_Eq, x_Ne, x_eqII, x_eqSS, x_eqBB,  x_and, x_or, x_andV, x_orV, x_notV, x_if, x_par, x_two, x_drop, x_BM, x_set0, x_setS, x_gcons, x_gnil, x_forL, x_forT, x_forR1, x_forR2, x_forE, x_ref, x_int1, x_oneI, x_oneB, x_noBI, x_twoI, false_or, x_sl, x_noP, x_part, true_and, List.append_nil, cxK, cxKn]; try simp only [V.str.injEq, V.int.injEq, V.bl.injEq])
    refine ⟨by show 2 ≤ sizeLine; decide, fun p4 np4 => ?_⟩
    have s4 := same_new (o := .lst [.bl (decide (i = 5)), .bl (decide (i = 6))]) np4
    refine x_cat (s4 _ _ hp3) upd_same (by show 7 ≤ sizeLine; decide) fun p5 np5 => ?_
    exact q p5 _ ((s13.trans s4).free np5) upd_same ((s13.trans s4).trans (same_new np5))
def spMade (K : PySem.W.Frag) (C : Nat → Addr) : Sp := fun vs H Q _ => ∃ (i : Nat) (v : V) (b : Bool), vs = [.int i, v, .bl b] ∧ i < 7 ∧ ∀ a H', H a = none → Same H H' → ErrAt K H' a (C i) v → Q (.ref a) H'
theorem mk_q {H : Hp} {Q : VK} {c : Addr} {v : V} (q : ∀ a H', H a = none → Same H H' → ErrAt K H' a c v → Q (.ref a) H') : MkR K c [v] H (asV Q) := mkV fun d a hd ha => by
  have s1 := same_new (o := .xd [("value", v)]) hd
  have s2 := same_new (o := exT a (.ref c) (some d)) ha
  exact q a _ (s1.free ha) (s1.trans s2) ⟨d, upd_same, s2 _ _ upd_same⟩
theorem p_made (T : Tx K mg "_law_made" s_law_made) (Y : Cls P w K mg base C fI fd C0) : Pr P w K mg base CX0 3 "_law_made" ["number", "what", "by_name"] (spMade K C) := by
  refine mkP T sc_law_made (fun _ _ _ _ _ _ us hl => match us, hl with | [_, _, _], _ => rfl) (fun vs H Q E h => ?_) (fun f cdv A outer s H vs Q E hG hr h => ?_)
  · obtain ⟨_, _, _, rfl, _⟩ := h
    rfl
  · obtain ⟨i, v, b, rfl, hi, q⟩ := h
    have nd := sc_law_made.nd
    refine ⟨_, (pss_cons (ps_if (pt_cmpR op_eq (pv 0) pe_int (nomark _)) (pss_one (ps_ret (pe_ifExp (pt_val (pv 2)) (pe_exK (Y.cls 0) (Y.ini 0) (hr.mono (by decide)) (Y.kw 0) (by rfl) (pk_cons (pv 1) pk_nil)) (pe_ex (Y.cls 0) (Y.ini 0) (hr.mono (by decide)) (Y.bi 0) (by rfl) (pa_cons (pv 1) pa_nil))))) pss_nil) (pss_cons (ps_if (pt_cmpR op_eq (pv 0) pe_int (nomark _)) (pss_one (ps_ret (pe_ifExp (pt_val (pv 2)) (pe_exK (Y.cls 1) (Y.ini 1) (hr.mono (by decide)) (Y.kw 1) (by rfl) (pk_cons (pv 1) pk_nil)) (pe_ex (Y.cls 1) (Y.ini 1) (hr.mono (by decide)) (Y.bi 1) (by rfl) (pa_cons (pv 1) pa_nil))))) pss_nil) (pss_cons (ps_if (pt_cmpR op_eq (pv 0) pe_int (nomark _)) (pss_one (ps_ret (pe_ifExp (pt_val (pv 2)) (pe_exK (Y.cls 2) (Y.ini 2) (hr.mono (by decide)) (Y.kw 2) (by rfl) (pk_cons (pv 1) pk_nil)) (pe_ex (Y.cls 2) (Y.ini 2) (hr.mono (by decide)) (Y.bi 2) (by rfl) (pa_cons (pv 1) pa_nil))))) pss_nil) (pss_cons (ps_if (pt_cmpR op_eq (pv 0) pe_int (nomark _)) (pss_one (ps_ret (pe_ifExp (pt_val (pv 2)) (pe_exK (Y.cls 3) (Y.ini 3) (hr.mono (by decide)) (Y.kw 3) (by rfl) (pk_cons (pv 1) pk_nil)) (pe_ex (Y.cls 3) (Y.ini 3) (hr.mono (by decide)) (Y.bi 3) (by rfl) (pa_cons (pv 1) pa_nil))))) pss_nil) (pss_cons (ps_if (pt_cmpR op_eq (pv 0) pe_int (nomark _)) (pss_one (ps_ret (pe_ifExp (pt_val (pv 2)) (pe_exK (Y.cls 4) (Y.ini 4) (hr.mono (by decide)) (Y.kw 4) (by rfl) (pk_cons (pv 1) pk_nil)) (pe_ex (Y.cls 4) (Y.ini 4) (hr.mono (by decide)) (Y.bi 4) (by rfl) (pa_cons (pv 1) pa_nil))))) pss_nil) (pss_cons (ps_if (pt_cmpR op_eq (pv 0) pe_int (nomark _)) (pss_one (ps_ret (pe_ifExp (pt_val (pv 2)) (pe_exK (Y.cls 5) (Y.ini 5) (hr.mono (by decide)) (Y.kw 5) (by rfl) (pk_cons (pv 1) pk_nil)) (pe_ex (Y.cls 5) (Y.ini 5) (hr.mono (by decide)) (Y.bi 5) (by rfl) (pa_cons (pv 1) pa_nil))))) pss_nil) (pss_one (ps_ret (pe_ifExp (pt_val (pv 2)) (pe_exK (Y.cls 6) (Y.ini 6) (hr.mono (by decide)) (Y.kw 6) (by rfl) (pk_cons (pv 1) pk_nil)) (pe_ex (Y.cls 6) (Y.ini 6) (hr.mono (by decide)) (Y.bi 6) (by rfl) (pa_cons (pv 1) pa_nil))))))))))), ?_⟩
    show (tSeq _ _) _ [some (V.int i), some v, some (V.bl b)] H
    refine x_seq.mpr ?_
    (try simp only [x_asg, x_mkV, x_value, x_lcR1, x_lcL, List.map_cons, List.map_nil, x_yes, x_wipe0, x_wipeS, x_name, x_sub, x_ret, x_next, x_ifS, x_ite, x_iteN, x_T, x_F, x_tT, x_tF, x_op, x_un, x_var0, x_varS, x_c, x_I0, x_I, x_rU, x_nil, x_cons, x_test, x_B, x_bl, x_call, x_CB, x_tup, x_lst, x_not, x_Eq, x_Ne, x_eqII, x_eqSS, x_eqBB,  x_and, x_or, x_andV, x_orV, x_notV, x_if, x_par, x_two, x_drop, x_BM, x_set0, x_setS, x_gcons, x_gnil, x_forL, x_forT, x_forR1, x_forR2, x_forE, x_ref, x_int1, x_oneI, x_oneB, x_noBI, x_twoI, false_or, x_sl, x_noP, x_part, true_and, List.append_nil, cxK, cxKn]; try simp only [V.str.injEq, V.int.injEq, V.bl.injEq])
    refine ⟨fun h => ?_, fun h0 => ?_⟩
    · obtain rfl : i = 0 := by omega
      cases b <;> ((try simp only [x_asg, x_mkV, x_value, x_lcR1, x_lcL, List.map_cons, List.map_nil, x_yes, x_wipe0, x_wipeS, x_name, x_sub, x_ret, x_next, x_ifS, x_ite, x_iteN, x_T, x_F, x_tT, x_tF, x_op, x_un, x_var0, x_varS, x_c, x_I0, x_I, x_rU, x_nil, x_cons, x_test, x_B, x_bl, x_call, x_CB, x_tup, x_lst, x_not, x_Eq, x_Ne, x_eqII, x_eqSS, x_eqBB,  x_and, x_or, x_andV, x_orV, x_notV, x_if, x_par, x_two, x_drop, x_BM, x_set0, x_setS, x_gcons, x_gnil, x_forL, x_forT, x_forR1, x_forR2, x_forE, x_ref, x_int1, x_oneI, x_oneB, x_noBI, x_twoI, false_or, x_sl, x_noP, x_part, true_and, List.append_nil, cxK, cxKn]; try simp only [V.str.injEq, V.int.injEq, V.bl.injEq]); exact mk_q q)
    refine x_seq.mpr ?_
    (try simp only [x_asg, x_mkV, x_value, x_lcR1, x_lcL, List.map_cons, List.map_nil, x_yes, x_wipe0, x_wipeS, x_name, x_sub, x_ret, x_next, x_ifS, x_ite, x_iteN, x_T, x_F, x_tT, x_tF, x_op, x_un, x_var0, x_varS, x_c, x_I0, x_I, x_rU, x_nil, x_cons, x_test, x_B, x_bl, x_call, x_CB, x_tup, x_lst, x_not, x_Eq, x_Ne, x_eqII, x_eqSS, x_eqBB,  x_and, x_or, x_andV, x_orV, x_notV, x_if, x_par, x_two, x_drop, x_BM, x_set0, x_setS, x_gcons, x_gnil, x_forL, x_forT, x_forR1, x_forR2, x_forE, x_ref, x_int1, x_oneI, x_oneB, x_noBI, x_twoI, false_or, x_sl, x_noP, x_part, true_and, List.append_nil, cxK, cxKn]; try simp only [V.str.injEq, V.int.injEq, V.bl.injEq])
    refine ⟨fun h => ?_, fun h1 => ?_⟩
    · obtain rfl : i = 1 := by omega
      cases b <;> ((try simp only [x_asg, x_mkV, x_value, x_lcR1, x_lcL, List.map_cons, List.map_nil, x_yes, x_wipe0, x_wipeS, x_name, x_sub, x_ret, x_next, x_ifS, x_ite, x_iteN, x_T, x_F, x_tT, x_tF, x_op, x_un, x_var0, x_varS, x_c, x_I0, x_I, x_rU, x_nil, x_cons, x_test, x_B, x_bl, x_call, x_CB, x_tup, x_lst, x_not, x_Eq, x_Ne, x_eqII, x_eqSS, x_eqBB,  x_and, x_or, x_andV, x_orV, x_notV, x_if, x_par, x_two, x_drop, x_BM, x_set0, x_setS, x_gcons, x_gnil, x_forL, x_forT, x_forR1, x_forR2, x_forE, x_ref, x_int1, x_oneI, x_oneB, x_noBI, x_twoI, false_or, x_sl, x_noP, x_part, true_and, List.append_nil, cxK, cxKn]; try simp only [V.str.injEq, V.int.injEq, V.bl.injEq]); exact mk_q q)
    refine x_seq.mpr ?_
    (try simp only [x_asg, x_mkV, x_value, x_lcR1, x_lcL, List.map_cons, List.map_nil, x_yes, x_wipe0, x_wipeS, x_name, x_sub, x_ret, x_next, x_ifS, x_ite, x_iteN, x_T, x_F, x_tT, x_tF, x_op, x_un, x_var0, x_varS, x_c, x_I0, x_I, x_rU, x_nil, x_cons, x_test, x_B, x_bl, x_call, x_CB, x_tup, x_lst, x_not, x_Eq, x_Ne, x_eqII, x_eqSS, x_eqBB,  x_and, x_or, x_andV, x_orV, x_notV, x_if, x_par, x_two, x_drop, x_BM, x_set0, x_setS, x_gcons, x_gnil, x_forL, x_forT, x_forR1, x_forR2, x_forE, x_ref, x_int1, x_oneI, x_oneB, x_noBI, x_twoI, false_or, x_sl, x_noP, x_part, true_and, List.append_nil, cxK, cxKn]; try simp only [V.str.injEq, V.int.injEq, V.bl.injEq])
    refine ⟨fun h => ?_, fun h2 => ?_⟩
    · obtain rfl : i = 2 := by omega
      cases b <;> ((try simp only [x_asg, x_mkV, x_value, x_lcR1, x_lcL, List.map_cons, List.map_nil, x_yes, x_wipe0, x_wipeS, x_name, x_sub, x_ret, x_next, x_ifS, x_ite, x_iteN, x_T, x_F, x_tT, x_tF, x_op, x_un, x_var0, x_varS, x_c, x_I0, x_I, x_rU, x_nil, x_cons, x_test, x_B, x_bl, x_call, x_CB, x_tup, x_lst, x_not, x_Eq, x_Ne, x_eqII, x_eqSS, x_eqBB,  x_and, x_or, x_andV, x_orV, x_notV, x_if, x_par, x_two, x_drop, x_BM, x_set0, x_setS, x_gcons, x_gnil, x_forL, x_forT, x_forR1, x_forR2, x_forE, x_ref, x_int1, x_oneI, x_oneB, x_noBI, x_twoI, false_or, x_sl, x_noP, x_part, true_and, List.append_nil, cxK, cxKn]; try simp only [V.str.injEq, V.int.injEq, V.bl.injEq]); exact mk_q q)
    refine x_seq.mpr ?_
    (try simp only [x_asg, x_mkV, x_value, x_lcR1, x_lcL, List.map_cons, List.map_nil, x_yes, x_wipe0, x_wipeS, x_name, x_sub, x_ret, x_next, x_ifS, x_ite, x_iteN, x_T, x_F, x_tT, x_tF, x_op, x_un, x_var0, x_varS, x_c, x_I0, x_I, x_rU, x_nil, x_cons, x_test, x_B, x_bl, x_call, x_CB, x_tup, x_lst, x_not, x_Eq, x_Ne, x_eqII, x_eqSS, x_eqBB,  x_and, x_or, x_andV, x_orV, x_notV, x_if, x_par, x_two, x_drop, x_BM, x_set0, x_setS, x_gcons, x_gnil, x_forL, x_forT, x_forR1, x_forR2, x_forE, x_ref, x_int1, x_oneI, x_oneB, x_noBI, x_twoI, false_or, x_sl, x_noP, x_part, true_and, List.append_nil, cxK, cxKn]; try simp only [V.str.injEq, V.int.injEq, V.bl.injEq])
    refine ⟨fun h => ?_, fun h3 => ?_⟩
    · obtain rfl : i = 3 := by omega
      cases b <;> ((try simp only [x_asg, x_mkV, x_value, x_lcR1, x_lcL, List.map_cons, List.map_nil, x_yes, x_wipe0, x_wipeS, x_name, x_sub, x_ret, x_next, x_ifS, x_ite, x_iteN, x_T, x_F, x_tT, x_tF, x_op, x_un, x_var0, x_varS, x_c, x_I0, x_I, x_rU, x_nil, x_cons, x_test, x_B, x_bl, x_call, x_CB, x_tup, x_lst, x_not, x_Eq, x_Ne, x_eqII, x_eqSS, x_eqBB,  x_and, x_or, x_andV, x_orV, x_notV, x_if, x_par, x_two, x_drop, x_BM, x_set0, x_setS, x_gcons, x_gnil, x_forL, x_forT, x_forR1, x_forR2, x_forE, x_ref, x_int1, x_oneI, x_oneB, x_noBI, x_twoI, false_or, x_sl, x_noP, x_part, true_and, List.append_nil, cxK, cxKn]; try simp only [V.str.injEq, V.int.injEq, V.bl.injEq]); exact mk_q q)
    refine x_seq.mpr ?_
    (try simp only [x_asg, x_mkV, x_value, x_lcR1, x_lcL, List.map_cons, List.map_nil, x_yes, x_wipe0, x_wipeS, x_name, x_sub, x_ret, x_next, x_ifS, x_ite, x_iteN, x_T, x_F, x_tT, x_tF, x_op, x_un, x_var0, x_varS, x_c, x_I0, x_I, x_rU, x_nil, x_cons, x_test, x_B, x_bl, x_call, x_CB, x_tup, x_lst, x_not, x_Eq, x_Ne, x_eqII, x_eqSS, x_eqBB,  x_and, x_or, x_andV, x_orV, x_notV, x_if, x_par, x_two, x_drop, x_BM, x_set0, x_setS, x_gcons, x_gnil, x_forL, x_forT, x_forR1, x_forR2, x_forE, x_ref, x_int1, x_oneI, x_oneB, x_noBI, x_twoI, false_or, x_sl, x_noP, x_part, true_and, List.append_nil, cxK, cxKn]; try simp only [V.str.injEq, V.int.injEq, V.bl.injEq])
    refine ⟨fun h => ?_, fun h4 => ?_⟩
    · obtain rfl : i = 4 := by omega
      cases b <;> ((try simp only [x_asg, x_mkV, x_value, x_lcR1, x_lcL, List.map_cons, List.map_nil, x_yes, x_wipe0, x_wipeS, x_name, x_sub, x_ret, x_next, x_ifS, x_ite, x_iteN, x_T, x_F, x_tT, x_tF, x_op, x_un, x_var0, x_varS, x_c, x_I0, x_I, x_rU, x_nil, x_cons, x_test, x_B, x_bl, x_call, x_CB, x_tup, x_lst, x_not, x_Eq, x_Ne, x_eqII, x_eqSS, x_eqBB,  x_and, x_or, x_andV, x_orV, x_notV, x_if, x_par, x_two, x_drop, x_BM, x_set0, x_setS, x_gcons, x_gnil, x_forL, x_forT, x_forR1, x_forR2, x_forE, x_ref, x_int1, x_oneI, x_oneB, x_noBI, x_twoI, false_or, x_sl, x_noP, x_part, true_and, List.append_nil, cxK, cxKn]; try simp only [V.str.injEq, V.int.injEq, V.bl.injEq]); exact mk_q q)
    refine x_seq.mpr ?_
    (try simp only [x_asg, x_mkV, x_value, x_lcR1, x_lcL, List.map_cons, List.map_nil, x_yes, x_wipe0, x_wipeS, x_name, x_sub, x_ret, x_next, x_ifS, x_ite, x_iteN, x_T, x_F, x_tT, x_tF, x_op, x_un, x_var0, x_varS, x_c, x_I0, x_I, x_rU, x_nil, x_cons, x_test, x_B, x_bl, x_call, x_CB, x_tup, x_lst, x_not, x_Eq, x_Ne, x_eqII, x_eqSS, x_eqBB,  x_and, x_or, x_andV, x_orV, x_notV, x_if, x_par, x_two, x_drop, x_BM, x_set0, x_setS, x_gcons, x_gnil, x_forL, x_forT, x_forR1, x_forR2, x_forE, x_ref, x_int1, x_oneI, x_oneB, x_noBI, x_twoI, false_or, x_sl, x_noP, x_part, true_and, List.append_nil, cxK, cxKn]; try simp only [V.str.injEq, V.int.injEq, V.bl.injEq])
    refine ⟨fun h => ?_, fun h5 => ?_⟩
    · obtain rfl : i = 5 := by omega
      cases b <;> ((try simp only [x_asg, x_mkV, x_value, x_lcR1, x_lcL, List.map_cons, List.map_nil, x_yes, x_wipe0, x_wipeS, x_name, x_sub, x_ret, x_next, x_ifS, x_ite, x_iteN, x_T, x_F, x_tT, x_tF, x_op, x_un, x_var0, x_varS, x_c, x_I0, x_I, x_rU, x_nil, x_cons, x_test, x_B, x_bl, x_call, x_CB, x_tup, x_lst, x_not, x_Eq, x_Ne, x_eqII, x_eqSS, x_eqBB,  x_and, x_or, x_andV, x_orV, x_notV, x_if, x_par, x_two, x_drop, x_BM, x_set0, x_setS, x_gcons, x_gnil, x_forL, x_forT, x_forR1, x_forR2, x_forE, x_ref, x_int1, x_oneI, x_oneB, x_noBI, x_twoI, false_or, x_sl, x_noP, x_part, true_and, List.append_nil, cxK, cxKn]; try simp only [V.str.injEq, V.int.injEq, V.bl.injEq]); exact mk_q q)
    obtain rfl : i = 6 := by omega
    cases b <;> ((try simp only [x_asg, x_mkV, x_value, x_lcR1, x_lcL, List.map_cons, List.map_nil, x_yes, x_wipe0, x_wipeS, x_name, x_sub, x_ret, x_next, x_ifS, x_ite, x_iteN, x_T, x_F, x_tT, x_tF, x_op, x_un, x_var0, x_varS, x_c, x_I0, x_I, x_rU, x_nil, x_cons, x_test, x_B, x_bl, x_call, x_CB, x_tup, x_lst, x_not, x_Eq, x_Ne, x_eqII, x_eqSS, x_eqBB,  x_and, x_or, x_andV, x_orV, x_notV, x_if, x_par, x_two, x_drop, x_BM, x_set0, x_setS, x_gcons, x_gnil, x_forL, x_forT, x_forR1, x_forR2, x_forE, x_ref, x_int1, x_oneI, x_oneB, x_noBI, x_twoI, false_or, x_sl, x_noP, x_part, true_and, List.append_nil, cxK, cxKn]; try simp only [V.str.injEq, V.int.injEq, V.bl.injEq]); exact mk_q q)
/-- data that repr shows -/
def Good (K : PySem.W.Frag) (H : Hp) (v : V) : Prop := ∃ d, Dp K H v d ∧ Rok d
theorem Good.same {H H' : Hp} {v : V} (e : Same H H') (h : Good K H v) : Good K H' v := by
  obtain ⟨d, h1, h2⟩ := h
  exact ⟨d, Dp.same e d h1, h2⟩
def spLaw (K : PySem.W.Frag) : Sp := fun vs H Q _ => ∃ (a : Addr) (ns : List Int), vs = [.ref a] ∧ SqL K H a (ns.map V.int) ∧ ns.length ≤ 63 ∧ ∀ H', Q (.bl true) H'
theorem p_law (Y : Cls P w K mg base C fI fd C0) (m_range : mg "range" = none) (m_min : mg "min" = none) (m_len : mg "len" = none) (m_repr : mg "repr" = none) (m_isinstance : mg "isinstance" = none) (m_ValueError : mg "ValueError" = none)
    (h__law_rng : Pr P w K mg base CX0 1 "_law_rng" ["script"] (spRng K)) (h__law_draw : Pr P w K mg base CX0 1 "_law_draw" ["rng", "limit"] spDraw)
    (h__law_flags : Pr P w K mg base CX0 2 "_law_flags" ["error"] (spFlags K C)) (h__law_made : Pr P w K mg base CX0 3 "_law_made" ["number", "what", "by_name"] (spMade K C)) :
    PrAt P w K mg base CX0 5 "law" s_law ["script"] (spLaw K) := by
  refine mkA sc_law (fun vs H Q E h => ?_) (fun f cdv A outer s H vs Q E hG hr h => ?_)
  · obtain ⟨_, _, rfl, _⟩ := h
    rfl
  · obtain ⟨a, ns, rfl, hS, hlen, q⟩ := h
    have nd := sc_law.nd
    refine ⟨_, (pss_cons (ps_set (i := 1) nd rfl (.inl rfl) (pe_P h__law_rng hr hG (by rfl) (pa_cons (pv 0) pa_nil))) (pss_cons (ps_for PassesOwn.never rfl (pi_range1 rfl m_range (pa_cons (pe_op op_add pe_int (pe_callB (call_min2 rfl) (by rfl) m_min (by decide +kernel) (pa_cons pe_int (pa_cons (pe_callB call_len_seq (by rfl) m_len (by decide +kernel) (pa_cons (pv 0) pa_nil)) pa_nil)))) pa_nil)) (pg_name (i := 2) nd rfl (.inl rfl)) (pss_cons (ps_set (i := 3) nd rfl (.inl rfl) (pe_P h__law_draw hr hG (by rfl) (pa_cons (pv 1) (pa_cons (pe_op op_powX pe_int pe_int) pa_nil)))) (pss_one (ps_for PassesOwn.never rfl (pi_list (pe_lst (pa_cons pe_int (pa_cons (pv 3) (pa_cons (pe_op op_sub pe_int (pv 3)) (pa_cons pe_non (pa_cons pe_str (pa_cons (pe_op op_repS pe_str (pe_P h__law_draw hr hG (by rfl) (pa_cons (pv 1) (pa_cons pe_int pa_nil)))) (pa_cons (pe_tup (pa_cons (pv 3) (pa_cons pe_int pa_nil))) (pa_cons (pe_lst (pa_cons (pv 3) pa_nil)) pa_nil)))))))))) (pg_name (i := 4) nd rfl (.inl rfl)) (pss_one (ps_for PassesOwn.never rfl (pi_range1 rfl m_range (pa_cons pe_int pa_nil)) (pg_name (i := 5) nd rfl (.inr rfl)) (pss_one (ps_for PassesOwn.never rfl (pi_list (pe_lst (pa_cons pe_bl (pa_cons pe_bl pa_nil)))) (pg_name (i := 6) nd rfl (.inl rfl)) (pss_cons (ps_set (i := 7) nd rfl (.inl rfl) (pe_P h__law_made hr hG (by rfl) (pa_cons (pv 5) (pa_cons (pv 4) (pa_cons (pv 6) pa_nil))))) (pss_cons (ps_if (pt_cmpR (op_neD hr.units) (pe_P h__law_flags hr hG (by rfl) (pa_cons (pv 7) pa_nil)) (pe_lc (own := [("place", 8)]) (g := gName 8) (by rfl) nd (pi_range1 rfl m_range (pa_cons pe_int pa_nil)) (blkOk_by (own := [("place", 8)]) (N := ["script", "rng", "lap", "far", "what", "number", "by_name", "error", "place"]) (sc := defScope s_law) (by decide +kernel)) (fun _ _ _ _ _ => (pg_name (i := 8) nd rfl (.inl rfl))) (fun _ _ _ _ _ => pts_nil) (fun _ _ _ _ _ => (pe_cmpR op_eq (pv 8) (pv 5) (nomark _)))) (nomark _)) (pss_one (ps_ret pe_bl)) pss_nil) (pss_cons (ps_if (PW.pt (pw_or (pt_not (pt_val (pe_callB cr_isX (by rfl) m_isinstance (by decide +kernel) (pa_cons (pv 7) (pa_cons (pe_glob (v := .ref C0) (by rfl) Y.g0 rfl) pa_nil))))) (pw_or1 (pt_not (pt_val (pe_callB cr_isX (by rfl) m_isinstance (by decide +kernel) (pa_cons (pv 7) (pa_cons (pe_bltn (v := .ty "ValueError") (by rfl) m_ValueError (by decide +kernel) rfl) pa_nil)))))))) (pss_one (ps_ret pe_bl)) pss_nil) (pss_one (ps_if (pt_cmpR op_ne (pe_callB (cr_repD hG hr.units) (by rfl) m_repr (by decide +kernel) (pa_cons (pe_value (pv 7)) pa_nil)) (pe_callB (cr_repD hG hr.units) (by rfl) m_repr (by decide +kernel) (pa_cons (pv 4) pa_nil)) (nomark _)) (pss_one (ps_ret pe_bl)) pss_nil))))))))))))) (pss_one (ps_ret pe_bl)))), ?_⟩
    show (tSeq _ _) _ [some (V.ref a), none, none, none, none, none, none, none, none] H
    refine x_seq.mpr ?_
    (try simp only [x_asg, x_mkV, x_value, x_lcR1, x_lcL, List.map_cons, List.map_nil, x_yes, x_wipe0, x_wipeS, x_name, x_sub, x_ret, x_next, x_ifS, x_ite, x_iteN, x_T, x_F, x_tT, x_tF, x_op, x_un, x_var0, x_varS, x_c, x_I0, x_I, x_rU, x_nil, x_cons, x_test, x_B, x_bl, x_call, x_CB, x_tup, x_lst, x_not, x_Eq, x_Ne, x_eqII, x_eqSS, x_eqBB,  x_and, x_or, x_andV, x_orV, x_notV, x_if, x_par, x_two, x_drop, x_BM, x_set0, x_setS, x_gcons, x_gnil, x_forL, x_forT, x_forR1, x_forR2, x_forE, x_ref, x_int1, x_oneI, x_oneB, x_noBI, x_twoI, false_or, x_sl, x_noP, x_part, true_and, List.append_nil, cxK, cxKn]; try simp only [V.str.injEq, V.int.injEq, V.bl.injEq])
    refine ⟨a, ns, rfl, hS, hlen, fun r H1 nr R1 s1 => ?_⟩
    refine x_seq.mpr ?_
    (try simp only [x_asg, x_mkV, x_value, x_lcR1, x_lcL, List.map_cons, List.map_nil, x_yes, x_wipe0, x_wipeS, x_name, x_sub, x_ret, x_next, x_ifS, x_ite, x_iteN, x_T, x_F, x_tT, x_tF, x_op, x_un, x_var0, x_varS, x_c, x_I0, x_I, x_rU, x_nil, x_cons, x_test, x_B, x_bl, x_call, x_CB, x_tup, x_lst, x_not, x_Eq, x_Ne, x_eqII, x_eqSS, x_eqBB,  x_and, x_or, x_andV, x_orV, x_notV, x_if, x_par, x_two, x_drop, x_BM, x_set0, x_setS, x_gcons, x_gnil, x_forL, x_forT, x_forR1, x_forR2, x_forE, x_ref, x_int1, x_oneI, x_oneB, x_noBI, x_twoI, false_or, x_sl, x_noP, x_part, true_and, List.append_nil, cxK, cxKn]; try simp only [V.str.injEq, V.int.injEq, V.bl.injEq])
    refine ⟨a, _, rfl, .inl (s1.seq hS), ?_⟩
    (try simp only [x_asg, x_mkV, x_value, x_lcR1, x_lcL, List.map_cons, List.map_nil, x_yes, x_wipe0, x_wipeS, x_name, x_sub, x_ret, x_next, x_ifS, x_ite, x_iteN, x_T, x_F, x_tT, x_tF, x_op, x_un, x_var0, x_varS, x_c, x_I0, x_I, x_rU, x_nil, x_cons, x_test, x_B, x_bl, x_call, x_CB, x_tup, x_lst, x_not, x_Eq, x_Ne, x_eqII, x_eqSS, x_eqBB,  x_and, x_or, x_andV, x_orV, x_notV, x_if, x_par, x_two, x_drop, x_BM, x_set0, x_setS, x_gcons, x_gnil, x_forL, x_forT, x_forR1, x_forR2, x_forE, x_ref, x_int1, x_oneI, x_oneB, x_noBI, x_twoI, false_or, x_sl, x_noP, x_part, true_and, List.append_nil, cxK, cxKn]; try simp only [V.str.injEq, V.int.injEq, V.bl.injEq])
    refine ⟨by split <;> omega, by split <;> omega, ?_⟩
    refine lpR (fun i σ H' => (∃ y2 y3 y4 y5 y6 y7 y8, σ = [some (.ref a), some (.ref r), y2, y3, y4, y5, y6, y7, y8]) ∧ RngAt H' r (i * 2)) ⟨⟨_, _, _, _, _, _, _, rfl⟩, R1⟩ (fun i σ H' hi h => ?_) (fun σ H' h => ?_)
    · obtain ⟨⟨y2, y3, y4, y5, y6, y7, y8, rfl⟩, R⟩ := h
      have hi8 : i < 9 := by
        revert hi
        split <;> omega
      (try simp only [x_asg, x_mkV, x_value, x_lcR1, x_lcL, List.map_cons, List.map_nil, x_yes, x_wipe0, x_wipeS, x_name, x_sub, x_ret, x_next, x_ifS, x_ite, x_iteN, x_T, x_F, x_tT, x_tF, x_op, x_un, x_var0, x_varS, x_c, x_I0, x_I, x_rU, x_nil, x_cons, x_test, x_B, x_bl, x_call, x_CB, x_tup, x_lst, x_not, x_Eq, x_Ne, x_eqII, x_eqSS, x_eqBB,  x_and, x_or, x_andV, x_orV, x_notV, x_if, x_par, x_two, x_drop, x_BM, x_set0, x_setS, x_gcons, x_gnil, x_forL, x_forT, x_forR1, x_forR2, x_forE, x_ref, x_int1, x_oneI, x_oneB, x_noBI, x_twoI, false_or, x_sl, x_noP, x_part, true_and, List.append_nil, cxK, cxKn]; try simp only [V.str.injEq, V.int.injEq, V.bl.injEq])
      refine x_seq.mpr ?_
      (try simp only [x_asg, x_mkV, x_value, x_lcR1, x_lcL, List.map_cons, List.map_nil, x_yes, x_wipe0, x_wipeS, x_name, x_sub, x_ret, x_next, x_ifS, x_ite, x_iteN, x_T, x_F, x_tT, x_tF, x_op, x_un, x_var0, x_varS, x_c, x_I0, x_I, x_rU, x_nil, x_cons, x_test, x_B, x_bl, x_call, x_CB, x_tup, x_lst, x_not, x_Eq, x_Ne, x_eqII, x_eqSS, x_eqBB,  x_and, x_or, x_andV, x_orV, x_notV, x_if, x_par, x_two, x_drop, x_BM, x_set0, x_setS, x_gcons, x_gnil, x_forL, x_forT, x_forR1, x_forR2, x_forE, x_ref, x_int1, x_oneI, x_oneB, x_noBI, x_twoI, false_or, x_sl, x_noP, x_part, true_and, List.append_nil, cxK, cxKn]; try simp only [V.str.injEq, V.int.injEq, V.bl.injEq])
      refine ⟨⟨by decide, by decide, pow_ok (by decide) (by decide)⟩, ?_⟩
      refine ⟨r, _, _, rfl, R, by omega, by decide, by decide, fun far H2 f0 f1 R2 o2 => ?_⟩
      (try simp only [x_asg, x_mkV, x_value, x_lcR1, x_lcL, List.map_cons, List.map_nil, x_yes, x_wipe0, x_wipeS, x_name, x_sub, x_ret, x_next, x_ifS, x_ite, x_iteN, x_T, x_F, x_tT, x_tF, x_op, x_un, x_var0, x_varS, x_c, x_I0, x_I, x_rU, x_nil, x_cons, x_test, x_B, x_bl, x_call, x_CB, x_tup, x_lst, x_not, x_Eq, x_Ne, x_eqII, x_eqSS, x_eqBB,  x_and, x_or, x_andV, x_orV, x_notV, x_if, x_par, x_two, x_drop, x_BM, x_set0, x_setS, x_gcons, x_gnil, x_forL, x_forT, x_forR1, x_forR2, x_forE, x_ref, x_int1, x_oneI, x_oneB, x_noBI, x_twoI, false_or, x_sl, x_noP, x_part, true_and, List.append_nil, cxK, cxKn]; try simp only [V.str.injEq, V.int.injEq, V.bl.injEq])
      refine ⟨r, _, _, rfl, R2, by omega, by decide, by decide, fun k H3 k0 k1 R3 o3 => ?_⟩
      (try simp only [x_asg, x_mkV, x_value, x_lcR1, x_lcL, List.map_cons, List.map_nil, x_yes, x_wipe0, x_wipeS, x_name, x_sub, x_ret, x_next, x_ifS, x_ite, x_iteN, x_T, x_F, x_tT, x_tF, x_op, x_un, x_var0, x_varS, x_c, x_I0, x_I, x_rU, x_nil, x_cons, x_test, x_B, x_bl, x_call, x_CB, x_tup, x_lst, x_not, x_Eq, x_Ne, x_eqII, x_eqSS, x_eqBB,  x_and, x_or, x_andV, x_orV, x_notV, x_if, x_par, x_two, x_drop, x_BM, x_set0, x_setS, x_gcons, x_gnil, x_forL, x_forT, x_forR1, x_forR2, x_forE, x_ref, x_int1, x_oneI, x_oneB, x_noBI, x_twoI, false_or, x_sl, x_noP, x_part, true_and, List.append_nil, cxK, cxKn]; try simp only [V.str.injEq, V.int.injEq, V.bl.injEq])
      refine x_repS k0 (by omega) (by decide) fun z hz1 hz2 => ?_
      (try simp only [x_asg, x_mkV, x_value, x_lcR1, x_lcL, List.map_cons, List.map_nil, x_yes, x_wipe0, x_wipeS, x_name, x_sub, x_ret, x_next, x_ifS, x_ite, x_iteN, x_T, x_F, x_tT, x_tF, x_op, x_un, x_var0, x_varS, x_c, x_I0, x_I, x_rU, x_nil, x_cons, x_test, x_B, x_bl, x_call, x_CB, x_tup, x_lst, x_not, x_Eq, x_Ne, x_eqII, x_eqSS, x_eqBB,  x_and, x_or, x_andV, x_orV, x_notV, x_if, x_par, x_two, x_drop, x_BM, x_set0, x_setS, x_gcons, x_gnil, x_forL, x_forT, x_forR1, x_forR2, x_forE, x_ref, x_int1, x_oneI, x_oneB, x_noBI, x_twoI, false_or, x_sl, x_noP, x_part, true_and, List.append_nil, cxK, cxKn]; try simp only [V.str.injEq, V.int.injEq, V.bl.injEq])
      refine ⟨by show 2 ≤ sizeLine; decide, fun p4 np4 => ⟨by show 1 ≤ sizeLine; decide, fun p5 np5 => ⟨by show 8 ≤ sizeLine; decide, fun p6 np6 => ?_⟩⟩⟩
      have s4 := same_new (o := .tup [.int far, .int 1]) np4
      have s5 := same_new (o := .lst [.int far]) np5
      have h4 := s5 _ _ (upd_same (H := H3) (a := p4) (o := .tup [.int far, .int 1]))
      have h5 : upd (upd H3 p4 (.tup [.int far, .int 1])) p5 (.lst [.int far]) p5 = some (.lst [.int far]) := upd_same
      have R5 := (R3.same s4).same s5
      generalize upd (upd H3 p4 (.tup [.int far, .int 1])) p5 (.lst [.int far]) = H5 at h4 h5 R5 np6 ⊢
      have f4 : far.natAbs < 10 ^ 500 := nat_abs_lt (Int.lt_of_lt_of_le (by decide) f0) (Int.lt_trans f1 (by decide))
      have e4 : (0 : Nat) < 10 ^ 500 := by decide +kernel
      have g4 : (0 - far).natAbs < 10 ^ 500 := by rw [Int.zero_sub, Int.natAbs_neg]; exact f4
      have good : ∀ x ∈ [V.int 0, .int far, .int (0 - far), .non, .str "", .str z, .ref p4, .ref p5], Good K (upd H5 p6 (.lst [.int 0, .int far, .int (0 - far), .non, .str "", .str z, .ref p4, .ref p5])) x := by
        intro x hx
        have s6 := same_new (o := .lst [.int 0, .int far, .int (0 - far), .non, .str "", .str z, .ref p4, .ref p5]) np6
        simp only [List.mem_cons, List.not_mem_nil, or_false] at hx
        rcases hx with rfl | rfl | rfl | rfl | rfl | rfl | rfl | rfl
        · exact ⟨_, .int 0, rok_of (by simp [smallD, smallL, f4, g4, e4]) (by simp [PyData.depth, PyData.depthAll]) (by simp [PyData.bulk, PyData.bulkAll])⟩
        · exact ⟨_, .int far, rok_of (by simp [smallD, smallL, f4, g4, e4]) (by simp [PyData.depth, PyData.depthAll]) (by simp [PyData.bulk, PyData.bulkAll])⟩
        · exact ⟨_, .int (0 - far), rok_of (by simp [smallD, smallL, f4, g4, e4]) (by simp [PyData.depth, PyData.depthAll]) (by simp [PyData.bulk, PyData.bulkAll])⟩
        · exact ⟨_, .non, rok_of (by simp [smallD, smallL, f4, g4, e4]) (by simp [PyData.depth, PyData.depthAll]) (by simp [PyData.bulk, PyData.bulkAll])⟩
        · exact ⟨_, .str "", rok_of (by simp only [smallD]; decide) (by decide) (by decide)⟩
        · refine ⟨_, .str z, rok_of (by simp only [smallD]; intro c hc; exact (show ∀ c ∈ ("u8" : Str).cps.toList, c < 16 ^ 8 by decide) c (hz2 c hc)) (by simp [PyData.depth]) ?_⟩
          simp only [PyData.bulk]
          show z.length ≤ 20000
          have : ("u8" : Str).length = 2 := by decide
          rw [this] at hz1
          omega
        · exact ⟨.tuple [.int far, .int 1], .tup (SqT.of (s6 _ _ h4)) (.cons (.int far) (.cons (.int 1) .nil)), rok_of (by simp [smallD, smallL, f4, g4, e4]) (by simp [PyData.depth, PyData.depthAll]) (by simp [PyData.bulk, PyData.bulkAll])⟩
        · exact ⟨.list [.int far], .lst (SqL.of (s6 _ _ h5)) (.cons (.int far) .nil), rok_of (by simp [smallD, smallL, f4, g4, e4]) (by simp [PyData.depth, PyData.depthAll]) (by simp [PyData.bulk, PyData.bulkAll])⟩
      have R6 := R5.new (o := .lst [.int 0, .int far, .int (0 - far), .non, .str "", .str z, .ref p4, .ref p5]) np6
      have h6 : upd H5 p6 (.lst [.int 0, .int far, .int (0 - far), .non, .str "", .str z, .ref p4, .ref p5]) p6 = some (.lst [.int 0, .int far, .int (0 - far), .non, .str "", .str z, .ref p4, .ref p5]) := upd_same
      generalize [V.int 0, .int far, .int (0 - far), .non, .str "", .str z, .ref p4, .ref p5] = xs at good R6 h6 ⊢
      generalize upd H5 p6 (.lst xs) = HW at good R6 h6 ⊢
      refine ⟨⟨_, SqL.of h6⟩, ?_⟩
      refine lpL (xs := xs) (fun _ σ H' => (∃ y4 y5 y6 y7 y8, σ = [some (.ref a), some (.ref r), some (.int (0 + i)), some (.int far), y4, y5, y6, y7, y8]) ∧ Same HW H') ⟨⟨_, _, _, _, _, rfl⟩, Same.refl _⟩ (fun _ σ H' _ h => .of (h.2 _ _ h6)) (fun k x σ H' hx h => ?_) (fun σ H' h => ?_)
      · have gx := good x (List.mem_of_getElem? hx)
        obtain ⟨⟨y4, y5, y6, y7, y8, rfl⟩, sW⟩ := h
        (try simp only [x_asg, x_mkV, x_value, x_lcR1, x_lcL, List.map_cons, List.map_nil, x_yes, x_wipe0, x_wipeS, x_name, x_sub, x_ret, x_next, x_ifS, x_ite, x_iteN, x_T, x_F, x_tT, x_tF, x_op, x_un, x_var0, x_varS, x_c, x_I0, x_I, x_rU, x_nil, x_cons, x_test, x_B, x_bl, x_call, x_CB, x_tup, x_lst, x_not, x_Eq, x_Ne, x_eqII, x_eqSS, x_eqBB,  x_and, x_or, x_andV, x_orV, x_notV, x_if, x_par, x_two, x_drop, x_BM, x_set0, x_setS, x_gcons, x_gnil, x_forL, x_forT, x_forR1, x_forR2, x_forE, x_ref, x_int1, x_oneI, x_oneB, x_noBI, x_twoI, false_or, x_sl, x_noP, x_part, true_and, List.append_nil, cxK, cxKn]; try simp only [V.str.injEq, V.int.injEq, V.bl.injEq])
        refine ⟨by decide, by decide, ?_⟩
        refine lpR (fun _ σ H' => (∃ y5 y6 y7 y8, σ = [some (.ref a), some (.ref r), some (.int (0 + i)), some (.int far), some x, y5, y6, y7, y8]) ∧ Same HW H') ⟨⟨_, _, _, _, rfl⟩, sW⟩ (fun j σ H' hj h => ?_) (fun σ H' h => ?_)
        · obtain ⟨⟨y5, y6, y7, y8, rfl⟩, sW⟩ := h
          have hj7 : j < 7 := hj
          rw [Int.zero_add]
          (try simp only [x_asg, x_mkV, x_value, x_lcR1, x_lcL, List.map_cons, List.map_nil, x_yes, x_wipe0, x_wipeS, x_name, x_sub, x_ret, x_next, x_ifS, x_ite, x_iteN, x_T, x_F, x_tT, x_tF, x_op, x_un, x_var0, x_varS, x_c, x_I0, x_I, x_rU, x_nil, x_cons, x_test, x_B, x_bl, x_call, x_CB, x_tup, x_lst, x_not, x_Eq, x_Ne, x_eqII, x_eqSS, x_eqBB,  x_and, x_or, x_andV, x_orV, x_notV, x_if, x_par, x_two, x_drop, x_BM, x_set0, x_setS, x_gcons, x_gnil, x_forL, x_forT, x_forR1, x_forR2, x_forE, x_ref, x_int1, x_oneI, x_oneB, x_noBI, x_twoI, false_or, x_sl, x_noP, x_part, true_and, List.append_nil, cxK, cxKn]; try simp only [V.str.injEq, V.int.injEq, V.bl.injEq])
          refine ⟨by show 2 ≤ sizeLine; decide, fun p7 np7 => ?_⟩
          refine ⟨⟨_, SqL.of upd_same⟩, ?_⟩
          refine lpL (xs := [.bl false, .bl true]) (fun _ σ H' => (∃ y6 y7 y8, σ = [some (.ref a), some (.ref r), some (.int (0 + i)), some (.int far), some x, some (.int j), y6, y7, y8]) ∧ Same HW H' ∧ H' p7 = some (.lst [.bl false, .bl true])) ⟨⟨_, _, _, rfl⟩, sW.trans (same_new np7), upd_same⟩ (fun _ σ H' _ h => .of h.2.2) (fun k b σ H' hb h => ?_) (fun σ H' h => ?_)
          · obtain ⟨⟨y6, y7, y8, rfl⟩, sW, h7⟩ := h
            obtain ⟨b, rfl⟩ : ∃ c, b = V.bl c := by
              have := List.mem_of_getElem? hb
              simp only [List.mem_cons, List.not_mem_nil, or_false] at this
              rcases this with rfl | rfl <;> exact ⟨_, rfl⟩
            (try simp only [x_asg, x_mkV, x_value, x_lcR1, x_lcL, List.map_cons, List.map_nil, x_yes, x_wipe0, x_wipeS, x_name, x_sub, x_ret, x_next, x_ifS, x_ite, x_iteN, x_T, x_F, x_tT, x_tF, x_op, x_un, x_var0, x_varS, x_c, x_I0, x_I, x_rU, x_nil, x_cons, x_test, x_B, x_bl, x_call, x_CB, x_tup, x_lst, x_not, x_Eq, x_Ne, x_eqII, x_eqSS, x_eqBB,  x_and, x_or, x_andV, x_orV, x_notV, x_if, x_par, x_two, x_drop, x_BM, x_set0, x_setS, x_gcons, x_gnil, x_forL, x_forT, x_forR1, x_forR2, x_forE, x_ref, x_int1, x_oneI, x_oneB, x_noBI, x_twoI, false_or, x_sl, x_noP, x_part, true_and, List.append_nil, cxK, cxKn]; try simp only [V.str.injEq, V.int.injEq, V.bl.injEq])
            refine x_seq.mpr ?_
            (try simp only [x_asg, x_mkV, x_value, x_lcR1, x_lcL, List.map_cons, List.map_nil, x_yes, x_wipe0, x_wipeS, x_name, x_sub, x_ret, x_next, x_ifS, x_ite, x_iteN, x_T, x_F, x_tT, x_tF, x_op, x_un, x_var0, x_varS, x_c, x_I0, x_I, x_rU, x_nil, x_cons, x_test, x_B, x_bl, x_call, x_CB, x_tup, x_lst, x_not, x_Eq, x_Ne, x_eqII, x_eqSS, x_eqBB,  x_and, x_or, x_andV, x_orV, x_notV, x_if, x_par, x_two, x_drop, x_BM, x_set0, x_setS, x_gcons, x_gnil, x_forL, x_forT, x_forR1, x_forR2, x_forE, x_ref, x_int1, x_oneI, x_oneB, x_noBI, x_twoI, false_or, x_sl, x_noP, x_part, true_and, List.append_nil, cxK, cxKn]; try simp only [V.str.injEq, V.int.injEq, V.bl.injEq])
            refine ⟨j, x, b, rfl, hj7, fun e H8 ne8 s8 E8 => ?_⟩
            (try simp only [x_asg, x_mkV, x_value, x_lcR1, x_lcL, List.map_cons, List.map_nil, x_yes, x_wipe0, x_wipeS, x_name, x_sub, x_ret, x_next, x_ifS, x_ite, x_iteN, x_T, x_F, x_tT, x_tF, x_op, x_un, x_var0, x_varS, x_c, x_I0, x_I, x_rU, x_nil, x_cons, x_test, x_B, x_bl, x_call, x_CB, x_tup, x_lst, x_not, x_Eq, x_Ne, x_eqII, x_eqSS, x_eqBB,  x_and, x_or, x_andV, x_orV, x_notV, x_if, x_par, x_two, x_drop, x_BM, x_set0, x_setS, x_gcons, x_gnil, x_forL, x_forT, x_forR1, x_forR2, x_forE, x_ref, x_int1, x_oneI, x_oneB, x_noBI, x_twoI, false_or, x_sl, x_noP, x_part, true_and, List.append_nil, cxK, cxKn]; try simp only [V.str.injEq, V.int.injEq, V.bl.injEq])
            refine x_seq.mpr ?_
            (try simp only [x_asg, x_mkV, x_value, x_lcR1, x_lcL, List.map_cons, List.map_nil, x_yes, x_wipe0, x_wipeS, x_name, x_sub, x_ret, x_next, x_ifS, x_ite, x_iteN, x_T, x_F, x_tT, x_tF, x_op, x_un, x_var0, x_varS, x_c, x_I0, x_I, x_rU, x_nil, x_cons, x_test, x_B, x_bl, x_call, x_CB, x_tup, x_lst, x_not, x_Eq, x_Ne, x_eqII, x_eqSS, x_eqBB,  x_and, x_or, x_andV, x_orV, x_notV, x_if, x_par, x_two, x_drop, x_BM, x_set0, x_setS, x_gcons, x_gnil, x_forL, x_forT, x_forR1, x_forR2, x_forE, x_ref, x_int1, x_oneI, x_oneB, x_noBI, x_twoI, false_or, x_sl, x_noP, x_part, true_and, List.append_nil, cxK, cxKn]; try simp only [V.str.injEq, V.int.injEq, V.bl.injEq])
            refine ⟨e, j, x, rfl, hj7, E8, fun p9 H9 np9 h9 s9 => ?_⟩
            (try simp only [x_asg, x_mkV, x_value, x_lcR1, x_lcL, List.map_cons, List.map_nil, x_yes, x_wipe0, x_wipeS, x_name, x_sub, x_ret, x_next, x_ifS, x_ite, x_iteN, x_T, x_F, x_tT, x_tF, x_op, x_un, x_var0, x_varS, x_c, x_I0, x_I, x_rU, x_nil, x_cons, x_test, x_B, x_bl, x_call, x_CB, x_tup, x_lst, x_not, x_Eq, x_Ne, x_eqII, x_eqSS, x_eqBB,  x_and, x_or, x_andV, x_orV, x_notV, x_if, x_par, x_two, x_drop, x_BM, x_set0, x_setS, x_gcons, x_gnil, x_forL, x_forT, x_forR1, x_forR2, x_forE, x_ref, x_int1, x_oneI, x_oneB, x_noBI, x_twoI, false_or, x_sl, x_noP, x_part, true_and, List.append_nil, cxK, cxKn]; try simp only [V.str.injEq, V.int.injEq, V.bl.injEq])
            refine ⟨by decide, by decide, fun p10 np10 => ?_⟩
            have bs : flags j = (List.range 7).map fun k : Nat => decide ((k : Int) = (j : Int)) := by
              refine List.map_congr_left fun k _ => ?_
              exact decide_eq_decide.mpr ⟨fun h => by omega, fun h => by omega⟩
            refine lcR (fun n H' => H' p10 = some (.lst (((List.range n).map fun k : Nat => decide ((k : Int) = (j : Int))).map V.bl)) ∧ n ≤ 7 ∧ Same H9 H') ⟨upd_same, by omega, same_new np10⟩ (fun n H' hn h => ?_) (fun H' h => ?_)
            · obtain ⟨h10, hn7, s10⟩ := h
              have hn' : n < 7 := hn
              rw [Int.zero_add]
              (try simp only [x_asg, x_mkV, x_value, x_lcR1, x_lcL, List.map_cons, List.map_nil, x_yes, x_wipe0, x_wipeS, x_name, x_sub, x_ret, x_next, x_ifS, x_ite, x_iteN, x_T, x_F, x_tT, x_tF, x_op, x_un, x_var0, x_varS, x_c, x_I0, x_I, x_rU, x_nil, x_cons, x_test, x_B, x_bl, x_call, x_CB, x_tup, x_lst, x_not, x_Eq, x_Ne, x_eqII, x_eqSS, x_eqBB,  x_and, x_or, x_andV, x_orV, x_notV, x_if, x_par, x_two, x_drop, x_BM, x_set0, x_setS, x_gcons, x_gnil, x_forL, x_forT, x_forR1, x_forR2, x_forE, x_ref, x_int1, x_oneI, x_oneB, x_noBI, x_twoI, false_or, x_sl, x_noP, x_part, true_and, List.append_nil, cxK, cxKn]; try simp only [V.str.injEq, V.int.injEq, V.bl.injEq])
              refine ⟨_, h10, ?_, ?_, by omega, same_mut s10 np10⟩
              · rw [List.length_map, List.length_map, List.length_range, sizeLine_eq]
                omega
              · rw [upd_same, List.range_succ, List.map_append, List.map_append]
                simp [x_dec]
            · obtain ⟨h10, hn7, s10⟩ := h
              have b1 := dpBools (K := K) (H := H') (flags j)
              have b2 := dpBools (K := K) (H := H') ((List.range 7).map fun k : Nat => decide ((k : Int) = (j : Int)))
              refine ⟨_, _, .lst (SqL.of (s10 _ _ h9)) b1, .lst (SqL.of h10) b2, by rfl, by rfl, ?_⟩
              rw [← bs, SeqAt.eqv_refl _ (by simp [flags, List.range, List.range.loop, PyData.canLay0, PyData.canLayAll0])]
              have E10 := (E8.same s9).same s10
              have S10 := ((sW.trans s8).trans s9).trans s10
              (try simp only [x_asg, x_mkV, x_value, x_lcR1, x_lcL, List.map_cons, List.map_nil, x_yes, x_wipe0, x_wipeS, x_name, x_sub, x_ret, x_next, x_ifS, x_ite, x_iteN, x_T, x_F, x_tT, x_tF, x_op, x_un, x_var0, x_varS, x_c, x_I0, x_I, x_rU, x_nil, x_cons, x_test, x_B, x_bl, x_call, x_CB, x_tup, x_lst, x_not, x_Eq, x_Ne, x_eqII, x_eqSS, x_eqBB,  x_and, x_or, x_andV, x_orV, x_notV, x_if, x_par, x_two, x_drop, x_BM, x_set0, x_setS, x_gcons, x_gnil, x_forL, x_forT, x_forR1, x_forR2, x_forE, x_ref, x_int1, x_oneI, x_oneB, x_noBI, x_twoI, false_or, x_sl, x_noP, x_part, true_and, List.append_nil, cxK, cxKn]; try simp only [V.str.injEq, V.int.injEq, V.bl.injEq])
              refine x_seq.mpr ?_
              (try simp only [x_asg, x_mkV, x_value, x_lcR1, x_lcL, List.map_cons, List.map_nil, x_yes, x_wipe0, x_wipeS, x_name, x_sub, x_ret, x_next, x_ifS, x_ite, x_iteN, x_T, x_F, x_tT, x_tF, x_op, x_un, x_var0, x_varS, x_c, x_I0, x_I, x_rU, x_nil, x_cons, x_test, x_B, x_bl, x_call, x_CB, x_tup, x_lst, x_not, x_Eq, x_Ne, x_eqII, x_eqSS, x_eqBB,  x_and, x_or, x_andV, x_orV, x_notV, x_if, x_par, x_two, x_drop, x_BM, x_set0, x_setS, x_gcons, x_gnil, x_forL, x_forT, x_forR1, x_forR2, x_forE, x_ref, x_int1, x_oneI, x_oneB, x_noBI, x_twoI, false_or, x_sl, x_noP, x_part, true_and, List.append_nil, cxK, cxKn]; try simp only [V.str.injEq, V.int.injEq, V.bl.injEq])
              refine x_isX Y E10 (Y.kit0 j hj7) ?_
              (try simp only [x_asg, x_mkV, x_value, x_lcR1, x_lcL, List.map_cons, List.map_nil, x_yes, x_wipe0, x_wipeS, x_name, x_sub, x_ret, x_next, x_ifS, x_ite, x_iteN, x_T, x_F, x_tT, x_tF, x_op, x_un, x_var0, x_varS, x_c, x_I0, x_I, x_rU, x_nil, x_cons, x_test, x_B, x_bl, x_call, x_CB, x_tup, x_lst, x_not, x_Eq, x_Ne, x_eqII, x_eqSS, x_eqBB,  x_and, x_or, x_andV, x_orV, x_notV, x_if, x_par, x_two, x_drop, x_BM, x_set0, x_setS, x_gcons, x_gnil, x_forL, x_forT, x_forR1, x_forR2, x_forE, x_ref, x_int1, x_oneI, x_oneB, x_noBI, x_twoI, false_or, x_sl, x_noP, x_part, true_and, List.append_nil, cxK, cxKn]; try simp only [V.str.injEq, V.int.injEq, V.bl.injEq])
              refine x_isV Y E10 (Y.kitV j hj7) ?_
              (try simp only [x_asg, x_mkV, x_value, x_lcR1, x_lcL, List.map_cons, List.map_nil, x_yes, x_wipe0, x_wipeS, x_name, x_sub, x_ret, x_next, x_ifS, x_ite, x_iteN, x_T, x_F, x_tT, x_tF, x_op, x_un, x_var0, x_varS, x_c, x_I0, x_I, x_rU, x_nil, x_cons, x_test, x_B, x_bl, x_call, x_CB, x_tup, x_lst, x_not, x_Eq, x_Ne, x_eqII, x_eqSS, x_eqBB,  x_and, x_or, x_andV, x_orV, x_notV, x_if, x_par, x_two, x_drop, x_BM, x_set0, x_setS, x_gcons, x_gnil, x_forL, x_forT, x_forR1, x_forR2, x_forE, x_ref, x_int1, x_oneI, x_oneB, x_noBI, x_twoI, false_or, x_sl, x_noP, x_part, true_and, List.append_nil, cxK, cxKn]; try simp only [V.str.injEq, V.int.injEq, V.bl.injEq])
              obtain ⟨d10, e1, e2⟩ := E10
              obtain ⟨dd, g1, g2⟩ := gx.same S10
              refine ⟨e, C j, d10, x, rfl, e1, e2, (Y.cls j).I, (Y.cls j).no, ?_⟩
              refine x_repD g1 g2 ?_
              (try simp only [x_asg, x_mkV, x_value, x_lcR1, x_lcL, List.map_cons, List.map_nil, x_yes, x_wipe0, x_wipeS, x_name, x_sub, x_ret, x_next, x_ifS, x_ite, x_iteN, x_T, x_F, x_tT, x_tF, x_op, x_un, x_var0, x_varS, x_c, x_I0, x_I, x_rU, x_nil, x_cons, x_test, x_B, x_bl, x_call, x_CB, x_tup, x_lst, x_not, x_Eq, x_Ne, x_eqII, x_eqSS, x_eqBB,  x_and, x_or, x_andV, x_orV, x_notV, x_if, x_par, x_two, x_drop, x_BM, x_set0, x_setS, x_gcons, x_gnil, x_forL, x_forT, x_forR1, x_forR2, x_forE, x_ref, x_int1, x_oneI, x_oneB, x_noBI, x_twoI, false_or, x_sl, x_noP, x_part, true_and, List.append_nil, cxK, cxKn]; try simp only [V.str.injEq, V.int.injEq, V.bl.injEq])
              refine x_repD g1 g2 ?_
              (try simp only [x_asg, x_mkV, x_value, x_lcR1, x_lcL, List.map_cons, List.map_nil, x_yes, x_wipe0, x_wipeS, x_name, x_sub, x_ret, x_next, x_ifS, x_ite, x_iteN, x_T, x_F, x_tT, x_tF, x_op, x_un, x_var0, x_varS, x_c, x_I0, x_I, x_rU, x_nil, x_cons, x_test, x_B, x_bl, x_call, x_CB, x_tup, x_lst, x_not, x_Eq, x_Ne, x_eqII, x_eqSS, x_eqBB,  x_and, x_or, x_andV, x_orV, x_notV, x_if, x_par, x_two, x_drop, x_BM, x_set0, x_setS, x_gcons, x_gnil, x_forL, x_forT, x_forR1, x_forR2, x_forE, x_ref, x_int1, x_oneI, x_oneB, x_noBI, x_twoI, false_or, x_sl, x_noP, x_part, true_and, List.append_nil, cxK, cxKn]; try simp only [V.str.injEq, V.int.injEq, V.bl.injEq])
              exact ⟨fun h => absurd trivial h, fun _ => ⟨⟨_, _, _, rfl⟩, S10, s10 _ _ (s9 _ _ (s8 _ _ h7))⟩⟩
          · obtain ⟨⟨y6, y7, y8, rfl⟩, sW, h7⟩ := h
            exact ⟨⟨_, _, _, _, rfl⟩, sW⟩
        · obtain ⟨⟨y5, y6, y7, y8, rfl⟩, sW⟩ := h
          exact ⟨⟨_, _, _, _, _, rfl⟩, sW⟩
      · obtain ⟨⟨y4, y5, y6, y7, y8, rfl⟩, sW⟩ := h
        refine ⟨⟨_, _, _, _, _, _, _, rfl⟩, ?_⟩
        exact (R6.same sW).up (by omega)
    · obtain ⟨⟨y2, y3, y4, y5, y6, y7, y8, rfl⟩, R⟩ := h
      (try simp only [x_asg, x_mkV, x_value, x_lcR1, x_lcL, List.map_cons, List.map_nil, x_yes, x_wipe0, x_wipeS, x_name, x_sub, x_ret, x_next, x_ifS, x_ite, x_iteN, x_T, x_F, x_tT, x_tF, x_op, x_un, x_var0, x_varS, x_c, x_I0, x_I, x_rU, x_nil, x_cons, x_test, x_B, x_bl, x_call, x_CB, x_tup, x_lst, x_not, x_Eq, x_Ne, x_eqII, x_eqSS, x_eqBB,  x_and, x_or, x_andV, x_orV, x_notV, x_if, x_par, x_two, x_drop, x_BM, x_set0, x_setS, x_gcons, x_gnil, x_forL, x_forT, x_forR1, x_forR2, x_forE, x_ref, x_int1, x_oneI, x_oneB, x_noBI, x_twoI, false_or, x_sl, x_noP, x_part, true_and, List.append_nil, cxK, cxKn]; try simp only [V.str.injEq, V.int.injEq, V.bl.injEq])
      exact q _
theorem all_pr (Y : Cls P w K mg base C fI fd C0) (T_rng : Tx K mg "_law_rng" s_law_rng) (T_draw : Tx K mg "_law_draw" s_law_draw) (T_flags : Tx K mg "_law_flags" s_law_flags) (T_made : Tx K mg "_law_made" s_law_made)
    (m_abs : mg "abs" = none) (m_range : mg "range" = none) (m_min : mg "min" = none) (m_len : mg "len" = none) (m_repr : mg "repr" = none) (m_isinstance : mg "isinstance" = none) (m_ValueError : mg "ValueError" = none) :
    PrAt P w K mg base CX0 5 "law" s_law ["script"] (spLaw K) :=
  p_law Y m_range m_min m_len m_repr m_isinstance m_ValueError (p_rng T_rng m_abs) (p_draw T_draw) (p_flags T_flags Y m_isinstance) (p_made T_made Y)
end

abbrev s_InvalidStep : Stmt := topS 2
theorem sc_InvalidStep : FnScope ["self", "value"] ["self", "value"] (defScope (inClass s_InvalidStep 0)) := ⟨rfl, rfl, rfl, by decide +kernel, rfl, by decide +kernel, by decide +kernel⟩
theorem ini_InvalidStep {P : Program} {w : World} {K : PySem.W.Frag} {mg : Str → Option Value} {base : Heap} {C f : Addr} {fd : FuncData} (F : Fun K "__init__" "InvalidStep.__init__" (inClass s_InvalidStep 0) f fd) (T : OexC K C) (no : PySem.W.findIn K (.ref C) "value" = some none) :
    FnOk P w K mg base CX0 1 f fd ["self", "value"] (spInit K C) := by
  refine F.ok sc_InvalidStep (fun vs H Q E h => ?_) (fun cdv A outer s H vs Q E hr h => ⟨_, pss_one (ps_ost (pv 0) (pv 1)), ?_⟩)
  · obtain ⟨_, _, rfl, _⟩ := h
    rfl
  · obtain ⟨a, v, rfl, ha, q⟩ := h
    exact ⟨v, rfl, .ref a, rfl, a, C, rfl, T, no, .inl ⟨ha, fun dx hn hne => q dx hn hne⟩⟩
theorem kw_InvalidStep {K : PySem.W.Frag} {f : Addr} {fd : FuncData} (F : Fun K "__init__" "InvalidStep.__init__" (inClass s_InvalidStep 0) f fd) (s : Shared) (u v : Value) : BindsTo s fd ⟨[u], [("value", v)]⟩ [("self", u), ("value", v)] := by
  obtain ⟨oc, od, kV, doc, pm, an, cdv, ct, osl, rfl, _, _⟩ := F.ex
  exact .of_eq rfl
abbrev s_InvalidForm : Stmt := topS 3
theorem sc_InvalidForm : FnScope ["self", "value"] ["self", "value"] (defScope (inClass s_InvalidForm 0)) := ⟨rfl, rfl, rfl, by decide +kernel, rfl, by decide +kernel, by decide +kernel⟩
theorem ini_InvalidForm {P : Program} {w : World} {K : PySem.W.Frag} {mg : Str → Option Value} {base : Heap} {C f : Addr} {fd : FuncData} (F : Fun K "__init__" "InvalidForm.__init__" (inClass s_InvalidForm 0) f fd) (T : OexC K C) (no : PySem.W.findIn K (.ref C) "value" = some none) :
    FnOk P w K mg base CX0 1 f fd ["self", "value"] (spInit K C) := by
  refine F.ok sc_InvalidForm (fun vs H Q E h => ?_) (fun cdv A outer s H vs Q E hr h => ⟨_, pss_one (ps_ost (pv 0) (pv 1)), ?_⟩)
  · obtain ⟨_, _, rfl, _⟩ := h
    rfl
  · obtain ⟨a, v, rfl, ha, q⟩ := h
    exact ⟨v, rfl, .ref a, rfl, a, C, rfl, T, no, .inl ⟨ha, fun dx hn hne => q dx hn hne⟩⟩
theorem kw_InvalidForm {K : PySem.W.Frag} {f : Addr} {fd : FuncData} (F : Fun K "__init__" "InvalidForm.__init__" (inClass s_InvalidForm 0) f fd) (s : Shared) (u v : Value) : BindsTo s fd ⟨[u], [("value", v)]⟩ [("self", u), ("value", v)] := by
  obtain ⟨oc, od, kV, doc, pm, an, cdv, ct, osl, rfl, _, _⟩ := F.ex
  exact .of_eq rfl
abbrev s_InvalidNumber : Stmt := topS 4
theorem sc_InvalidNumber : FnScope ["self", "value"] ["self", "value"] (defScope (inClass s_InvalidNumber 0)) := ⟨rfl, rfl, rfl, by decide +kernel, rfl, by decide +kernel, by decide +kernel⟩
theorem ini_InvalidNumber {P : Program} {w : World} {K : PySem.W.Frag} {mg : Str → Option Value} {base : Heap} {C f : Addr} {fd : FuncData} (F : Fun K "__init__" "InvalidNumber.__init__" (inClass s_InvalidNumber 0) f fd) (T : OexC K C) (no : PySem.W.findIn K (.ref C) "value" = some none) :
    FnOk P w K mg base CX0 1 f fd ["self", "value"] (spInit K C) := by
  refine F.ok sc_InvalidNumber (fun vs H Q E h => ?_) (fun cdv A outer s H vs Q E hr h => ⟨_, pss_one (ps_ost (pv 0) (pv 1)), ?_⟩)
  · obtain ⟨_, _, rfl, _⟩ := h
    rfl
  · obtain ⟨a, v, rfl, ha, q⟩ := h
    exact ⟨v, rfl, .ref a, rfl, a, C, rfl, T, no, .inl ⟨ha, fun dx hn hne => q dx hn hne⟩⟩
theorem kw_InvalidNumber {K : PySem.W.Frag} {f : Addr} {fd : FuncData} (F : Fun K "__init__" "InvalidNumber.__init__" (inClass s_InvalidNumber 0) f fd) (s : Shared) (u v : Value) : BindsTo s fd ⟨[u], [("value", v)]⟩ [("self", u), ("value", v)] := by
  obtain ⟨oc, od, kV, doc, pm, an, cdv, ct, osl, rfl, _, _⟩ := F.ex
  exact .of_eq rfl
abbrev s_InvalidRange : Stmt := topS 5
theorem sc_InvalidRange : FnScope ["self", "value"] ["self", "value"] (defScope (inClass s_InvalidRange 0)) := ⟨rfl, rfl, rfl, by decide +kernel, rfl, by decide +kernel, by decide +kernel⟩
theorem ini_InvalidRange {P : Program} {w : World} {K : PySem.W.Frag} {mg : Str → Option Value} {base : Heap} {C f : Addr} {fd : FuncData} (F : Fun K "__init__" "InvalidRange.__init__" (inClass s_InvalidRange 0) f fd) (T : OexC K C) (no : PySem.W.findIn K (.ref C) "value" = some none) :
    FnOk P w K mg base CX0 1 f fd ["self", "value"] (spInit K C) := by
  refine F.ok sc_InvalidRange (fun vs H Q E h => ?_) (fun cdv A outer s H vs Q E hr h => ⟨_, pss_one (ps_ost (pv 0) (pv 1)), ?_⟩)
  · obtain ⟨_, _, rfl, _⟩ := h
    rfl
  · obtain ⟨a, v, rfl, ha, q⟩ := h
    exact ⟨v, rfl, .ref a, rfl, a, C, rfl, T, no, .inl ⟨ha, fun dx hn hne => q dx hn hne⟩⟩
theorem kw_InvalidRange {K : PySem.W.Frag} {f : Addr} {fd : FuncData} (F : Fun K "__init__" "InvalidRange.__init__" (inClass s_InvalidRange 0) f fd) (s : Shared) (u v : Value) : BindsTo s fd ⟨[u], [("value", v)]⟩ [("self", u), ("value", v)] := by
  obtain ⟨oc, od, kV, doc, pm, an, cdv, ct, osl, rfl, _, _⟩ := F.ex
  exact .of_eq rfl
abbrev s_ChangedNumber : Stmt := topS 6
theorem sc_ChangedNumber : FnScope ["self", "value"] ["self", "value"] (defScope (inClass s_ChangedNumber 0)) := ⟨rfl, rfl, rfl, by decide +kernel, rfl, by decide +kernel, by decide +kernel⟩
theorem ini_ChangedNumber {P : Program} {w : World} {K : PySem.W.Frag} {mg : Str → Option Value} {base : Heap} {C f : Addr} {fd : FuncData} (F : Fun K "__init__" "ChangedNumber.__init__" (inClass s_ChangedNumber 0) f fd) (T : OexC K C) (no : PySem.W.findIn K (.ref C) "value" = some none) :
    FnOk P w K mg base CX0 1 f fd ["self", "value"] (spInit K C) := by
  refine F.ok sc_ChangedNumber (fun vs H Q E h => ?_) (fun cdv A outer s H vs Q E hr h => ⟨_, pss_one (ps_ost (pv 0) (pv 1)), ?_⟩)
  · obtain ⟨_, _, rfl, _⟩ := h
    rfl
  · obtain ⟨a, v, rfl, ha, q⟩ := h
    exact ⟨v, rfl, .ref a, rfl, a, C, rfl, T, no, .inl ⟨ha, fun dx hn hne => q dx hn hne⟩⟩
theorem kw_ChangedNumber {K : PySem.W.Frag} {f : Addr} {fd : FuncData} (F : Fun K "__init__" "ChangedNumber.__init__" (inClass s_ChangedNumber 0) f fd) (s : Shared) (u v : Value) : BindsTo s fd ⟨[u], [("value", v)]⟩ [("self", u), ("value", v)] := by
  obtain ⟨oc, od, kV, doc, pm, an, cdv, ct, osl, rfl, _, _⟩ := F.ex
  exact .of_eq rfl
abbrev s_NothingToUndo : Stmt := topS 7
theorem sc_NothingToUndo : FnScope ["self", "value"] ["self", "value"] (defScope (inClass s_NothingToUndo 0)) := ⟨rfl, rfl, rfl, by decide +kernel, rfl, by decide +kernel, by decide +kernel⟩
theorem ini_NothingToUndo {P : Program} {w : World} {K : PySem.W.Frag} {mg : Str → Option Value} {base : Heap} {C f : Addr} {fd : FuncData} (F : Fun K "__init__" "NothingToUndo.__init__" (inClass s_NothingToUndo 0) f fd) (T : OexC K C) (no : PySem.W.findIn K (.ref C) "value" = some none) :
    FnOk P w K mg base CX0 1 f fd ["self", "value"] (spInit K C) := by
  refine F.ok sc_NothingToUndo (fun vs H Q E h => ?_) (fun cdv A outer s H vs Q E hr h => ⟨_, pss_one (ps_ost (pv 0) (pv 1)), ?_⟩)
  · obtain ⟨_, _, rfl, _⟩ := h
    rfl
  · obtain ⟨a, v, rfl, ha, q⟩ := h
    exact ⟨v, rfl, .ref a, rfl, a, C, rfl, T, no, .inl ⟨ha, fun dx hn hne => q dx hn hne⟩⟩
theorem kw_NothingToUndo {K : PySem.W.Frag} {f : Addr} {fd : FuncData} (F : Fun K "__init__" "NothingToUndo.__init__" (inClass s_NothingToUndo 0) f fd) (s : Shared) (u v : Value) : BindsTo s fd ⟨[u], [("value", v)]⟩ [("self", u), ("value", v)] := by
  obtain ⟨oc, od, kV, doc, pm, an, cdv, ct, osl, rfl, _, _⟩ := F.ex
  exact .of_eq rfl
abbrev s_Unreadable : Stmt := topS 8
theorem sc_Unreadable : FnScope ["self", "value"] ["self", "value"] (defScope (inClass s_Unreadable 0)) := ⟨rfl, rfl, rfl, by decide +kernel, rfl, by decide +kernel, by decide +kernel⟩
theorem ini_Unreadable {P : Program} {w : World} {K : PySem.W.Frag} {mg : Str → Option Value} {base : Heap} {C f : Addr} {fd : FuncData} (F : Fun K "__init__" "Unreadable.__init__" (inClass s_Unreadable 0) f fd) (T : OexC K C) (no : PySem.W.findIn K (.ref C) "value" = some none) :
    FnOk P w K mg base CX0 1 f fd ["self", "value"] (spInit K C) := by
  refine F.ok sc_Unreadable (fun vs H Q E h => ?_) (fun cdv A outer s H vs Q E hr h => ⟨_, pss_one (ps_ost (pv 0) (pv 1)), ?_⟩)
  · obtain ⟨_, _, rfl, _⟩ := h
    rfl
  · obtain ⟨a, v, rfl, ha, q⟩ := h
    exact ⟨v, rfl, .ref a, rfl, a, C, rfl, T, no, .inl ⟨ha, fun dx hn hne => q dx hn hne⟩⟩
theorem kw_Unreadable {K : PySem.W.Frag} {f : Addr} {fd : FuncData} (F : Fun K "__init__" "Unreadable.__init__" (inClass s_Unreadable 0) f fd) (s : Shared) (u v : Value) : BindsTo s fd ⟨[u], [("value", v)]⟩ [("self", u), ("value", v)] := by
  obtain ⟨oc, od, kV, doc, pm, an, cdv, ct, osl, rfl, _, _⟩ := F.ex
  exact .of_eq rfl
theorem all_mk {l : PySem.W.OpenLaw} {w : World} {K : PySem.W.Frag} {h : Heap} {mg : Str → Option Value} {fa : Addr} (X : K.In h) (G : h.Ns mainGlobals mg) (hfa : mg "law" = some (.ref fa))
    {f0 : Addr} {oc0 kV0 dc0 pm0 cd0 ct0 : Value} {od0 an0 : Option Addr} {sl0 : Array (Option Value)}
    {f1 : Addr} {oc1 kV1 dc1 pm1 cd1 ct1 : Value} {od1 an1 : Option Addr} {sl1 : Array (Option Value)}
    {f2 : Addr} {oc2 kV2 dc2 pm2 cd2 ct2 : Value} {od2 an2 : Option Addr} {sl2 : Array (Option Value)}
    {f3 : Addr} {oc3 kV3 dc3 pm3 cd3 ct3 : Value} {od3 an3 : Option Addr} {sl3 : Array (Option Value)}
    {f4 : Addr} {oc4 kV4 dc4 pm4 cd4 ct4 : Value} {od4 an4 : Option Addr} {sl4 : Array (Option Value)}
    {C0 fi0 : Addr} {nm0 qq0 : Str} {NN0 : Addr} {bs0 bm0 sub0 : List Value} {sn0 : List Str} {ab0 : Bool} {col0 : Option Bool} {dd0 : Option Addr} {k00 k10 k20 k30 k50 : Option Value} {ioc0 ikV0 idc0 ipm0 icd0 ict0 : Value} {iod0 ian0 : Option Addr} {isl0 : Array (Option Value)}
    {C1 fi1 : Addr} {nm1 qq1 : Str} {NN1 : Addr} {bs1 bm1 sub1 : List Value} {sn1 : List Str} {ab1 : Bool} {col1 : Option Bool} {dd1 : Option Addr} {k01 k11 k21 k31 k51 : Option Value} {ioc1 ikV1 idc1 ipm1 icd1 ict1 : Value} {iod1 ian1 : Option Addr} {isl1 : Array (Option Value)}
    {C2 fi2 : Addr} {nm2 qq2 : Str} {NN2 : Addr} {bs2 bm2 sub2 : List Value} {sn2 : List Str} {ab2 : Bool} {col2 : Option Bool} {dd2 : Option Addr} {k02 k12 k22 k32 k52 : Option Value} {ioc2 ikV2 idc2 ipm2 icd2 ict2 : Value} {iod2 ian2 : Option Addr} {isl2 : Array (Option Value)}
    {C3 fi3 : Addr} {nm3 qq3 : Str} {NN3 : Addr} {bs3 bm3 sub3 : List Value} {sn3 : List Str} {ab3 : Bool} {col3 : Option Bool} {dd3 : Option Addr} {k03 k13 k23 k33 k53 : Option Value} {ioc3 ikV3 idc3 ipm3 icd3 ict3 : Value} {iod3 ian3 : Option Addr} {isl3 : Array (Option Value)}
    {C4 fi4 : Addr} {nm4 qq4 : Str} {NN4 : Addr} {bs4 bm4 sub4 : List Value} {sn4 : List Str} {ab4 : Bool} {col4 : Option Bool} {dd4 : Option Addr} {k04 k14 k24 k34 k54 : Option Value} {ioc4 ikV4 idc4 ipm4 icd4 ict4 : Value} {iod4 ian4 : Option Addr} {isl4 : Array (Option Value)}
    {C5 fi5 : Addr} {nm5 qq5 : Str} {NN5 : Addr} {bs5 bm5 sub5 : List Value} {sn5 : List Str} {ab5 : Bool} {col5 : Option Bool} {dd5 : Option Addr} {k05 k15 k25 k35 k55 : Option Value} {ioc5 ikV5 idc5 ipm5 icd5 ict5 : Value} {iod5 ian5 : Option Addr} {isl5 : Array (Option Value)}
    {C6 fi6 : Addr} {nm6 qq6 : Str} {NN6 : Addr} {bs6 bm6 sub6 : List Value} {sn6 : List Str} {ab6 : Bool} {col6 : Option Bool} {dd6 : Option Addr} {k06 k16 k26 k36 k56 : Option Value} {ioc6 ikV6 idc6 ipm6 icd6 ict6 : Value} {iod6 ian6 : Option Addr} {isl6 : Array (Option Value)}
    {C0x : Addr}
    (a0 : PySem.W.nsIn K mainGlobals "_law_rng" = some (some (.ref f0))) (l0 : K.lookup f0 = some ⟨oc0, od0, .func (PySem.W.fnOf "_law_rng" "_law_rng" (defArgs s_law_rng) (defBody s_law_rng) (defScope s_law_rng) .none kV0 dc0 pm0 an0 cd0 ct0), sl0⟩) (c0 : PySem.W.codeIn K cd0 "_law_rng" = true) (k0 : PySem.W.keepIn K (.ref f0) = true)
    (a1 : PySem.W.nsIn K mainGlobals "_law_draw" = some (some (.ref f1))) (l1 : K.lookup f1 = some ⟨oc1, od1, .func (PySem.W.fnOf "_law_draw" "_law_draw" (defArgs s_law_draw) (defBody s_law_draw) (defScope s_law_draw) .none kV1 dc1 pm1 an1 cd1 ct1), sl1⟩) (c1 : PySem.W.codeIn K cd1 "_law_draw" = true) (k1 : PySem.W.keepIn K (.ref f1) = true)
    (a2 : PySem.W.nsIn K mainGlobals "_law_flags" = some (some (.ref f2))) (l2 : K.lookup f2 = some ⟨oc2, od2, .func (PySem.W.fnOf "_law_flags" "_law_flags" (defArgs s_law_flags) (defBody s_law_flags) (defScope s_law_flags) .none kV2 dc2 pm2 an2 cd2 ct2), sl2⟩) (c2 : PySem.W.codeIn K cd2 "_law_flags" = true) (k2 : PySem.W.keepIn K (.ref f2) = true)
    (a3 : PySem.W.nsIn K mainGlobals "_law_made" = some (some (.ref f3))) (l3 : K.lookup f3 = some ⟨oc3, od3, .func (PySem.W.fnOf "_law_made" "_law_made" (defArgs s_law_made) (defBody s_law_made) (defScope s_law_made) .none kV3 dc3 pm3 an3 cd3 ct3), sl3⟩) (c3 : PySem.W.codeIn K cd3 "_law_made" = true) (k3 : PySem.W.keepIn K (.ref f3) = true)
    (a4 : PySem.W.nsIn K mainGlobals "law" = some (some (.ref f4))) (l4 : K.lookup f4 = some ⟨oc4, od4, .func (PySem.W.fnOf "law" "law" (defArgs s_law) (defBody s_law) (defScope s_law) .none kV4 dc4 pm4 an4 cd4 ct4), sl4⟩) (c4 : PySem.W.codeIn K cd4 "law" = true) (k4 : PySem.W.keepIn K (.ref f4) = true)
    (z_abs : PySem.W.nsIn K mainGlobals "abs" = some none)
    (z_range : PySem.W.nsIn K mainGlobals "range" = some none)
    (z_min : PySem.W.nsIn K mainGlobals "min" = some none)
    (z_len : PySem.W.nsIn K mainGlobals "len" = some none)
    (z_repr : PySem.W.nsIn K mainGlobals "repr" = some none)
    (z_isinstance : PySem.W.nsIn K mainGlobals "isinstance" = some none)
    (z_ValueError : PySem.W.nsIn K mainGlobals "ValueError" = some none)
    (gC0 : PySem.W.nsIn K mainGlobals "InvalidStep" = some (some (.ref C0)))
    (xL0 : K.lookup C0 = some (excClassObj nm0 qq0 C0 NN0 bs0 bm0 true sn0 sub0 ab0 col0 dd0 k00 k10 k20 k30 k50 "ValueError.__new__"))
    (bv0 : PySem.HandSPX.refsVE bm0 = true)
    (sa0 : PySem.W.findIn K (.ref C0) "__setattr__" = some (some (.builtin "object.__setattr__")))
    (ga0 : PySem.W.findIn K (.ref C0) "__getattribute__" = some (some (.builtin "BaseException.__getattribute__")))
    (gg0 : PySem.W.findIn K (.ref C0) "__getattr__" = some none)
    (nb0 : PySem.W.findIn K (.ref C0) "value" = some none)
    (iC0 : PySem.W.findIn K (.ref C0) "__init__" = some (some (.ref fi0)))
    (tI0 : PySem.W.typeIn K (.ref fi0) = some (.type "function"))
    (lI0 : K.lookup fi0 = some ⟨ioc0, iod0, .func (PySem.W.fnOf "__init__" "InvalidStep.__init__" (defArgs (inClass s_InvalidStep 0)) (defBody (inClass s_InvalidStep 0)) (defScope (inClass s_InvalidStep 0)) .none ikV0 idc0 ipm0 ian0 icd0 ict0), isl0⟩)
    (cI0 : PySem.W.codeIn K icd0 "InvalidStep.__init__" = true)
    (kI0 : PySem.W.keepIn K (.ref fi0) = true)
    (kC0 : PySem.W.keepIn K (.ref C0) = true)
    (eC0 : PySem.W.subIn K (.ref C0) (.type "BaseException") = some true)
    (tC0 : PySem.W.typeIn K (.ref C0) = some (.type "type"))
    (hC0 : PySem.W.hasDictIn K C0 = true)
    (cl0 : PySem.W.findIn K (.ref C0) "__class__" = some (some (.builtin "object.__class__")))
    (mo0 : PySem.W.mroIn K C0 (.type "object") = some true)
    (hn : PySem.W.specialIn K (.builtin "object.__class__") "__get__" = some (some (.builtin "getset_descriptor.__get__")))
    (ht : PySem.W.takesIn K (.builtin "object.__class__") = some true)
    (gC1 : PySem.W.nsIn K mainGlobals "InvalidForm" = some (some (.ref C1)))
    (xL1 : K.lookup C1 = some (excClassObj nm1 qq1 C1 NN1 bs1 bm1 true sn1 sub1 ab1 col1 dd1 k01 k11 k21 k31 k51 "ValueError.__new__"))
    (bv1 : PySem.HandSPX.refsVE bm1 = true)
    (sa1 : PySem.W.findIn K (.ref C1) "__setattr__" = some (some (.builtin "object.__setattr__")))
    (ga1 : PySem.W.findIn K (.ref C1) "__getattribute__" = some (some (.builtin "BaseException.__getattribute__")))
    (gg1 : PySem.W.findIn K (.ref C1) "__getattr__" = some none)
    (nb1 : PySem.W.findIn K (.ref C1) "value" = some none)
    (iC1 : PySem.W.findIn K (.ref C1) "__init__" = some (some (.ref fi1)))
    (tI1 : PySem.W.typeIn K (.ref fi1) = some (.type "function"))
    (lI1 : K.lookup fi1 = some ⟨ioc1, iod1, .func (PySem.W.fnOf "__init__" "InvalidForm.__init__" (defArgs (inClass s_InvalidForm 0)) (defBody (inClass s_InvalidForm 0)) (defScope (inClass s_InvalidForm 0)) .none ikV1 idc1 ipm1 ian1 icd1 ict1), isl1⟩)
    (cI1 : PySem.W.codeIn K icd1 "InvalidForm.__init__" = true)
    (kI1 : PySem.W.keepIn K (.ref fi1) = true)
    (kC1 : PySem.W.keepIn K (.ref C1) = true)
    (eC1 : PySem.W.subIn K (.ref C1) (.type "BaseException") = some true)
    (tC1 : PySem.W.typeIn K (.ref C1) = some (.type "type"))
    (hC1 : PySem.W.hasDictIn K C1 = true)
    (cl1 : PySem.W.findIn K (.ref C1) "__class__" = some (some (.builtin "object.__class__")))
    (mo1 : PySem.W.mroIn K C1 (.type "object") = some true)
    (gC2 : PySem.W.nsIn K mainGlobals "InvalidNumber" = some (some (.ref C2)))
    (xL2 : K.lookup C2 = some (excClassObj nm2 qq2 C2 NN2 bs2 bm2 true sn2 sub2 ab2 col2 dd2 k02 k12 k22 k32 k52 "ValueError.__new__"))
    (bv2 : PySem.HandSPX.refsVE bm2 = true)
    (sa2 : PySem.W.findIn K (.ref C2) "__setattr__" = some (some (.builtin "object.__setattr__")))
    (ga2 : PySem.W.findIn K (.ref C2) "__getattribute__" = some (some (.builtin "BaseException.__getattribute__")))
    (gg2 : PySem.W.findIn K (.ref C2) "__getattr__" = some none)
    (nb2 : PySem.W.findIn K (.ref C2) "value" = some none)
    (iC2 : PySem.W.findIn K (.ref C2) "__init__" = some (some (.ref fi2)))
    (tI2 : PySem.W.typeIn K (.ref fi2) = some (.type "function"))
    (lI2 : K.lookup fi2 = some ⟨ioc2, iod2, .func (PySem.W.fnOf "__init__" "InvalidNumber.__init__" (defArgs (inClass s_InvalidNumber 0)) (defBody (inClass s_InvalidNumber 0)) (defScope (inClass s_InvalidNumber 0)) .none ikV2 idc2 ipm2 ian2 icd2 ict2), isl2⟩)
    (cI2 : PySem.W.codeIn K icd2 "InvalidNumber.__init__" = true)
    (kI2 : PySem.W.keepIn K (.ref fi2) = true)
    (kC2 : PySem.W.keepIn K (.ref C2) = true)
    (eC2 : PySem.W.subIn K (.ref C2) (.type "BaseException") = some true)
    (tC2 : PySem.W.typeIn K (.ref C2) = some (.type "type"))
    (hC2 : PySem.W.hasDictIn K C2 = true)
    (cl2 : PySem.W.findIn K (.ref C2) "__class__" = some (some (.builtin "object.__class__")))
    (mo2 : PySem.W.mroIn K C2 (.type "object") = some true)
    (gC3 : PySem.W.nsIn K mainGlobals "InvalidRange" = some (some (.ref C3)))
    (xL3 : K.lookup C3 = some (excClassObj nm3 qq3 C3 NN3 bs3 bm3 true sn3 sub3 ab3 col3 dd3 k03 k13 k23 k33 k53 "ValueError.__new__"))
    (bv3 : PySem.HandSPX.refsVE bm3 = true)
    (sa3 : PySem.W.findIn K (.ref C3) "__setattr__" = some (some (.builtin "object.__setattr__")))
    (ga3 : PySem.W.findIn K (.ref C3) "__getattribute__" = some (some (.builtin "BaseException.__getattribute__")))
    (gg3 : PySem.W.findIn K (.ref C3) "__getattr__" = some none)
    (nb3 : PySem.W.findIn K (.ref C3) "value" = some none)
    (iC3 : PySem.W.findIn K (.ref C3) "__init__" = some (some (.ref fi3)))
    (tI3 : PySem.W.typeIn K (.ref fi3) = some (.type "function"))
    (lI3 : K.lookup fi3 = some ⟨ioc3, iod3, .func (PySem.W.fnOf "__init__" "InvalidRange.__init__" (defArgs (inClass s_InvalidRange 0)) (defBody (inClass s_InvalidRange 0)) (defScope (inClass s_InvalidRange 0)) .none ikV3 idc3 ipm3 ian3 icd3 ict3), isl3⟩)
    (cI3 : PySem.W.codeIn K icd3 "InvalidRange.__init__" = true)
    (kI3 : PySem.W.keepIn K (.ref fi3) = true)
    (kC3 : PySem.W.keepIn K (.ref C3) = true)
    (eC3 : PySem.W.subIn K (.ref C3) (.type "BaseException") = some true)
    (tC3 : PySem.W.typeIn K (.ref C3) = some (.type "type"))
    (hC3 : PySem.W.hasDictIn K C3 = true)
    (cl3 : PySem.W.findIn K (.ref C3) "__class__" = some (some (.builtin "object.__class__")))
    (mo3 : PySem.W.mroIn K C3 (.type "object") = some true)
    (gC4 : PySem.W.nsIn K mainGlobals "ChangedNumber" = some (some (.ref C4)))
    (xL4 : K.lookup C4 = some (excClassObj nm4 qq4 C4 NN4 bs4 bm4 true sn4 sub4 ab4 col4 dd4 k04 k14 k24 k34 k54 "ValueError.__new__"))
    (bv4 : PySem.HandSPX.refsVE bm4 = true)
    (sa4 : PySem.W.findIn K (.ref C4) "__setattr__" = some (some (.builtin "object.__setattr__")))
    (ga4 : PySem.W.findIn K (.ref C4) "__getattribute__" = some (some (.builtin "BaseException.__getattribute__")))
    (gg4 : PySem.W.findIn K (.ref C4) "__getattr__" = some none)
    (nb4 : PySem.W.findIn K (.ref C4) "value" = some none)
    (iC4 : PySem.W.findIn K (.ref C4) "__init__" = some (some (.ref fi4)))
    (tI4 : PySem.W.typeIn K (.ref fi4) = some (.type "function"))
    (lI4 : K.lookup fi4 = some ⟨ioc4, iod4, .func (PySem.W.fnOf "__init__" "ChangedNumber.__init__" (defArgs (inClass s_ChangedNumber 0)) (defBody (inClass s_ChangedNumber 0)) (defScope (inClass s_ChangedNumber 0)) .none ikV4 idc4 ipm4 ian4 icd4 ict4), isl4⟩)
    (cI4 : PySem.W.codeIn K icd4 "ChangedNumber.__init__" = true)
    (kI4 : PySem.W.keepIn K (.ref fi4) = true)
    (kC4 : PySem.W.keepIn K (.ref C4) = true)
    (eC4 : PySem.W.subIn K (.ref C4) (.type "BaseException") = some true)
    (tC4 : PySem.W.typeIn K (.ref C4) = some (.type "type"))
    (hC4 : PySem.W.hasDictIn K C4 = true)
    (cl4 : PySem.W.findIn K (.ref C4) "__class__" = some (some (.builtin "object.__class__")))
    (mo4 : PySem.W.mroIn K C4 (.type "object") = some true)
    (gC5 : PySem.W.nsIn K mainGlobals "NothingToUndo" = some (some (.ref C5)))
    (xL5 : K.lookup C5 = some (excClassObj nm5 qq5 C5 NN5 bs5 bm5 true sn5 sub5 ab5 col5 dd5 k05 k15 k25 k35 k55 "ValueError.__new__"))
    (bv5 : PySem.HandSPX.refsVE bm5 = true)
    (sa5 : PySem.W.findIn K (.ref C5) "__setattr__" = some (some (.builtin "object.__setattr__")))
    (ga5 : PySem.W.findIn K (.ref C5) "__getattribute__" = some (some (.builtin "BaseException.__getattribute__")))
    (gg5 : PySem.W.findIn K (.ref C5) "__getattr__" = some none)
    (nb5 : PySem.W.findIn K (.ref C5) "value" = some none)
    (iC5 : PySem.W.findIn K (.ref C5) "__init__" = some (some (.ref fi5)))
    (tI5 : PySem.W.typeIn K (.ref fi5) = some (.type "function"))
    (lI5 : K.lookup fi5 = some ⟨ioc5, iod5, .func (PySem.W.fnOf "__init__" "NothingToUndo.__init__" (defArgs (inClass s_NothingToUndo 0)) (defBody (inClass s_NothingToUndo 0)) (defScope (inClass s_NothingToUndo 0)) .none ikV5 idc5 ipm5 ian5 icd5 ict5), isl5⟩)
    (cI5 : PySem.W.codeIn K icd5 "NothingToUndo.__init__" = true)
    (kI5 : PySem.W.keepIn K (.ref fi5) = true)
    (kC5 : PySem.W.keepIn K (.ref C5) = true)
    (eC5 : PySem.W.subIn K (.ref C5) (.type "BaseException") = some true)
    (tC5 : PySem.W.typeIn K (.ref C5) = some (.type "type"))
    (hC5 : PySem.W.hasDictIn K C5 = true)
    (cl5 : PySem.W.findIn K (.ref C5) "__class__" = some (some (.builtin "object.__class__")))
    (mo5 : PySem.W.mroIn K C5 (.type "object") = some true)
    (gC6 : PySem.W.nsIn K mainGlobals "Unreadable" = some (some (.ref C6)))
    (xL6 : K.lookup C6 = some (excClassObj nm6 qq6 C6 NN6 bs6 bm6 true sn6 sub6 ab6 col6 dd6 k06 k16 k26 k36 k56 "ValueError.__new__"))
    (bv6 : PySem.HandSPX.refsVE bm6 = true)
    (sa6 : PySem.W.findIn K (.ref C6) "__setattr__" = some (some (.builtin "object.__setattr__")))
    (ga6 : PySem.W.findIn K (.ref C6) "__getattribute__" = some (some (.builtin "BaseException.__getattribute__")))
    (gg6 : PySem.W.findIn K (.ref C6) "__getattr__" = some none)
    (nb6 : PySem.W.findIn K (.ref C6) "value" = some none)
    (iC6 : PySem.W.findIn K (.ref C6) "__init__" = some (some (.ref fi6)))
    (tI6 : PySem.W.typeIn K (.ref fi6) = some (.type "function"))
    (lI6 : K.lookup fi6 = some ⟨ioc6, iod6, .func (PySem.W.fnOf "__init__" "Unreadable.__init__" (defArgs (inClass s_Unreadable 0)) (defBody (inClass s_Unreadable 0)) (defScope (inClass s_Unreadable 0)) .none ikV6 idc6 ipm6 ian6 icd6 ict6), isl6⟩)
    (cI6 : PySem.W.codeIn K icd6 "Unreadable.__init__" = true)
    (kI6 : PySem.W.keepIn K (.ref fi6) = true)
    (kC6 : PySem.W.keepIn K (.ref C6) = true)
    (eC6 : PySem.W.subIn K (.ref C6) (.type "BaseException") = some true)
    (tC6 : PySem.W.typeIn K (.ref C6) = some (.type "type"))
    (hC6 : PySem.W.hasDictIn K C6 = true)
    (cl6 : PySem.W.findIn K (.ref C6) "__class__" = some (some (.builtin "object.__class__")))
    (mo6 : PySem.W.mroIn K C6 (.type "object") = some true)
    (gCst : PySem.W.nsIn K mainGlobals "CastError" = some (some (.ref C0x)))
    (kt0_0 : PySem.W.kitOne K (.ref C0) (.ref C0) = some true)
    (kt0_1 : PySem.W.kitOne K (.ref C0) (.ref C1) = some false)
    (kt0_2 : PySem.W.kitOne K (.ref C0) (.ref C2) = some false)
    (kt0_3 : PySem.W.kitOne K (.ref C0) (.ref C3) = some false)
    (kt0_4 : PySem.W.kitOne K (.ref C0) (.ref C4) = some false)
    (kt0_5 : PySem.W.kitOne K (.ref C0) (.ref C5) = some false)
    (kt0_6 : PySem.W.kitOne K (.ref C0) (.ref C6) = some false)
    (kb0 : PySem.W.kitOne K (.ref C0) (.ref C0x) = some true)
    (kv0 : PySem.W.kitOne K (.ref C0) (.type "ValueError") = some true)
    (kt1_0 : PySem.W.kitOne K (.ref C1) (.ref C0) = some false)
    (kt1_1 : PySem.W.kitOne K (.ref C1) (.ref C1) = some true)
    (kt1_2 : PySem.W.kitOne K (.ref C1) (.ref C2) = some false)
    (kt1_3 : PySem.W.kitOne K (.ref C1) (.ref C3) = some false)
    (kt1_4 : PySem.W.kitOne K (.ref C1) (.ref C4) = some false)
    (kt1_5 : PySem.W.kitOne K (.ref C1) (.ref C5) = some false)
    (kt1_6 : PySem.W.kitOne K (.ref C1) (.ref C6) = some false)
    (kb1 : PySem.W.kitOne K (.ref C1) (.ref C0x) = some true)
    (kv1 : PySem.W.kitOne K (.ref C1) (.type "ValueError") = some true)
    (kt2_0 : PySem.W.kitOne K (.ref C2) (.ref C0) = some false)
    (kt2_1 : PySem.W.kitOne K (.ref C2) (.ref C1) = some false)
    (kt2_2 : PySem.W.kitOne K (.ref C2) (.ref C2) = some true)
    (kt2_3 : PySem.W.kitOne K (.ref C2) (.ref C3) = some false)
    (kt2_4 : PySem.W.kitOne K (.ref C2) (.ref C4) = some false)
    (kt2_5 : PySem.W.kitOne K (.ref C2) (.ref C5) = some false)
    (kt2_6 : PySem.W.kitOne K (.ref C2) (.ref C6) = some false)
    (kb2 : PySem.W.kitOne K (.ref C2) (.ref C0x) = some true)
    (kv2 : PySem.W.kitOne K (.ref C2) (.type "ValueError") = some true)
    (kt3_0 : PySem.W.kitOne K (.ref C3) (.ref C0) = some false)
    (kt3_1 : PySem.W.kitOne K (.ref C3) (.ref C1) = some false)
    (kt3_2 : PySem.W.kitOne K (.ref C3) (.ref C2) = some false)
    (kt3_3 : PySem.W.kitOne K (.ref C3) (.ref C3) = some true)
    (kt3_4 : PySem.W.kitOne K (.ref C3) (.ref C4) = some false)
    (kt3_5 : PySem.W.kitOne K (.ref C3) (.ref C5) = some false)
    (kt3_6 : PySem.W.kitOne K (.ref C3) (.ref C6) = some false)
    (kb3 : PySem.W.kitOne K (.ref C3) (.ref C0x) = some true)
    (kv3 : PySem.W.kitOne K (.ref C3) (.type "ValueError") = some true)
    (kt4_0 : PySem.W.kitOne K (.ref C4) (.ref C0) = some false)
    (kt4_1 : PySem.W.kitOne K (.ref C4) (.ref C1) = some false)
    (kt4_2 : PySem.W.kitOne K (.ref C4) (.ref C2) = some false)
    (kt4_3 : PySem.W.kitOne K (.ref C4) (.ref C3) = some false)
    (kt4_4 : PySem.W.kitOne K (.ref C4) (.ref C4) = some true)
    (kt4_5 : PySem.W.kitOne K (.ref C4) (.ref C5) = some false)
    (kt4_6 : PySem.W.kitOne K (.ref C4) (.ref C6) = some false)
    (kb4 : PySem.W.kitOne K (.ref C4) (.ref C0x) = some true)
    (kv4 : PySem.W.kitOne K (.ref C4) (.type "ValueError") = some true)
    (kt5_0 : PySem.W.kitOne K (.ref C5) (.ref C0) = some false)
    (kt5_1 : PySem.W.kitOne K (.ref C5) (.ref C1) = some false)
    (kt5_2 : PySem.W.kitOne K (.ref C5) (.ref C2) = some false)
    (kt5_3 : PySem.W.kitOne K (.ref C5) (.ref C3) = some false)
    (kt5_4 : PySem.W.kitOne K (.ref C5) (.ref C4) = some false)
    (kt5_5 : PySem.W.kitOne K (.ref C5) (.ref C5) = some true)
    (kt5_6 : PySem.W.kitOne K (.ref C5) (.ref C6) = some false)
    (kb5 : PySem.W.kitOne K (.ref C5) (.ref C0x) = some true)
    (kv5 : PySem.W.kitOne K (.ref C5) (.type "ValueError") = some true)
    (kt6_0 : PySem.W.kitOne K (.ref C6) (.ref C0) = some false)
    (kt6_1 : PySem.W.kitOne K (.ref C6) (.ref C1) = some false)
    (kt6_2 : PySem.W.kitOne K (.ref C6) (.ref C2) = some false)
    (kt6_3 : PySem.W.kitOne K (.ref C6) (.ref C3) = some false)
    (kt6_4 : PySem.W.kitOne K (.ref C6) (.ref C4) = some false)
    (kt6_5 : PySem.W.kitOne K (.ref C6) (.ref C5) = some false)
    (kt6_6 : PySem.W.kitOne K (.ref C6) (.ref C6) = some true)
    (kb6 : PySem.W.kitOne K (.ref C6) (.ref C0x) = some true)
    (kv6 : PySem.W.kitOne K (.ref C6) (.type "ValueError") = some true) :
    ∃ fd : FuncData, (∀ (s : Shared) (v : Value), BindsTo s fd ⟨[v], []⟩ [("script", v)]) ∧ ∀ base : Heap, K.In base → base.Ns mainGlobals mg → FnG l.prog w K mg base CX0 5 fa fd ["script"] (spLaw K) := by
  have e := hfa.symm.trans (PySem.W.mg_of X G a4)
  cases e
  have T__law_rng : Tx K mg "_law_rng" s_law_rng := tx_mk X G a0 l0 c0 k0
  have T__law_draw : Tx K mg "_law_draw" s_law_draw := tx_mk X G a1 l1 c1 k1
  have T__law_flags : Tx K mg "_law_flags" s_law_flags := tx_mk X G a2 l2 c2 k2
  have T__law_made : Tx K mg "_law_made" s_law_made := tx_mk X G a3 l3 c3 k3
  have m_abs : mg "abs" = none := PySem.W.mg_none_of X G z_abs
  have m_range : mg "range" = none := PySem.W.mg_none_of X G z_range
  have m_min : mg "min" = none := PySem.W.mg_none_of X G z_min
  have m_len : mg "len" = none := PySem.W.mg_none_of X G z_len
  have m_repr : mg "repr" = none := PySem.W.mg_none_of X G z_repr
  have m_isinstance : mg "isinstance" = none := PySem.W.mg_none_of X G z_isinstance
  have m_ValueError : mg "ValueError" = none := PySem.W.mg_none_of X G z_ValueError
  have O0 : OexC K C0 := ⟨⟨_, _, _, _, _, _, _, _, _, _, _, _, _, _, _, xL0, bv0⟩, sa0, eC0, tC0, kC0⟩
  have X0 : XC K mg "InvalidStep" C0 fi0 := ⟨PySem.W.mg_of X G gC0, O0, ⟨ga0, gg0, eC0, hC0, cl0, hn, ht, mo0⟩, nb0, iC0, tI0⟩
  have I0 := fun_mk lI0 cI0 kI0
  have B0 := I0.binds (ps := ["self", "value"]) fun _ _ _ _ _ _ us hl => match us, hl with | [_, _], _ => rfl
  have O1 : OexC K C1 := ⟨⟨_, _, _, _, _, _, _, _, _, _, _, _, _, _, _, xL1, bv1⟩, sa1, eC1, tC1, kC1⟩
  have X1 : XC K mg "InvalidForm" C1 fi1 := ⟨PySem.W.mg_of X G gC1, O1, ⟨ga1, gg1, eC1, hC1, cl1, hn, ht, mo1⟩, nb1, iC1, tI1⟩
  have I1 := fun_mk lI1 cI1 kI1
  have B1 := I1.binds (ps := ["self", "value"]) fun _ _ _ _ _ _ us hl => match us, hl with | [_, _], _ => rfl
  have O2 : OexC K C2 := ⟨⟨_, _, _, _, _, _, _, _, _, _, _, _, _, _, _, xL2, bv2⟩, sa2, eC2, tC2, kC2⟩
  have X2 : XC K mg "InvalidNumber" C2 fi2 := ⟨PySem.W.mg_of X G gC2, O2, ⟨ga2, gg2, eC2, hC2, cl2, hn, ht, mo2⟩, nb2, iC2, tI2⟩
  have I2 := fun_mk lI2 cI2 kI2
  have B2 := I2.binds (ps := ["self", "value"]) fun _ _ _ _ _ _ us hl => match us, hl with | [_, _], _ => rfl
  have O3 : OexC K C3 := ⟨⟨_, _, _, _, _, _, _, _, _, _, _, _, _, _, _, xL3, bv3⟩, sa3, eC3, tC3, kC3⟩
  have X3 : XC K mg "InvalidRange" C3 fi3 := ⟨PySem.W.mg_of X G gC3, O3, ⟨ga3, gg3, eC3, hC3, cl3, hn, ht, mo3⟩, nb3, iC3, tI3⟩
  have I3 := fun_mk lI3 cI3 kI3
  have B3 := I3.binds (ps := ["self", "value"]) fun _ _ _ _ _ _ us hl => match us, hl with | [_, _], _ => rfl
  have O4 : OexC K C4 := ⟨⟨_, _, _, _, _, _, _, _, _, _, _, _, _, _, _, xL4, bv4⟩, sa4, eC4, tC4, kC4⟩
  have X4 : XC K mg "ChangedNumber" C4 fi4 := ⟨PySem.W.mg_of X G gC4, O4, ⟨ga4, gg4, eC4, hC4, cl4, hn, ht, mo4⟩, nb4, iC4, tI4⟩
  have I4 := fun_mk lI4 cI4 kI4
  have B4 := I4.binds (ps := ["self", "value"]) fun _ _ _ _ _ _ us hl => match us, hl with | [_, _], _ => rfl
  have O5 : OexC K C5 := ⟨⟨_, _, _, _, _, _, _, _, _, _, _, _, _, _, _, xL5, bv5⟩, sa5, eC5, tC5, kC5⟩
  have X5 : XC K mg "NothingToUndo" C5 fi5 := ⟨PySem.W.mg_of X G gC5, O5, ⟨ga5, gg5, eC5, hC5, cl5, hn, ht, mo5⟩, nb5, iC5, tI5⟩
  have I5 := fun_mk lI5 cI5 kI5
  have B5 := I5.binds (ps := ["self", "value"]) fun _ _ _ _ _ _ us hl => match us, hl with | [_, _], _ => rfl
  have O6 : OexC K C6 := ⟨⟨_, _, _, _, _, _, _, _, _, _, _, _, _, _, _, xL6, bv6⟩, sa6, eC6, tC6, kC6⟩
  have X6 : XC K mg "Unreadable" C6 fi6 := ⟨PySem.W.mg_of X G gC6, O6, ⟨ga6, gg6, eC6, hC6, cl6, hn, ht, mo6⟩, nb6, iC6, tI6⟩
  have I6 := fun_mk lI6 cI6 kI6
  have B6 := I6.binds (ps := ["self", "value"]) fun _ _ _ _ _ _ us hl => match us, hl with | [_, _], _ => rfl
  have gCst' := PySem.W.mg_of X G gCst
  have Y := fun (base : Heap) => show Cls l.prog w K mg base (fun i => match i with | 0 => C0 | 1 => C1 | 2 => C2 | 3 => C3 | 4 => C4 | 5 => C5 | _ => C6) (fun i => match i with | 0 => fi0 | 1 => fi1 | 2 => fi2 | 3 => fi3 | 4 => fi4 | 5 => fi5 | _ => fi6) (fun i => match i with | 0 => PySem.W.fnOf "__init__" "InvalidStep.__init__" (defArgs (inClass s_InvalidStep 0)) (defBody (inClass s_InvalidStep 0)) (defScope (inClass s_InvalidStep 0)) .none ikV0 idc0 ipm0 ian0 icd0 ict0 | 1 => PySem.W.fnOf "__init__" "InvalidForm.__init__" (defArgs (inClass s_InvalidForm 0)) (defBody (inClass s_InvalidForm 0)) (defScope (inClass s_InvalidForm 0)) .none ikV1 idc1 ipm1 ian1 icd1 ict1 | 2 => PySem.W.fnOf "__init__" "InvalidNumber.__init__" (defArgs (inClass s_InvalidNumber 0)) (defBody (inClass s_InvalidNumber 0)) (defScope (inClass s_InvalidNumber 0)) .none ikV2 idc2 ipm2 ian2 icd2 ict2 | 3 => PySem.W.fnOf "__init__" "InvalidRange.__init__" (defArgs (inClass s_InvalidRange 0)) (defBody (inClass s_InvalidRange 0)) (defScope (inClass s_InvalidRange 0)) .none ikV3 idc3 ipm3 ian3 icd3 ict3 | 4 => PySem.W.fnOf "__init__" "ChangedNumber.__init__" (defArgs (inClass s_ChangedNumber 0)) (defBody (inClass s_ChangedNumber 0)) (defScope (inClass s_ChangedNumber 0)) .none ikV4 idc4 ipm4 ian4 icd4 ict4 | 5 => PySem.W.fnOf "__init__" "NothingToUndo.__init__" (defArgs (inClass s_NothingToUndo 0)) (defBody (inClass s_NothingToUndo 0)) (defScope (inClass s_NothingToUndo 0)) .none ikV5 idc5 ipm5 ian5 icd5 ict5 | _ => PySem.W.fnOf "__init__" "Unreadable.__init__" (defArgs (inClass s_Unreadable 0)) (defBody (inClass s_Unreadable 0)) (defScope (inClass s_Unreadable 0)) .none ikV6 idc6 ipm6 ian6 icd6 ict6) C0x from
    ⟨(fun i => match i with | 0 => X0 | 1 => X1 | 2 => X2 | 3 => X3 | 4 => X4 | 5 => X5 | _ + 6 => X6), (fun i => match i with | 0 => ini_InvalidStep I0 O0 nb0 | 1 => ini_InvalidForm I1 O1 nb1 | 2 => ini_InvalidNumber I2 O2 nb2 | 3 => ini_InvalidRange I3 O3 nb3 | 4 => ini_ChangedNumber I4 O4 nb4 | 5 => ini_NothingToUndo I5 O5 nb5 | _ + 6 => ini_Unreadable I6 O6 nb6), (fun i => match i with | 0 => B0 | 1 => B1 | 2 => B2 | 3 => B3 | 4 => B4 | 5 => B5 | _ + 6 => B6), (fun i => match i with | 0 => kw_InvalidStep I0 | 1 => kw_InvalidForm I1 | 2 => kw_InvalidNumber I2 | 3 => kw_InvalidRange I3 | 4 => kw_ChangedNumber I4 | 5 => kw_NothingToUndo I5 | _ + 6 => kw_Unreadable I6), gCst', by
      intro i j hi hj
      match i, j, hi, hj with
      | 0, 0, _, _ => exact kt0_0
      | 0, 1, _, _ => exact kt0_1
      | 0, 2, _, _ => exact kt0_2
      | 0, 3, _, _ => exact kt0_3
      | 0, 4, _, _ => exact kt0_4
      | 0, 5, _, _ => exact kt0_5
      | 0, 6, _, _ => exact kt0_6
      | 1, 0, _, _ => exact kt1_0
      | 1, 1, _, _ => exact kt1_1
      | 1, 2, _, _ => exact kt1_2
      | 1, 3, _, _ => exact kt1_3
      | 1, 4, _, _ => exact kt1_4
      | 1, 5, _, _ => exact kt1_5
      | 1, 6, _, _ => exact kt1_6
      | 2, 0, _, _ => exact kt2_0
      | 2, 1, _, _ => exact kt2_1
      | 2, 2, _, _ => exact kt2_2
      | 2, 3, _, _ => exact kt2_3
      | 2, 4, _, _ => exact kt2_4
      | 2, 5, _, _ => exact kt2_5
      | 2, 6, _, _ => exact kt2_6
      | 3, 0, _, _ => exact kt3_0
      | 3, 1, _, _ => exact kt3_1
      | 3, 2, _, _ => exact kt3_2
      | 3, 3, _, _ => exact kt3_3
      | 3, 4, _, _ => exact kt3_4
      | 3, 5, _, _ => exact kt3_5
      | 3, 6, _, _ => exact kt3_6
      | 4, 0, _, _ => exact kt4_0
      | 4, 1, _, _ => exact kt4_1
      | 4, 2, _, _ => exact kt4_2
      | 4, 3, _, _ => exact kt4_3
      | 4, 4, _, _ => exact kt4_4
      | 4, 5, _, _ => exact kt4_5
      | 4, 6, _, _ => exact kt4_6
      | 5, 0, _, _ => exact kt5_0
      | 5, 1, _, _ => exact kt5_1
      | 5, 2, _, _ => exact kt5_2
      | 5, 3, _, _ => exact kt5_3
      | 5, 4, _, _ => exact kt5_4
      | 5, 5, _, _ => exact kt5_5
      | 5, 6, _, _ => exact kt5_6
      | 6, 0, _, _ => exact kt6_0
      | 6, 1, _, _ => exact kt6_1
      | 6, 2, _, _ => exact kt6_2
      | 6, 3, _, _ => exact kt6_3
      | 6, 4, _, _ => exact kt6_4
      | 6, 5, _, _ => exact kt6_5
      | 6, 6, _, _ => exact kt6_6
      | _ + 7, _, hi, _ => exact absurd hi (by omega)
      | 0, _ + 7, _, hj => exact absurd hj (by omega)
      | 1, _ + 7, _, hj => exact absurd hj (by omega)
      | 2, _ + 7, _, hj => exact absurd hj (by omega)
      | 3, _ + 7, _, hj => exact absurd hj (by omega)
      | 4, _ + 7, _, hj => exact absurd hj (by omega)
      | 5, _ + 7, _, hj => exact absurd hj (by omega)
      | 6, _ + 7, _, hj => exact absurd hj (by omega)
    , by
      intro i hi
      match i, hi with
      | 0, _ => exact kb0
      | 1, _ => exact kb1
      | 2, _ => exact kb2
      | 3, _ => exact kb3
      | 4, _ => exact kb4
      | 5, _ => exact kb5
      | 6, _ => exact kb6
      | _ + 7, hi => exact absurd hi (by omega)
    , by
      intro i hi
      match i, hi with
      | 0, _ => exact kv0
      | 1, _ => exact kv1
      | 2, _ => exact kv2
      | 3, _ => exact kv3
      | 4, _ => exact kv4
      | 5, _ => exact kv5
      | 6, _ => exact kv6
      | _ + 7, hi => exact absurd hi (by omega)⟩
  exact ⟨_, fun s v => .of_eq rfl, fun base _ _ => all_pr (Y base) T__law_rng T__law_draw T__law_flags T__law_made m_abs m_range m_min m_len m_repr m_isinstance m_ValueError _ _ (fun_mk l4 c4 k4)⟩
end Cc
open PySem PySem.W PyProof.Rows
set_option maxHeartbeats 0 in
theorem PySem.Challenge.cw_castchains_k01_errors_and_their_values_holds : PySem.Challenge.rw_castchains_k01_errors_and_their_values.Holds := by
  w_on; o_law; k_head; (case hw => w_witness2)
  k_fill
  refine Cc.walkG (l := PySem.Challenge.rw_castchains_k01_errors_and_their_values) (n := 63) (k := 5) (x := "script") (sp := fun K => Cc.spLaw K) rfl (by decide) rfl ⟨rfl, by decide, by decide⟩ (fun w h Y => PySem.W.kIn_of Y) ?F (fun _ _ a ns hl _ hS => ⟨a, ns, rfl, hS, hl, fun _ => rfl⟩)
  case F =>
    intro w mg fa h KX G hmg
    refine' Cc.all_mk KX G hmg ?a0 ?l0 ?c0 ?k0 ?a1 ?l1 ?c1 ?k1 ?a2 ?l2 ?c2 ?k2 ?a3 ?l3 ?c3 ?k3 ?a4 ?l4 ?c4 ?k4 ?z_abs ?z_range ?z_min ?z_len ?z_repr ?z_isinstance ?z_ValueError ?gC0 ?xL0 ?bv0 ?sa0 ?ga0 ?gg0 ?nb0 ?iC0 ?tI0 ?lI0 ?cI0 ?kI0 ?kC0 ?eC0 ?tC0 ?hC0 ?cl0 ?mo0 ?hn ?ht ?gC1 ?xL1 ?bv1 ?sa1 ?ga1 ?gg1 ?nb1 ?iC1 ?tI1 ?lI1 ?cI1 ?kI1 ?kC1 ?eC1 ?tC1 ?hC1 ?cl1 ?mo1 ?gC2 ?xL2 ?bv2 ?sa2 ?ga2 ?gg2 ?nb2 ?iC2 ?tI2 ?lI2 ?cI2 ?kI2 ?kC2 ?eC2 ?tC2 ?hC2 ?cl2 ?mo2 ?gC3 ?xL3 ?bv3 ?sa3 ?ga3 ?gg3 ?nb3 ?iC3 ?tI3 ?lI3 ?cI3 ?kI3 ?kC3 ?eC3 ?tC3 ?hC3 ?cl3 ?mo3 ?gC4 ?xL4 ?bv4 ?sa4 ?ga4 ?gg4 ?nb4 ?iC4 ?tI4 ?lI4 ?cI4 ?kI4 ?kC4 ?eC4 ?tC4 ?hC4 ?cl4 ?mo4 ?gC5 ?xL5 ?bv5 ?sa5 ?ga5 ?gg5 ?nb5 ?iC5 ?tI5 ?lI5 ?cI5 ?kI5 ?kC5 ?eC5 ?tC5 ?hC5 ?cl5 ?mo5 ?gC6 ?xL6 ?bv6 ?sa6 ?ga6 ?gg6 ?nb6 ?iC6 ?tI6 ?lI6 ?cI6 ?kI6 ?kC6 ?eC6 ?tC6 ?hC6 ?cl6 ?mo6 ?gCst ?kt0_0 ?kt0_1 ?kt0_2 ?kt0_3 ?kt0_4 ?kt0_5 ?kt0_6 ?kb0 ?kv0 ?kt1_0 ?kt1_1 ?kt1_2 ?kt1_3 ?kt1_4 ?kt1_5 ?kt1_6 ?kb1 ?kv1 ?kt2_0 ?kt2_1 ?kt2_2 ?kt2_3 ?kt2_4 ?kt2_5 ?kt2_6 ?kb2 ?kv2 ?kt3_0 ?kt3_1 ?kt3_2 ?kt3_3 ?kt3_4 ?kt3_5 ?kt3_6 ?kb3 ?kv3 ?kt4_0 ?kt4_1 ?kt4_2 ?kt4_3 ?kt4_4 ?kt4_5 ?kt4_6 ?kb4 ?kv4 ?kt5_0 ?kt5_1 ?kt5_2 ?kt5_3 ?kt5_4 ?kt5_5 ?kt5_6 ?kb5 ?kv5 ?kt6_0 ?kt6_1 ?kt6_2 ?kt6_3 ?kt6_4 ?kt6_5 ?kt6_6 ?kb6 ?kv6
    (case a0 => k_is); (case l0 => k_is); (case c0 => k_is); (case k0 => k_is); (case a1 => k_is); (case l1 => k_is); (case c1 => k_is); (case k1 => k_is); (case a2 => k_is); (case l2 => k_is); (case c2 => k_is); (case k2 => k_is); (case a3 => k_is); (case l3 => k_is); (case c3 => k_is); (case k3 => k_is); (case a4 => k_is); (case l4 => k_is); (case c4 => k_is); (case k4 => k_is); (case z_abs => k_is); (case z_range => k_is); (case z_min => k_is); (case z_len => k_is); (case z_repr => k_is); (case z_isinstance => k_is); (case z_ValueError => k_is); (case gC0 => k_is); (case xL0 => k_is); (case bv0 => decide +kernel); (case sa0 => k_is); (case ga0 => k_is); (case gg0 => k_is); (case nb0 => k_is); (case iC0 => k_is); (case tI0 => k_is); (case lI0 => k_is); (case cI0 => k_is); (case kI0 => k_is); (case kC0 => k_is); (case eC0 => k_is); (case tC0 => k_is); (case hC0 => k_is); (case cl0 => k_is); (case mo0 => k_is); (case hn => k_is); (case ht => k_is); (case gC1 => k_is); (case xL1 => k_is); (case bv1 => decide +kernel); (case sa1 => k_is); (case ga1 => k_is); (case gg1 => k_is); (case nb1 => k_is); (case iC1 => k_is); (case tI1 => k_is); (case lI1 => k_is); (case cI1 => k_is); (case kI1 => k_is); (case kC1 => k_is); (case eC1 => k_is); (case tC1 => k_is); (case hC1 => k_is); (case cl1 => k_is); (case mo1 => k_is); (case gC2 => k_is); (case xL2 => k_is); (case bv2 => decide +kernel); (case sa2 => k_is); (case ga2 => k_is); (case gg2 => k_is); (case nb2 => k_is); (case iC2 => k_is); (case tI2 => k_is); (case lI2 => k_is); (case cI2 => k_is); (case kI2 => k_is); (case kC2 => k_is); (case eC2 => k_is); (case tC2 => k_is); (case hC2 => k_is); (case cl2 => k_is); (case mo2 => k_is); (case gC3 => k_is); (case xL3 => k_is); (case bv3 => decide +kernel); (case sa3 => k_is); (case ga3 => k_is); (case gg3 => k_is); (case nb3 => k_is); (case iC3 => k_is); (case tI3 => k_is); (case lI3 => k_is); (case cI3 => k_is); (case kI3 => k_is); (case kC3 => k_is); (case eC3 => k_is); (case tC3 => k_is); (case hC3 => k_is); (case cl3 => k_is); (case mo3 => k_is); (case gC4 => k_is); (case xL4 => k_is); (case bv4 => decide +kernel); (case sa4 => k_is); (case ga4 => k_is); (case gg4 => k_is); (case nb4 => k_is); (case iC4 => k_is); (case tI4 => k_is); (case lI4 => k_is); (case cI4 => k_is); (case kI4 => k_is); (case kC4 => k_is); (case eC4 => k_is); (case tC4 => k_is); (case hC4 => k_is); (case cl4 => k_is); (case mo4 => k_is); (case gC5 => k_is); (case xL5 => k_is); (case bv5 => decide +kernel); (case sa5 => k_is); (case ga5 => k_is); (case gg5 => k_is); (case nb5 => k_is); (case iC5 => k_is); (case tI5 => k_is); (case lI5 => k_is); (case cI5 => k_is); (case kI5 => k_is); (case kC5 => k_is); (case eC5 => k_is); (case tC5 => k_is); (case hC5 => k_is); (case cl5 => k_is); (case mo5 => k_is); (case gC6 => k_is); (case xL6 => k_is); (case bv6 => decide +kernel); (case sa6 => k_is); (case ga6 => k_is); (case gg6 => k_is); (case nb6 => k_is); (case iC6 => k_is); (case tI6 => k_is); (case lI6 => k_is); (case cI6 => k_is); (case kI6 => k_is); (case kC6 => k_is); (case eC6 => k_is); (case tC6 => k_is); (case hC6 => k_is); (case cl6 => k_is); (case mo6 => k_is); (case gCst => k_is); (case kt0_0 => kit_is); (case kt0_1 => kit_is); (case kt0_2 => kit_is); (case kt0_3 => kit_is); (case kt0_4 => kit_is); (case kt0_5 => kit_is); (case kt0_6 => kit_is); (case kb0 => kit_is); (case kv0 => kit_is); (case kt1_0 => kit_is); (case kt1_1 => kit_is); (case kt1_2 => kit_is); (case kt1_3 => kit_is); (case kt1_4 => kit_is); (case kt1_5 => kit_is); (case kt1_6 => kit_is); (case kb1 => kit_is); (case kv1 => kit_is); (case kt2_0 => kit_is); (case kt2_1 => kit_is); (case kt2_2 => kit_is); (case kt2_3 => kit_is); (case kt2_4 => kit_is); (case kt2_5 => kit_is); (case kt2_6 => kit_is); (case kb2 => kit_is); (case kv2 => kit_is); (case kt3_0 => kit_is); (case kt3_1 => kit_is); (case kt3_2 => kit_is); (case kt3_3 => kit_is); (case kt3_4 => kit_is); (case kt3_5 => kit_is); (case kt3_6 => kit_is); (case kb3 => kit_is); (case kv3 => kit_is); (case kt4_0 => kit_is); (case kt4_1 => kit_is); (case kt4_2 => kit_is); (case kt4_3 => kit_is); (case kt4_4 => kit_is); (case kt4_5 => kit_is); (case kt4_6 => kit_is); (case kb4 => kit_is); (case kv4 => kit_is); (case kt5_0 => kit_is); (case kt5_1 => kit_is); (case kt5_2 => kit_is); (case kt5_3 => kit_is); (case kt5_4 => kit_is); (case kt5_5 => kit_is); (case kt5_6 => kit_is); (case kb5 => kit_is); (case kv5 => kit_is); (case kt6_0 => kit_is); (case kt6_1 => kit_is); (case kt6_2 => kit_is); (case kt6_3 => kit_is); (case kt6_4 => kit_is); (case kt6_5 => kit_is); (case kt6_6 => kit_is); (case kb6 => kit_is); (case kv6 => kit_is)

