import PyProof.Rows.All
import Wide.All
import OpenK.AllK
import Wide.FinOn
import HandS.ForMost
import HandS.Flow
import HandS.Wide
import HandS.WideBits
import HandS.RaiseMore
import HandS.SortInts
import PySem.Challenge.RW_castchains_k03_whole_casts_by_binary_dig
set_option Elab.async false
set_option linter.all false
set_option maxRecDepth 100000
set_option maxHeartbeats 4000000
/-! A promise that is kept where no repr is under way; repr of plain data; powers of great ints; the frame around one list of ints that changes. -/
namespace Cc
open PySem PySem.Spec PyProof.Rows L2

/-! ### promises where no repr is under way -/
structure FnG (P : Program) (w : World) (K : PySem.W.Frag) (mg : Str → Option Value) (base : Heap) (CX : CXT) (k : Nat) (f : Addr) (fd : FuncData) (ps : List Str) (sp : Sp) : Prop where
  long : ∀ vs H Q E, sp vs H Q E → vs.length = ps.length
  goes : ∀ (A : Around), A.guards = some [] → Room k A → ∀ (outer : List Env) (s : Shared) (H : Hp), Env0 P w K mg base A outer s H → ∀ (args : Args) (us : List Value) (vs : List V) (Q : VK) (E : XK),
    BindsTo s fd args (ps.zip us) → Vals vs us → sp vs H Q E → codeAny (model P w) A (.call (.ref f) args) (CR CX outer P w H s Q E) s
section
variable {P : Program} {w : World} {K : PySem.W.Frag} {mg : Str → Option Value} {base : Heap} {CX : CXT} {k : Nat} {f : Addr} {fd : FuncData} {N ps : List Str} {sp : Sp}
theorem FnG.of (F : FnOk P w K mg base CX k f fd ps sp) : FnG P w K mg base CX k f fd ps sp :=
  ⟨F.len, fun A _ hr outer s H e0 args us vs Q E hb rv hs => F.run A outer s H args us vs Q E hr e0 hb rv hs⟩
theorem FnG.mono {j : Nat} (F : FnG P w K mg base CX j f fd ps sp) (h : j ≤ k) : FnG P w K mg base CX k f fd ps sp :=
  ⟨F.long, fun A hg hr => F.goes A hg (hr.mono h)⟩

theorem ce_of {cX : Cx} {outer : List Env} {s s' : Shared} {H H' : Hp} {Q : VK} {σ : L2.St} {v : V} {u : Value}
    (J : Inv cX [] σ H' s') (e0 : cX.prog = P) (e1 : cX.w = w) (e2 : cX.s_0 = s) (e3 : cX.H_0 = H) (e4 : cX.outer = outer) (e5 : cX.ex = []) (rv : RelV v u) (q : Q v H') : CE outer P w H s Q u s' := by
  subst e0 e1 e2 e3 e4
  refine ⟨v, H', J.os, J.bare, ?_, J.hok, rv, q⟩
  have b := J.base
  rw [e5] at b
  exact b
/-- a def by its body, at one place in a run -/
theorem def_at {qual : Str} {scope : Scope} {name : Str} {params : Arguments} {body : List Stmt} {dV kV doc pm cdv ct oc : Value} {an od : Option Addr} {osl : Array (Option Value)}
    (lk : K.lookup f = some ⟨oc, od, .func (PySem.W.fnOf name qual params body scope dV kV doc pm an cdv ct), osl⟩) (hcd : PySem.W.codeIn K cdv qual = true) (S : FnScope N ps scope)
    {A : Around} {outer : List Env} {s : Shared} {H : Hp} {args : Args} {us : List Value} {vs : List V} {Q : VK} {E : XK} {t : TS}
    (hr : Room (k + 1) A) (e0 : Env0 P w K mg base A outer s H) (hb : BindsTo s (PySem.W.fnOf name qual params body scope dV kV doc pm an cdv ct) args (ps.zip us)) (rv : Vals vs us) (hl : vs.length = ps.length)
    (ht : PSs (cxOf CX P w K mg base N qual scope f cdv A outer s H E) body t) (hq : t { nx := fun _ H' => Q .non H', rt := Q } (start N vs) H) :
    codeAny (model P w) A (.call (.ref f) args) (CR CX outer P w H s Q E) s := by
  have inK : K.In s.heap := e0.mod.kin.keeps fun b o e => (e0.bs b o e).1
  refine codeAny_call_function hr.depth (inK _ _ lk) rfl S.co S.gen rfl (PySem.W.codeRec_of inK hcd) (hb _ _ _ _ ?_)
  have kinds : ∀ y ∈ ps.zip us, scope.names.lookup y.1 = some .local ∨ (scope.names.lookup y.1 = some .cell ∧ ((cellsFrom (s.heap.objs.size + 1) scope.names []).lookup y.1).isSome = true) := by
    intro y hy
    obtain ⟨n, v⟩ := y
    cases S.par n (List.of_mem_zip hy).1 with
    | inl q => exact .inl q
    | inr q => exact .inr ⟨q, PySem.W.cellsFrom_some _ _ _ (.inl q)⟩
  refine wpAny_newFunctionEnv_cells S.kind kinds fun env he s1 x => ?_
  cases he
  have lim : s.heap.NoLimit := e0.mod.nolimit.keeps fun b o e => (e0.bs b o e).1
  refine ⟨lim.keeps x.toInCall.keep, codeAny_func ?_⟩
  have I : Inv (cxOf CX P w K mg base N qual scope f cdv A outer s H E) [] (start N vs) H s1 := inv_start S hr.hd e0 hl rv x
  refine wpAny_mono (ht.run [] s1 (start N vs) H _ I hq) (fun fl s' hs => ?_) fun _ _ h => h
  cases fl with
  | next =>
    obtain ⟨σ', H', J, q⟩ := hs
    exact ce_of (v := V.non) (u := Value.none) J rfl rfl rfl rfl rfl rfl rfl q
  | ret u =>
    obtain ⟨v, σ', H', J, rv', q⟩ := hs
    exact ce_of J rfl rfl rfl rfl rfl rfl rv' q
  | brk =>
    obtain ⟨_, _, _, q⟩ := hs
    exact False.elim q
  | cont =>
    obtain ⟨_, _, _, q⟩ := hs
    exact False.elim q
/-- a def of the text, its body read where no repr is under way -/
theorem okG {x qual : Str} {st : Stmt} (F : Fun K x qual st f fd) (S : FnScope N ps (defScope st)) (len : ∀ vs H Q E, sp vs H Q E → vs.length = ps.length)
    (hbody : ∀ (cdv : Value) (A : Around) (outer : List Env) (s : Shared) (H : Hp) (vs : List V) (Q : VK) (E : XK), A.guards = some [] → Room k (A.deeper (envOfC qual (defScope st) s.heap.objs.size f cdv)) → sp vs H Q E →
      ∃ t, PSs (cxOf CX0 P w K mg base N qual (defScope st) f cdv A outer s H E).nox (defBody st) t ∧ t { nx := fun _ H' => Q .non H', rt := Q } (start N vs) H) :
    FnG P w K mg base CX0 (k + 1) f fd ps sp := by
  obtain ⟨oc, od, kV, doc, pm, an, cdv, ct, osl, rfl, lk, hcd⟩ := F.ex
  refine ⟨len, fun A hg hr outer s H e0 args us vs Q E hb rv hs => ?_⟩
  obtain ⟨t, h, q⟩ := hbody cdv A outer s H vs Q E hg (hr.deeper _) hs
  exact def_at lk hcd S hr e0 hb rv (len _ _ _ _ hs) h.nox q
end

section
variable {X : Cx} {CX : CXT} {k : Nat} {f : Addr} {fd : FuncData} {ps : List Str} {sp : Sp} {dvs : List V} {ds : List Value} {E : XK} {x : Str} {p pos : Pos} {e : Expr} {es : List Expr} {t : TA}
theorem runG {pins : List (Addr × Obj)} {σ : L2.St} {H : Hp} {s : Shared} {Q : VK} {us : List Value} {vs : List V} (F : FnG X.prog X.w X.K X.mg X.base CX k f fd ps sp) (hG : X.A.guards = some []) (hr : Room k X.A) (hb : Binds X.K fd ps ds) (hd : Vals dvs ds) (hx : Passes CX X E)
    (I : Inv X pins σ H s) (r : Vals vs us) (h : sp (vs ++ dvs) H Q E) : wpAny (model X.prog X.w) X.A (call (.ref f) us) (EP X pins σ Q) X.xe s := by
  have both : Vals (vs ++ dvs) (us ++ ds) := r.append hd
  have many : (us ++ ds).length = ps.length := both.length.symm.trans (F.long _ _ _ _ h)
  refine wpAny_call (codeAny_mono (F.goes X.A hG hr X.stack s H I.env0 ⟨us, []⟩ (us ++ ds) (vs ++ dvs) Q E (hb s us I.kIn many) both h) fun r s' hq => ?_)
  match r, hq with
  | .error e, hq => exact hx pins σ H s e s' I hq
  | .ok (.ret u), hq => exact I.after hq
  | .ok .next, hq => exact hq.elim
  | .ok .brk, hq => exact hq.elim
  | .ok .cont, hq => exact hq.elim
/-- f(e, ..) -/
theorem pe_callG (F : FnG X.prog X.w X.K X.mg X.base CX k f fd ps sp) (hG : X.A.guards = some []) (hr : Room k X.A) (hg : Gl X x) (hm : X.mg x = some (.ref f)) (hk : PySem.W.keepIn X.K (.ref f) = true) (hb : Binds X.K fd ps ds) (hd : Vals dvs ds) (hx : Passes CX X E)
    (ha : PA X (e :: es) t) (hdb : (x == ("__debug__" : Str)) = false := by decide) (he : starEach (e :: es) X.env = (false, eval e X.env) :: starEach es X.env := by rfl) (hpl : (backTo pos (starEach es X.env)).any (·.1) = false := by rfl) :
    PE X (.Call (.Name x p) (e :: es) [] pos) (tCall sp dvs E t) :=
  ⟨fun pins s σ H Q I h => wpAny_Call_Name_kw (ld_glob I hg hm (PySem.W.callWith_K (h₀ := X.base) I.ok.mod.kin hk (thn (ha.run pos pins s σ H _ I h) fun us s1 ⟨vs, H1, I1, r, q⟩ => ⟨I1.kIn, runG F hG hr hb hd hx I1 r q⟩) he hpl) hdb)⟩
end

/-! ### the law's own call -/
theorem law_at {P : Program} {w : World} {K : PySem.W.Frag} {mg mb : Str → Option Value} {k : Nat} {fa a : Addr} {fd : FuncData} {x : Str} {sp : Sp} {s₁ : Shared} {vs : List Value} {ns : List Int}
    (inK : K.In s₁.heap) (hns : s₁.heap.Ns mainGlobals mg) (hb : s₁.heap.Ns builtinsNs mb) (hbb : ∀ x : Str, x ≠ "__name__" → mb x = bootBuiltins x) (hlim : s₁.heap.NoLimit) (hg : s₁.gens = #[])
    (ha : s₁.heap.get? a = some { cls := .type "list", data := .seq vs.toArray }) (hi : IntsAre vs ns) (hl : ns.length ≤ sizeLine) (hr : Room k callerA)
    (F : ∀ base : Heap, K.In base → base.Ns mainGlobals mg → FnG P w K mg base CX0 k fa fd [x] sp) (hbind : ∀ (s : Shared) (u : Value), BindsTo s fd ⟨[u], []⟩ [(x, u)])
    (hsp : ∀ H : Hp, Only H → SqL K H a (ns.map V.int) → sp [.ref a] H (fun v _ => v = .bl true) fun _ _ _ => False) :
    codeAny (model P w) callerA (.call (.ref fa) ⟨[.ref a], []⟩) (fun r s' => r = .ok (.ret (.bool true)) ∧ OldK s₁.heap s'.heap ∧ s'.os = s₁.os ∧ AllBare s'.gens) s₁ := by
  -- what is tracked is the script at most
  suffices core : ∀ H : Hp, (∀ b u, H b = some u → b = a ∧ u = .frz { cls := .type "list", data := .seq vs.toArray } (.lst (ns.map V.int)) ∧ K.lookup a = none) → SqL K H a (ns.map V.int) → HOk P w H s₁.heap →
      codeAny (model P w) callerA (.call (.ref fa) ⟨[.ref a], []⟩) (fun r s' => r = .ok (.ret (.bool true)) ∧ OldK s₁.heap s'.heap ∧ s'.os = s₁.os ∧ AllBare s'.gens) s₁ by
    cases hk : K.lookup a with
    | none =>
      refine core (fun b => if b = a then some (.frz { cls := .type "list", data := .seq vs.toArray } (.lst (ns.map V.int))) else none) (fun b u z => ?_) (.inl (.inr ⟨_, if_pos rfl⟩)) fun b u z => ?_
      · by_cases hb : b = a
        · exact ⟨hb, Option.some.inj (z.symm.trans (if_pos hb)), hk⟩
        · exact nomatch (if_neg hb).symm.trans z
      · by_cases hb : b = a
        · obtain rfl := Option.some.inj ((if_pos hb).symm.trans z)
          subst hb
          exact ⟨ha, by rw [List.length_map]; exact hl, vs, _, vals_ints hi, ha⟩
        · exact nomatch (if_neg hb).symm.trans z
    | some o =>
      have e := (inK a o hk).symm.trans ha
      cases e
      refine core (fun _ => none) (fun b u z => nomatch (show (none : Option HO) = some u from z)) (.inr ⟨_, vs.toArray, _, hk, rfl, rfl, rfl, ?_, ?_⟩) fun b u z => nomatch (show (none : Option HO) = some u from z)
      · rw [List.size_toArray, hi.length]; exact hl
      · simpa using vals_ints hi
  intro H only hS hok
  have off : ∀ {b : Addr} {o : Obj}, s₁.heap.get? b = some o → (b = a → False) → (hidT s₁.heap H).get? b = some o := fun {b o} e hne => hidT_get e (by
    cases q : H b with
    | none => rfl
    | some u => exact (hne (only b u q).1).elim)
  have dic : ∀ {b : Addr} {m : Str → Option Value}, s₁.heap.Ns b m → (hidT s₁.heap H).Ns b m := fun {b m} ⟨o, es, ep, e, d, r⟩ => ⟨o, es, ep, off e (fun hba => by
    rw [hba, ha] at e
    cases e
    exact nomatch (show Data.seq vs.toArray _ = Data.dict es ep from d)), d, r⟩
  have inB : K.In (hidT s₁.heap H) := fun b o e => hidT_get (inK b o e) (by
    cases q : H b with
    | none => rfl
    | some u =>
      obtain ⟨hba, _, hn⟩ := only b u q
      rw [hba, hn] at e
      cases e)
  have md : Mod K mg (hidT s₁.heap H) := ⟨inB, dic hns, ⟨mb, dic hb, hbb⟩, let ⟨mc, h1, h2⟩ := hlim; ⟨mc, dic h1, h2⟩⟩
  have e0 : Env0 P w K mg (hidT s₁.heap H) callerA [] s₁ H := ⟨rfl, md, fun _ _ e => of_hidT e, Nat.le_of_eq (hidT_size _ _), trivial, fun b hb => absurd (show b ∈ ([] : List Addr) from hb) (fun z => nomatch z), hok, .of_eq hg⟩
  have oH : Only H := fun b => by
    cases q : H b with
    | none => exact .inl rfl
    | some u => exact .inr ⟨_, _, congrArg some (only b u q).2.1⟩
  refine codeAny_mono ((F _ inB (dic hns)).goes callerA rfl hr [] s₁ H e0 ⟨[.ref a], []⟩ [.ref a] [.ref a] _ _ (hbind s₁ (.ref a)) (.cons rfl .nil) (hsp H oH hS)) fun r s' h => ?_
  match r, h with
  | .error e, h => exact h.elim
  | .ok .next, h => exact h.elim
  | .ok .brk, h => exact h.elim
  | .ok .cont, h => exact h.elim
  | .ok (.ret u), h =>
    obtain ⟨v, H', os, bare, un, hok', rv, q⟩ := h
    cases (show v = .bl true from q)
    cases (show u = Value.bool true from rv)
    refine ⟨rfl, OldK.of_keep fun b o e => ?_, os, bare⟩
    cases q : H b with
    | none => exact un.keep b o e q (fun z => nomatch z) (fun z => nomatch z)
    | some u =>
      obtain ⟨_, rfl, _⟩ := only b u q
      have e1 := (hok b _ q).1
      have e2 := (hok' b _ (un.frzs b _ _ q)).1
      exact e2.trans (e1.symm.trans e)
/-- the goal behind k_head -/
theorem walkG {l : PySem.W.OpenLaw} {n k : Nat} {q : Program} {loose : List Str} {XP : (Str → Option Value) → Heap → Prop} {YP : World → Heap → Prop} {d : DefRec} {K : Params → PySem.W.Frag} {sp : PySem.W.Frag → Sp} {x : Str}
    (hn : l.most = some n) (hn2 : n ≤ sizeLine) (hdf : d.params.defaults = []) (hr : Room k callerA) (hY : ∀ (w : World) (h : Heap), YP w h → (K w.params).In h)
    (F : ∀ (w : World) (mg : Str → Option Value) (fa : Addr) (h : Heap), (K w.params).In h → h.Ns mainGlobals mg → mg d.name = some (.ref fa) →
      ∃ fd : FuncData, (∀ (s : Shared) (u : Value), BindsTo s fd ⟨[u], []⟩ [(x, u)]) ∧ ∀ base : Heap, (K w.params).In base → base.Ns mainGlobals mg → FnG l.prog w (K w.params) mg base CX0 k fa fd [x] (sp (K w.params)))
    (hsp : ∀ (K : PySem.W.Frag) (H : Hp) (a : Addr) (ns : List Int), ns.length ≤ n → Only H → SqL K H a (ns.map V.int) → sp K [.ref a] H (fun v _ => v = .bl true) fun _ _ _ => False) :
    PySem.W.WalkO q loose XP YP l.row.toRowW d [] (fun f vs => PySem.call f vs) := by
  refine Att.attach_call hn hdf fun w s₀ s₁ mg mb fa o pm cd doc a vs ns G Y ho hd hcd hmg hobj hints hlen hg => ?_
  obtain ⟨fd, hb, hF⟩ := F w mg fa _ (hY w _ Y) G.T.g hmg
  exact law_at (hY w _ Y) G.T.g G.T.b G.T.builtins G.T.nolimit hg hobj hints (Nat.le_trans hlen hn2) hr hF hb fun H oH hS => hsp (K w.params) H a ns hlen oH hS

/-! ### repr of plain data -/
section
variable {X : Cx}
def rRepD (K : PySem.W.Frag) : List V → Hp → VK → Prop := fun xs H Q => ∃ v d, xs = [v] ∧ Dp K H v d ∧ d.showable = true ∧ d.depth ≤ 60 ∧ d.shown.length ≤ sizeLine ∧ Q (.str d.shown) H
theorem noDict {K : PySem.W.Frag} {H : Hp} : (∀ (d : PyData) (v : V), Dp K H v d → d.hasDict = false) ∧ True := by
  refine ⟨?_, trivial⟩
  intro d
  refine PyData.rec (motive_1 := fun d => ∀ v, Dp K H v d → d.hasDict = false) (motive_2 := fun ds => ∀ vs, DpAll K H vs ds → PyData.hasDictAll ds = false) (motive_3 := fun _ => True) (motive_4 := fun _ => True) ?_ ?_ ?_ ?_ ?_ ?_ ?_ ?_ ?_ ?_ ?_ ?_ d
  · intro v _; simp only [PyData.hasDict]
  · intro b v _; simp only [PyData.hasDict]
  · intro i v _; simp only [PyData.hasDict]
  · intro x v _; simp only [PyData.hasDict]
  · intro ds ih v h
    cases h with
    | lst _ ha => simp only [PyData.hasDict]; exact ih _ ha
  · intro ds ih v h
    cases h with
    | tup _ ha => simp only [PyData.hasDict]; exact ih _ ha
  · intro kvs _ v h
    cases h
  · intro vs _; simp only [PyData.hasDictAll]
  · intro d ds ih1 ih2 vs h
    cases h with
    | cons h1 h2 => simp only [PyData.hasDictAll, ih1 _ h1, ih2 _ h2, Bool.or_self]
  all_goals (intros; trivial)
theorem cr_repD (hG : X.A.guards = some []) (hu : X.A.units + 64 < cLine) : CallR X (.builtin "repr") (rRepD X.K) := by
  intro pins s σ H xs us Q I r h
  obtain ⟨v, d, rfl, hd, hs, hdp, hz, q⟩ := h
  obtain ⟨u, rfl, ru⟩ := vals1 r
  cases v with
  | ref a =>
    cases ru
    obtain ⟨as, rd⟩ := Dp.reads I d _ _ hd rfl
    exact repr_of_reads' rd hs (PyData.noDict_hsm (noDict.1 d _ hd)) hG (by omega) (fun _ _ e => e) (fun h' u tk hk => ⟨.str _, H, I.kept hk, ⟨_, rfl⟩, q⟩) hz
  | int i =>
    cases hd
    obtain ⟨t, rfl⟩ := ru
    exact PySem.P.repr_of_int (by simpa [PyData.showable] using hs) ⟨.str _, H, I.tok _, ⟨_, rfl⟩, q⟩
  | str x =>
    cases hd
    obtain ⟨t, rfl⟩ := ru
    exact PySem.P.repr_of_str ⟨.str _, H, I.tok _, ⟨_, rfl⟩, q⟩ hz
  | non =>
    cases hd
    cases ru
    exact PySem.P.repr_of_none ⟨.str _, H, I.tok _, ⟨_, rfl⟩, q⟩
  | bl b =>
    cases hd
    cases ru
    exact PySem.P.repr_of_bool ⟨.str _, H, I.tok _, ⟨_, rfl⟩, q⟩
  | byt b => cases hd
  | flt b => cases hd
  | ty n => cases hd
/-- a power of a great int -/
theorem op_powX : OpR X (binaryOp .Pow) (rI (fun i j => 0 ≤ j ∧ j ≤ 64 ∧ i.natAbs < 2 ^ 4000) fun i j => .int (i ^ j.toNat)) := opI fun i j _ _ _ _ _ hc q => by
  refine pow_int hc.1 ?_ q
  have b : (Builtin.Int.intBits i : Int) ≤ 4001 := by
    have h := PySem.Flt.log2_lt_of (k := 4000) (by omega) hc.2.2
    unfold Builtin.Int.intBits
    split <;> omega
  have n0 : (0 : Int) ≤ Builtin.Int.intBits i := Int.natCast_nonneg _
  have : (Builtin.Int.intBits i : Int) * j ≤ 4001 * 64 := Int.mul_le_mul b hc.2.1 hc.1 (by decide)
  have e : (2 : Int) ^ 27 = 134217728 := by decide
  omega
end
end Cc

set_option Elab.async false
set_option linter.all false
set_option maxRecDepth 100000
set_option maxHeartbeats 4000000
namespace Cc
open PySem PySem.Spec PyProof.Rows L2

/-! ### a def of the text by its name -/
def Tx (K : PySem.W.Frag) (mg : Str → Option Value) (x : Str) (st : Stmt) : Prop := ∃ f fd, Fun K x x st f fd ∧ mg x = some (.ref f)
/-- what a def of this name keeps -/
def Pr (P : Program) (w : World) (K : PySem.W.Frag) (mg : Str → Option Value) (base : Heap) (CX : CXT) (k : Nat) (x : Str) (ps : List Str) (sp : Sp) : Prop :=
  ∃ f fd, FnG P w K mg base CX k f fd ps sp ∧ mg x = some (.ref f) ∧ PySem.W.keepIn K (.ref f) = true ∧ Binds K fd ps []
section
variable {P : Program} {w : World} {K : PySem.W.Frag} {mg : Str → Option Value} {base : Heap} {k : Nat} {x : Str} {st : Stmt} {N ps : List Str} {sp : Sp}
theorem mkP (T : Tx K mg x st) (S : FnScope N ps (defScope st))
    (bi : ∀ (kV doc pm : Value) (an : Option Addr) (cdv ct : Value) (us : List Value), us.length = ps.length → bindArgs (PySem.W.fnOf x x (defArgs st) (defBody st) (defScope st) .none kV doc pm an cdv ct) ⟨us, []⟩ = pure (ps.zip us))
    (len : ∀ vs H Q E, sp vs H Q E → vs.length = ps.length)
    (hbody : ∀ (f : Addr) (cdv : Value) (A : Around) (outer : List Env) (s : Shared) (H : Hp) (vs : List V) (Q : VK) (E : XK), A.guards = some [] → Room k (A.deeper (envOfC x (defScope st) s.heap.objs.size f cdv)) → sp vs H Q E →
      ∃ t, PSs (cxOf CX0 P w K mg base N x (defScope st) f cdv A outer s H E).nox (defBody st) t ∧ t { nx := fun _ H' => Q .non H', rt := Q } (start N vs) H) :
    Pr P w K mg base CX0 (k + 1) x ps sp := by
  obtain ⟨f, fd, F, g⟩ := T
  exact ⟨f, fd, okG F S len (hbody f), g, F.kp, F.binds bi⟩
end
/-- the same of the def wherever its object stands -/
def PrAt (P : Program) (w : World) (K : PySem.W.Frag) (mg : Str → Option Value) (base : Heap) (CX : CXT) (k : Nat) (x : Str) (st : Stmt) (ps : List Str) (sp : Sp) : Prop :=
  ∀ f fd, Fun K x x st f fd → FnG P w K mg base CX k f fd ps sp
section
variable {P : Program} {w : World} {K : PySem.W.Frag} {mg : Str → Option Value} {base : Heap} {k : Nat} {x : Str} {st : Stmt} {N ps : List Str} {sp : Sp}
theorem mkA (S : FnScope N ps (defScope st)) (len : ∀ vs H Q E, sp vs H Q E → vs.length = ps.length)
    (hbody : ∀ (f : Addr) (cdv : Value) (A : Around) (outer : List Env) (s : Shared) (H : Hp) (vs : List V) (Q : VK) (E : XK), A.guards = some [] → Room k (A.deeper (envOfC x (defScope st) s.heap.objs.size f cdv)) → sp vs H Q E →
      ∃ t, PSs (cxOf CX0 P w K mg base N x (defScope st) f cdv A outer s H E).nox (defBody st) t ∧ t { nx := fun _ H' => Q .non H', rt := Q } (start N vs) H) :
    PrAt P w K mg base CX0 (k + 1) x st ps sp := fun f fd F => okG F S len (hbody f)
theorem tx_mk {f : Addr} {h : Heap} {oc : Value} {od an : Option Addr} {osl : Array (Option Value)} {kV doc pm cdv ct : Value} (X : K.In h) (G : h.Ns mainGlobals mg) (a : PySem.W.nsIn K mainGlobals x = some (some (.ref f)))
    (l : K.lookup f = some ⟨oc, od, .func (PySem.W.fnOf x x (defArgs st) (defBody st) (defScope st) .none kV doc pm an cdv ct), osl⟩) (c : PySem.W.codeIn K cdv x = true) (kp : PySem.W.keepIn K (.ref f) = true) : Tx K mg x st :=
  ⟨f, _, fun_mk l c kp, PySem.W.mg_of X G a⟩
end
section
variable {X : Cx} {CX : CXT} {j k : Nat} {ps : List Str} {sp : Sp} {x : Str} {p pos : Pos} {e : Expr} {es : List Expr} {t : TA}
theorem pe_P (h : Pr X.prog X.w X.K X.mg X.base CX0 j x ps sp) (hr : Room k X.A) (hG : X.A.guards = some []) (hg : Gl X x) (ha : PA X (e :: es) t) (hj : j ≤ k := by decide)
    (hdb : (x == ("__debug__" : Str)) = false := by decide) (he : starEach (e :: es) X.env = (false, eval e X.env) :: starEach es X.env := by rfl) (hpl : (backTo pos (starEach es X.env)).any (·.1) = false := by rfl) :
    PE X (.Call (.Name x p) (e :: es) [] pos) (tCall sp [] E0 t) := by
  obtain ⟨f, fd, F, g, kp, b⟩ := h
  exact pe_callG F hG (hr.mono hj) hg g kp b .nil pass0 ha hdb he hpl
end

/-! ### readings, one step each -/
theorem cxK {CX : CXT} {P : Program} {w : World} {K : PySem.W.Frag} {mg : Str → Option Value} {base : Heap} {N : List Str} {qual : Str} {scope : Scope} {f : Addr} {cd : Value} {A : Around} {outer : List Env} {s : Shared} {H : Hp} {E : XK} :
    (cxOf CX P w K mg base N qual scope f cd A outer s H E).K = K := rfl
section
variable {σ : L2.St} {H : Hp} {Q : VK} {K : PySem.W.Frag} {v x : V} {a b i' : Int} {i n : Nat} {s z : Str} {o : Option V} {k : Bool}
theorem x_var0 {r : L2.St} : tVar 0 (some v :: r) H Q ↔ Q v H := ⟨fun ⟨u, e, q⟩ => by cases e; exact q, fun q => ⟨v, rfl, q⟩⟩
theorem x_varS {r : L2.St} : tVar (n + 1) (o :: r) H Q ↔ tVar n r H Q := Iff.rfl
theorem x_c : tC v σ H Q ↔ Q v H := Iff.rfl
theorem x_op {r : R2} {ta tb : TE} : tOp r ta tb σ H Q ↔ ta σ H fun x H1 => tb σ H1 fun y H2 => r x y H2 Q := Iff.rfl
theorem x_un {r : V → Hp → VK → Prop} {ta : TE} : tUn r ta σ H Q ↔ ta σ H fun x H1 => r x H1 Q := Iff.rfl
theorem x_I0 {g : Int → Int → V} : rI0 g (.int a) (.int b) H Q ↔ Q (g a b) H := ⟨fun ⟨_, _, e1, e2, q⟩ => by cases e1; cases e2; exact q, fun q => ⟨_, _, rfl, rfl, q⟩⟩
theorem x_I {C : Int → Int → Prop} {g : Int → Int → V} : rI C g (.int a) (.int b) H Q ↔ C a b ∧ Q (g a b) H := ⟨fun ⟨_, _, e1, e2, q⟩ => by cases e1; cases e2; exact q, fun q => ⟨_, _, rfl, rfl, q⟩⟩
theorem x_rU {g : Int → V} : rU g (.int a) H Q ↔ Q (g a) H := ⟨fun ⟨_, e1, q⟩ => by cases e1; exact q, fun q => ⟨_, rfl, q⟩⟩
theorem x_nil {Q : List V → Hp → Prop} : tNil σ H Q ↔ Q [] H := Iff.rfl
theorem x_cons {ta : TE} {tr : TA} {Q : List V → Hp → Prop} : tCons ta tr σ H Q ↔ ta σ H fun x H1 => tr σ H1 fun xs H2 => Q (x :: xs) H2 := Iff.rfl
theorem x_test {te : TE} {Q : Bool → Hp → Prop} : tTest te σ H Q ↔ te σ H fun x H1 => ∃ k, x = .bl k ∧ Q k H1 := Iff.rfl
theorem x_B {te : TE} {Q : Bool → Hp → Prop} : tB te σ H Q ↔ te σ H fun x H1 => ∃ k, x = .bl k ∧ Q k H1 := Iff.rfl
theorem x_bl {Q : Bool → Prop} : (∃ c, V.bl k = V.bl c ∧ Q c) ↔ Q k := ⟨fun ⟨_, e, q⟩ => by cases e; exact q, fun q => ⟨_, rfl, q⟩⟩
theorem x_call {sp : Sp} {dvs : List V} {E : XK} {t : TA} : tCall sp dvs E t σ H Q ↔ t σ H fun vs H1 => sp (vs ++ dvs) H1 Q E := Iff.rfl
theorem x_CB {r : List V → Hp → VK → Prop} {t : TA} : tCB r t σ H Q ↔ t σ H fun vs H1 => r vs H1 Q := Iff.rfl
theorem x_tup {t : TA} : tTup t σ H Q ↔ t σ H fun xs H1 => xs.length ≤ sizeLine ∧ ∀ p, H1 p = none → Q (.ref p) (upd H1 p (.tup xs)) := Iff.rfl
theorem x_lst {t : TA} : tLst t σ H Q ↔ t σ H fun xs H1 => xs.length ≤ sizeLine ∧ ∀ p, H1 p = none → Q (.ref p) (upd H1 p (.lst xs)) := Iff.rfl
theorem x_not {t : TT} {Q : Bool → Hp → Prop} : tNot t σ H Q ↔ t σ H fun c H1 => Q (!c) H1 := Iff.rfl
theorem x_seq {t u : TS} {D : Ends} : tSeq t u D σ H ↔ t { D with nx := u D } σ H := Iff.rfl
theorem x_asg {te : TE} {g : TG} {D : Ends} : tAsg te g D σ H ↔ te σ H fun x H1 => g x σ H1 D.nx := Iff.rfl
theorem x_name {Q : L2.St → Hp → Prop} : gName i v σ H Q ↔ Q (σ.set i (some v)) H := Iff.rfl
theorem x_sub {to ti : TE} {t : TSet} {Q : L2.St → Hp → Prop} : gSub to ti t v σ H Q ↔ to σ H fun o H1 => ti σ H1 fun i H2 => t o i v H2 fun H3 => Q σ H3 := Iff.rfl
theorem x_ret {te : TE} {D : Ends} : tRet te D σ H ↔ te σ H D.rt := Iff.rfl
theorem x_ifS {c : TT} {t u : TS} {D : Ends} : tIfS c t u D σ H ↔ c σ H fun b H1 => if b = true then t D σ H1 else u D σ H1 := Iff.rfl
theorem x_next {D : Ends} : tNext D σ H ↔ D.nx σ H := Iff.rfl
theorem x_ixL {p : Addr} {xs : List V} (h : SqL K H p xs) (ha : atI xs i' = some v) (q : Q v H) : rIxL K (.ref p) (.int i') H Q := ⟨p, xs, i', v, rfl, rfl, h, ha, q⟩
theorem x_ixT {p : Addr} {xs : List V} (h : SqT K H p xs) (ha : atI xs i' = some v) (q : Q v H) : rIxT K (.ref p) (.int i') H Q := ⟨p, xs, i', v, rfl, rfl, h, ha, q⟩
theorem x_ite {c : Prop} [Decidable c] {A B : Prop} : (if decide c = true then A else B) ↔ ((c → A) ∧ (¬ c → B)) := by
  by_cases h : c
  · simp [h]
  · simp [h]
theorem x_iteN {c : Prop} [Decidable c] {A B : Prop} : (if (!decide c) = true then A else B) ↔ ((¬ c → A) ∧ (c → B)) := by
  by_cases h : c
  · simp [h]
  · simp [h]
theorem x_T {A B : Prop} : (if true = true then A else B) ↔ A := by simp
theorem x_F {A B : Prop} : (if false = true then A else B) ↔ B := by simp
theorem x_tT {A B : Prop} : (if (!true) = true then A else B) ↔ B := by simp
theorem x_tF {A B : Prop} : (if (!false) = true then A else B) ↔ A := by simp
theorem x_eqII {a b : Int} : scal (.int a) (.int b) = true := rfl
theorem x_eqSS {a b : Str} : scal (.str a) (.str b) = true := rfl
theorem x_eqBB {a b : Bool} : scal (.bl a) (.bl b) = true := rfl
theorem x_Eq : rEq v x H Q ↔ (scal v x = true ∧ Q (.bl (decide (v = x))) H) := Iff.rfl
theorem x_Ne : rNe v x H Q ↔ (scal v x = true ∧ Q (.bl (!decide (v = x))) H) := Iff.rfl
theorem x_and {t u : TT} {Q : Bool → Hp → Prop} : tAnd t u σ H Q ↔ t σ H fun c H1 => if c = true then u σ H1 Q else Q false H1 := Iff.rfl
theorem x_or {t u : TT} {Q : Bool → Hp → Prop} : tOr t u σ H Q ↔ t σ H fun c H1 => if c = true then Q true H1 else u σ H1 Q := Iff.rfl
theorem x_andV {ta tb : TE} : tAndV ta tb σ H Q ↔ ta σ H fun x H1 => ∃ c, x = .bl c ∧ if c = true then tb σ H1 Q else Q (.bl false) H1 := Iff.rfl
theorem x_orV {ta tb : TE} : tOrV ta tb σ H Q ↔ ta σ H fun x H1 => ∃ c, x = .bl c ∧ if c = true then Q (.bl true) H1 else tb σ H1 Q := Iff.rfl
theorem x_notV {ta : TE} : tNotV ta σ H Q ↔ ta σ H fun x H1 => ∃ c, x = .bl c ∧ Q (.bl (!c)) H1 := Iff.rfl
theorem x_if {t : TT} {ta tb : TE} : tIf t ta tb σ H Q ↔ t σ H fun c H1 => if c = true then ta σ H1 Q else tb σ H1 Q := Iff.rfl
theorem x_par {i j : Nat} {ta : TA} {D : Ends} : tPar i j ta D σ H ↔ ta σ H fun vs H1 => ∃ v w, vs = [v, w] ∧ D.nx ((σ.set i (some v)).set j (some w)) H1 := Iff.rfl
theorem x_two {v w : V} {Q : V → V → Prop} : (∃ a b, [v, w] = [a, b] ∧ Q a b) ↔ Q v w := ⟨fun ⟨_, _, e, q⟩ => by cases e; exact q, fun q => ⟨_, _, rfl, q⟩⟩
theorem x_drop {te : TE} {D : Ends} : tDrop te D σ H ↔ te σ H fun _ H1 => D.nx σ H1 := Iff.rfl
theorem x_BM {T : String} {r : V → List V → Hp → VK → Prop} {to : TE} {t : TA} : tBM K T r to t σ H Q ↔ to σ H fun x H1 => tyV K T x H1 ∧ t σ H1 fun xs H2 => r x xs H2 Q := Iff.rfl
theorem x_app {l : Addr} {xs : List V} (h : H l = some (.lst xs)) (hz : xs.length < sizeLine) (q : Q .non (upd H l (.lst (xs ++ [v])))) : rAppend (.ref l) [v] H Q := ⟨l, xs, v, rfl, rfl, h, hz, q⟩
theorem x_tyL {l : Addr} {xs : List V} (h : SqL K H l xs) : tyV K "list" (.ref l) H := Or.inl ⟨rfl, _, h⟩
theorem x_set0 {r : L2.St} {u : Option V} : List.set (o :: r) 0 u = u :: r := rfl
theorem x_setS {r : L2.St} {u : Option V} : List.set (o :: r) (n + 1) u = o :: List.set r n u := rfl
theorem x_setL {p : Addr} {xs : List V} {j : Nat} {Q : Hp → Prop} (h : H p = some (.lst xs)) (hj : ixN xs.length i' = some j) (q : Q (upd H p (.lst (xs.set j v)))) : rSetL (.ref p) (.int i') v H Q := ⟨p, xs, i', j, rfl, rfl, h, hj, q⟩
/-- what is left of a for loop over J -/
def Lp (J : It) (g : TG) (tb : TS) (D : Ends) (σ : L2.St) (H1 : Hp) : Prop := ∃ W : Nat → Nat → L2.St → Hp → Prop, (∃ m, W 0 m σ H1) ∧ ∀ i m σ H, W i m σ H →
  (J.stop i H ∧ D.nx σ H) ∨ (J.go i H ∧ ∃ N : L2.St → Hp → Prop, (∀ σ' H', N σ' H' → ∃ m', m' < m ∧ W (i + 1) m' σ' H') ∧ ∀ x H', J.yld i H x H' → g x σ H' fun σ2 H2 => tb { D with nx := N, ct := N, bk := D.nx } σ2 H2)
theorem x_forL {te : TE} {g : TG} {tb : TS} {D : Ends} : tFor (iList K te) g tb D σ H ↔ te σ H fun x H1 => ∃ a, x = .ref a ∧ (∃ xs, SqL K H1 a xs) ∧ Lp (Itl K a) g tb D σ H1 := Iff.rfl
theorem x_forT {te : TE} {g : TG} {tb : TS} {D : Ends} : tFor (iTup K te) g tb D σ H ↔ te σ H fun x H1 => ∃ a, x = .ref a ∧ (∃ xs, SqT K H1 a xs) ∧ Lp (Itt K a) g tb D σ H1 := Iff.rfl
theorem x_forR1 {ta : TA} {g : TG} {tb : TS} {D : Ends} : tFor (iRng1 ta) g tb D σ H ↔ ta σ H fun vs H1 => ∃ j : Int, vs = [.int j] ∧ -(2 ^ 62) ≤ j ∧ j < 2 ^ 62 ∧ Lp (Itr 0 j.toNat) g tb D σ H1 := Iff.rfl
theorem x_forR2 {ta : TA} {g : TG} {tb : TS} {D : Ends} : tFor (iRng2 ta) g tb D σ H ↔ ta σ H fun vs H1 => ∃ i j : Int, vs = [.int i, .int j] ∧ (-(2 ^ 62) ≤ i ∧ i < 2 ^ 62 ∧ -(2 ^ 62) ≤ j ∧ j < 2 ^ 62) ∧ Lp (Itr i (j - i).toNat) g tb D σ H1 := Iff.rfl
theorem x_forE {ta : TA} {g : TG} {tb : TS} {D : Ends} : tFor (iEnum K ta) g tb D σ H ↔ ta σ H fun vs H1 => ∃ a xs, vs = [.ref a] ∧ SqL K H1 a xs ∧ Lp (Ite K a) g tb D σ H1 := Iff.rfl
theorem lpL {a : Addr} {xs : List V} {g : TG} {tb : TS} {D : Ends} (Pv : Nat → L2.St → Hp → Prop) (h0 : Pv 0 σ H) (hl : ∀ i σ H, i ≤ xs.length → Pv i σ H → SqL K H a xs)
    (hs : ∀ i x σ H, xs[i]? = some x → Pv i σ H → g x σ H fun σ2 H2 => tb { D with nx := Pv (i + 1), ct := Pv (i + 1), bk := D.nx } σ2 H2) (hd : ∀ σ H, Pv xs.length σ H → D.nx σ H) : Lp (Itl K a) g tb D σ H := for_list Pv h0 hl hs hd
theorem lpT {a : Addr} {xs : List V} {g : TG} {tb : TS} {D : Ends} (Pv : Nat → L2.St → Hp → Prop) (h0 : Pv 0 σ H) (hl : ∀ i σ H, i ≤ xs.length → Pv i σ H → SqT K H a xs)
    (hs : ∀ i x σ H, xs[i]? = some x → Pv i σ H → g x σ H fun σ2 H2 => tb { D with nx := Pv (i + 1), ct := Pv (i + 1), bk := D.nx } σ2 H2) (hd : ∀ σ H, Pv xs.length σ H → D.nx σ H) : Lp (Itt K a) g tb D σ H := for_tup Pv h0 hl hs hd
theorem lpR {lo : Int} {m : Nat} {g : TG} {tb : TS} {D : Ends} (Pv : Nat → L2.St → Hp → Prop) (h0 : Pv 0 σ H)
    (hs : ∀ i σ H, i < m → Pv i σ H → g (.int (lo + i)) σ H fun σ2 H2 => tb { D with nx := Pv (i + 1), ct := Pv (i + 1), bk := D.nx } σ2 H2) (hd : ∀ σ H, Pv m σ H → D.nx σ H) : Lp (Itr lo m) g tb D σ H := for_range Pv h0 hs hd
theorem lpE {a : Addr} {xs : List V} {g : TG} {tb : TS} {D : Ends} (Pv : Nat → L2.St → Hp → Prop) (h0 : Pv 0 σ H) (hl : ∀ i σ H, i ≤ xs.length → Pv i σ H → SqL K H a xs)
    (hs : ∀ i x σ H T, xs[i]? = some x → Pv i σ H → H T = none → g (.ref T) σ (upd H T (.tup [.int (i : Nat), x])) fun σ2 H2 => tb { D with nx := Pv (i + 1), ct := Pv (i + 1), bk := D.nx } σ2 H2) (hd : ∀ σ H, Pv xs.length σ H → D.nx σ H) : Lp (Ite K a) g tb D σ H := by
  refine ⟨fun i m σ H => m = xs.length - i ∧ i ≤ xs.length ∧ Pv i σ H, ⟨xs.length, by simp, Nat.zero_le _, h0⟩, ?_⟩
  rintro i m σ H ⟨rfl, hi, p⟩
  have q := hl i σ H hi p
  by_cases hlt : i < xs.length
  · refine .inr ⟨⟨xs, xs[i], q, by simp [hlt]⟩, Pv (i + 1), fun σ' H' p' => ⟨xs.length - (i + 1), by omega, rfl, hlt, p'⟩, fun x H' y => ?_⟩
    obtain ⟨T, z, rfl, nT, rfl, f⟩ := y
    have e := f xs q
    exact hs i z σ H T e p nT
  · have e : i = xs.length := by omega
    subst e
    exact .inl ⟨⟨xs, q, Nat.le_refl _⟩, hd σ H p⟩
theorem x_ref {b : Addr} {P : Addr → Prop} : (∃ a, V.ref b = V.ref a ∧ P a) ↔ P b := ⟨fun ⟨_, e, q⟩ => by cases e; exact q, fun q => ⟨_, rfl, q⟩⟩
theorem x_int1 {a : Int} {P : Int → Prop} : (∃ i, V.int a = V.int i ∧ P i) ↔ P a := ⟨fun ⟨_, e, q⟩ => by cases e; exact q, fun q => ⟨_, rfl, q⟩⟩
theorem x_oneI {a : Int} {P : Int → Prop} : (∃ i, [V.int a] = [V.int i] ∧ P i) ↔ P a := ⟨fun ⟨_, e, q⟩ => by cases e; exact q, fun q => ⟨_, rfl, q⟩⟩
theorem x_oneB {P : Bool → Prop} : (∃ i, [V.bl k] = [V.bl i] ∧ P i) ↔ P k := ⟨fun ⟨_, e, q⟩ => by cases e; exact q, fun q => ⟨_, rfl, q⟩⟩
theorem x_noBI {P : Int → Prop} : (∃ i, [V.bl k] = [V.int i] ∧ P i) ↔ False := ⟨fun ⟨_, e, _⟩ => (nomatch e), fun q => q.elim⟩
theorem x_twoI {a b : Int} {P : Int → Int → Prop} : (∃ i j, [V.int a, V.int b] = [V.int i, V.int j] ∧ P i j) ↔ P a b := ⟨fun ⟨_, _, e, q⟩ => by cases e; exact q, fun q => ⟨_, _, rfl, q⟩⟩
theorem x_sl {r : V → Option Int → Option Int → Hp → VK → Prop} {te : TE} {tl th : TO} : tSl r te tl th σ H Q ↔ te σ H fun x H1 => tl σ H1 fun l H2 => th σ H2 fun u H3 => r x l u H3 Q := Iff.rfl
theorem x_noP {Q : Option Int → Hp → Prop} : tNoPart σ H Q ↔ Q none H := Iff.rfl
theorem x_part {te : TE} {Q : Option Int → Hp → Prop} : tPart te σ H Q ↔ te σ H fun x H1 => ∃ i, x = .int i ∧ Q (some i) H1 := Iff.rfl
theorem x_slL {a : Addr} {xs : List V} {lo hi : Option Int} (h : SqL K H a xs) (q : ∀ p, H p = none → Q (.ref p) (upd H p (.lst (cutV xs lo hi)))) : rSlL K (.ref a) lo hi H Q := ⟨a, xs, rfl, h, q⟩
theorem same_new {H : Hp} {p : Addr} {o : HO} (h : H p = none) : Same H (upd H p o) := fun b x e => by rw [upd_ne (ne_of_none e h)]; exact e
theorem same_mut {H H' : Hp} {p : Addr} {o : HO} (e : Same H H') (h : H p = none) : Same H (upd H' p o) := fun a u ha => by rw [upd_ne (ne_of_none ha h)]; exact e a u ha
theorem x_gtup {a : Addr} {xs : List V} {t : TGs} {Q : L2.St → Hp → Prop} (h : SqT K H a xs) (hl : xs.length = n) (q : t xs σ H Q) : gTup K n t (.ref a) σ H Q := ⟨a, xs, rfl, h, hl, q⟩
theorem x_gcons {t : TG} {u : TGs} {xs : List V} {Q : L2.St → Hp → Prop} : gCons t u (v :: xs) σ H Q ↔ t v σ H fun σ' H' => u xs σ' H' Q := ⟨fun ⟨_, _, e, q⟩ => by cases e; exact q, fun q => ⟨_, _, rfl, q⟩⟩
theorem x_gnil {Q : L2.St → Hp → Prop} : gNil [] σ H Q ↔ Q σ H := ⟨fun ⟨_, q⟩ => q, fun q => ⟨rfl, q⟩⟩
theorem x_dec {a b : Int} : decide (V.int a = V.int b) = decide (a = b) := by
  by_cases h : a = b
  · simp [h]
  · rw [decide_eq_false h, decide_eq_false (fun e => h (V.int.inj e))]
theorem x_decS {a b : Str} : decide (V.str a = V.str b) = decide (a = b) := by
  by_cases h : a = b
  · simp [h]
  · rw [decide_eq_false h, decide_eq_false (fun e => h (V.str.inj e))]
end
theorem atI_in {xs : List V} {i : Int} (h0 : 0 ≤ i) (h1 : i < xs.length) : ∃ x, atI xs i = some x ∧ x ∈ xs := by
  have hj : i.toNat < xs.length := by omega
  refine ⟨xs[i.toNat], ?_, List.getElem_mem hj⟩
  have e := atI_nat (xs := xs) (j := i.toNat) (List.getElem?_eq_getElem hj)
  rwa [Int.toNat_of_nonneg h0] at e
/-- an if without else: what follows is shown once, for all heaps of which I holds -/
theorem joinI {c A : Prop} {G : Hp → Prop} {H : Hp} (I : Hp → Prop) (hI : I H) (t : ∀ H, I H → G H) (ha : c → (∀ H, I H → G H) → A) : (c → A) ∧ (¬ c → G H) := ⟨fun h => ha h t, fun _ => t H hI⟩
theorem joinE {c A : Prop} {G : Hp → Prop} {H : Hp} (I : Hp → Prop) (hI : I H) (t : ∀ H, I H → G H) (ha : ¬ c → (∀ H, I H → G H) → A) : (c → G H) ∧ (¬ c → A) := ⟨fun _ => t H hI, fun h => ha h t⟩
end Cc

set_option Elab.async false
set_option linter.all false
set_option maxRecDepth 100000
set_option maxHeartbeats 4000000
/-! Chains: what steps make of a number; how a chain stands in the heap. -/
namespace Cc
open PySem PySem.Spec PyProof.Rows L2
abbrev Ch := List (Str × Int)
def lowI (w : Str) (n : Int) : Int := if w = "u" then 0 else -(2 ^ (n - 1).toNat)
def castI (x : Int) (w : Str) (n : Int) : Int := lowI w n + (x - lowI w n) % 2 ^ n.toNat
def stepI (x : Int) (s : Str × Int) : Int := if s.1 = "add" then x + s.2 else castI x s.1 s.2
def convI (x : Int) (c : Ch) : Int := c.foldl stepI x
def isC (w : Str) (n : Int) : Bool := decide (w = "u" ∨ w = "s") && decide (1 ≤ n)
def okS (s : Str × Int) : Bool := decide (s.1 = "add") || isC s.1 s.2
def big : Int := 100000
def okC (c : Ch) : Prop := ∀ s ∈ c, okS s = true ∧ s.2 ≤ (if s.1 = "add" then s.2 else big)
theorem two_pos (n : Nat) : (0 : Int) < 2 ^ n := by
  have h : 0 < 2 ^ n := Nat.two_pow_pos n
  exact_mod_cast h

/-- the tuples of a chain -/
inductive Sts (K : PySem.W.Frag) (H : Hp) : List V → Ch → Prop
  | nil : Sts K H [] []
  | cons {t : Addr} {w : Str} {n : Int} {xs : List V} {c : Ch} : SqT K H t [.str w, .int n] → Sts K H xs c → Sts K H (.ref t :: xs) ((w, n) :: c)
def ChAt (K : PySem.W.Frag) (H : Hp) (a : Addr) (c : Ch) : Prop := ∃ xs, SqL K H a xs ∧ Sts K H xs c
theorem Same.tup {K : PySem.W.Frag} {H H' : Hp} {a : Addr} {xs : List V} (e : Same H H') (h : SqT K H a xs) : SqT K H' a xs := by
  rcases h with (h | ⟨o, h⟩) | h
  · exact .inl (.inl (e _ _ h))
  · exact .inl (.inr ⟨o, e _ _ h⟩)
  · exact .inr h
section
variable {K : PySem.W.Frag} {H H' : Hp} {xs : List V} {c : Ch} {a : Addr}
theorem Sts.same (e : Same H H') : ∀ {xs : List V} {c : Ch}, Sts K H xs c → Sts K H' xs c
  | _, _, .nil => .nil
  | _, _, .cons h t => .cons (Same.tup e h) (Sts.same e t)
theorem Sts.len : ∀ {xs : List V} {c : Ch}, Sts K H xs c → xs.length = c.length
  | _, _, .nil => rfl
  | _, _, .cons _ t => congrArg (· + 1) (Sts.len t)
theorem Sts.get : ∀ {xs : List V} {c : Ch} {i : Nat} {x : V}, Sts K H xs c → xs[i]? = some x → ∃ t w n, x = .ref t ∧ c[i]? = some (w, n) ∧ SqT K H t [.str w, .int n]
  | _, _, _, _, .nil, e => by simp at e
  | _, _, 0, _, .cons h _, e => by
    simp at e
    exact ⟨_, _, _, e.symm, rfl, h⟩
  | _, _, i + 1, x, .cons _ t, e => by
    obtain ⟨t', w, n, e1, e2, e3⟩ := Sts.get (i := i) (x := x) t (by simpa using e)
    exact ⟨t', w, n, e1, by simpa using e2, e3⟩
theorem ChAt.same (e : Same H H') (h : ChAt K H a c) : ChAt K H' a c := by
  obtain ⟨xs, h1, h2⟩ := h
  exact ⟨xs, e.seq h1, h2.same e⟩
end
theorem inV2 (w : Str) : inV (.str w) [.str "u", .str "s"] = decide (w = "u" ∨ w = "s") := by
  show (((("u" : Str) == w) || (("s" : Str) == w || false))) = _
  rw [Bool.or_false, Bool.eq_iff_iff]
  simp only [Bool.or_eq_true, beq_iff_eq, decide_eq_true_eq]
  exact ⟨fun h => h.elim (fun h => .inl h.symm) (fun h => .inr h.symm), fun h => h.elim (fun h => .inl h.symm) (fun h => .inr h.symm)⟩
theorem convI_take {c : Ch} {x : Int} {i : Nat} {s : Str × Int} (h : c[i]? = some s) : convI x (c.take (i + 1)) = stepI (convI x (c.take i)) s := by
  unfold convI
  rw [List.take_add_one, h, List.foldl_append]
  rfl
end Cc

set_option Elab.async false
set_option linter.all false
set_option maxRecDepth 100000
set_option maxHeartbeats 4000000
/-! What casts make of numbers: plain arithmetic. -/
namespace Cc
open PySem PySem.Spec PyProof.Rows L2
theorem two_succ (n : Nat) : (2 : Int) ^ (n + 1) = 2 * 2 ^ n := by rw [Int.pow_succ, Int.mul_comm]
theorem two_dvd {m n : Nat} (h : m ≤ n) : (2 : Int) ^ m ∣ 2 ^ n := ⟨2 ^ (n - m), by rw [← Int.pow_add, Nat.add_sub_cancel' h]⟩
theorem low_u (n : Int) : lowI "u" n = 0 := if_pos rfl
theorem low_s (n : Int) : lowI "s" n = -(2 ^ (n - 1).toNat) := if_neg (by decide +kernel)
theorem cast_lo (x : Int) (w : Str) (n : Int) : lowI w n ≤ castI x w n := by
  have h := Int.emod_nonneg (x - lowI w n) (show (2 : Int) ^ n.toNat ≠ 0 from Int.ne_of_gt (two_pos _))
  unfold castI
  omega
theorem cast_hi (x : Int) (w : Str) (n : Int) : castI x w n < lowI w n + 2 ^ n.toNat := by
  have h := Int.emod_lt_of_pos (x - lowI w n) (two_pos n.toNat)
  unfold castI
  omega
theorem cast_mod (x : Int) (w : Str) (n : Int) : castI x w n % 2 ^ n.toNat = x % 2 ^ n.toNat := by
  unfold castI
  rw [Int.add_emod_emod, show lowI w n + (x - lowI w n) = x by omega]
theorem cast_dvd (x : Int) (w : Str) (n : Int) : (2 : Int) ^ n.toNat ∣ castI x w n - x := Int.dvd_of_emod_eq_zero (Int.emod_eq_emod_iff_emod_sub_eq_zero.mp (cast_mod x w n))
theorem cast_fix {x : Int} {w : Str} {n : Int} (h0 : lowI w n ≤ x) (h1 : x < lowI w n + 2 ^ n.toNat) : castI x w n = x := by
  unfold castI
  rw [Int.emod_eq_of_lt (by omega) (by omega)]
  omega
theorem cast_same {x y : Int} {w : Str} {n : Int} (h : x % 2 ^ n.toNat = y % 2 ^ n.toNat) : castI x w n = castI y w n := by
  unfold castI
  have e : (x - lowI w n) % 2 ^ n.toNat = (y - lowI w n) % 2 ^ n.toNat := by rw [Int.sub_emod, h, ← Int.sub_emod]
  rw [e]
theorem mod_mod_of {x y : Int} {m n : Nat} (h : m ≤ n) (e : x % 2 ^ n = y % 2 ^ n) : x % 2 ^ m = y % 2 ^ m := by
  rw [← Int.emod_emod_of_dvd x (two_dvd h), e, Int.emod_emod_of_dvd y (two_dvd h)]
/-- a wider cast ahead of a narrower one is needless -/
theorem cast_cast {x : Int} {w w' : Str} {n o : Int} (h : n ≤ o) : castI (castI x w' o) w n = castI x w n :=
  cast_same (mod_mod_of (by omega) (cast_mod x w' o))
theorem cast_u (x n : Int) : castI x "u" n = x % 2 ^ n.toNat := by
  unfold castI
  rw [low_u, Int.sub_zero, Int.zero_add]
theorem half_two {n : Int} (h : 1 ≤ n) : (2 : Int) ^ n.toNat = 2 * 2 ^ (n - 1).toNat := by
  rw [← two_succ]
  congr 1
  omega
theorem fits_in {x : Int} {w w' : Str} {n : Int} (hw : w = "u" ∨ w = "s") (hn : 1 ≤ n) : castI (castI x w n) "s" (n + 1) = castI x w n := by
  have h0 := cast_lo x w n
  have h1 := cast_hi x w n
  have p := two_pos n.toNat
  have q := two_pos (n - 1).toNat
  have e := half_two hn
  have e2 := half_two (n := n + 1) (by omega)
  rw [show (n + 1 - 1).toNat = n.toNat by omega] at e2
  refine cast_fix ?_ ?_
  · rw [low_s, show (n + 1 - 1).toNat = n.toNat by omega]
    rcases hw with rfl | rfl
    · rw [low_u] at h0; omega
    · rw [low_s] at h0; omega
  · rw [low_s, show (n + 1 - 1).toNat = n.toNat by omega, e2]
    rcases hw with rfl | rfl
    · rw [low_u] at h1; omega
    · rw [low_s] at h1; omega
/-! the lowest binary digits, by halving -/
def bitsI (x : Int) (m : Nat) : List Int := (List.range m).map fun j => x / 2 ^ j % 2
theorem bits_len (x : Int) (m : Nat) : (bitsI x m).length = m := by unfold bitsI; simp
theorem bits_succ (x : Int) (m : Nat) : bitsI x (m + 1) = bitsI x m ++ [x / 2 ^ m % 2] := by
  unfold bitsI
  rw [List.range_succ, List.map_append]
  rfl
theorem half_half (x : Int) (m : Nat) : x / 2 ^ m / 2 = x / 2 ^ (m + 1) := by
  rw [Int.ediv_ediv_of_nonneg (Int.le_of_lt (two_pos m)), Int.pow_succ]
/-- what the digits up to the i-th are worth -/
def worth (x : Int) : Nat → Int
  | 0 => 0
  | i + 1 => worth x i + x / 2 ^ i % 2 * 2 ^ i
theorem worth_mod (x : Int) : ∀ i, worth x i = x % 2 ^ i
  | 0 => by simp [worth]
  | i + 1 => by
    have ih := worth_mod x i
    unfold worth
    rw [ih]
    have p := two_pos i
    have h1 := Int.emod_add_mul_ediv x (2 ^ i)
    have h2 := Int.emod_add_mul_ediv (x / 2 ^ i) 2
    have h3 := Int.emod_add_mul_ediv x (2 ^ (i + 1))
    rw [half_half] at h2
    have e : (2 : Int) ^ (i + 1) = 2 ^ i * 2 := Int.pow_succ _ _
    have h4 : (2 : Int) ^ i * (x / 2 ^ i) = 2 ^ i * (x / 2 ^ i % 2) + 2 ^ (i + 1) * (x / 2 ^ (i + 1)) := by
      have h5 : (2 : Int) ^ i * (x / 2 ^ i) = 2 ^ i * (x / 2 ^ i % 2 + 2 * (x / 2 ^ (i + 1))) := by rw [h2]
      rw [h5, Int.mul_add, ← Int.mul_assoc, ← e]
    rw [Int.mul_comm (x / 2 ^ i % 2)]
    omega
theorem signed_worth {x n : Int} (hn : 1 ≤ n) : castI x "s" n = worth x (n.toNat - 1) - x / 2 ^ (n.toNat - 1) % 2 * 2 ^ (n.toNat - 1) := by
  rw [worth_mod]
  have p := two_pos (n.toNat - 1)
  have e : (2 : Int) ^ n.toNat = 2 * 2 ^ (n.toNat - 1) := by
    rw [← two_succ]
    congr 1
    omega
  have r0 := Int.emod_nonneg x (show (2 : Int) ^ (n.toNat - 1) ≠ 0 from Int.ne_of_gt p)
  have r1 := Int.emod_lt_of_pos x p
  have b0 := Int.emod_nonneg (x / 2 ^ (n.toNat - 1)) (show (2 : Int) ≠ 0 by decide)
  have b1 := Int.emod_lt_of_pos (x / 2 ^ (n.toNat - 1)) (show (0 : Int) < 2 by decide)
  have w2 := worth_mod x (n.toNat - 1 + 1)
  have w1 := worth_mod x (n.toNat - 1)
  unfold worth at w2
  rw [w1, two_succ] at w2
  rw [← e] at w2
  generalize hb : x / 2 ^ (n.toNat - 1) % 2 = b at *
  generalize hr : x % 2 ^ (n.toNat - 1) = r at *
  generalize hP : (2 : Int) ^ (n.toNat - 1) = Pw at *
  have lo : lowI "s" n = -Pw := by rw [low_s, ← hP]; congr 2; omega
  have key : ∀ y : Int, y % 2 ^ n.toNat = x % 2 ^ n.toNat → -Pw ≤ y → y < Pw → castI x "s" n = y := fun y hy h0 h1 => by
    rw [cast_same (w := "s") hy.symm]
    exact cast_fix (by rw [lo]; exact h0) (by rw [lo, e]; omega)
  have hb2 : b = 0 ∨ b = 1 := by omega
  rcases hb2 with rfl | rfl
  · refine key _ ?_ (by omega) (by omega)
    rw [← w2]
    rw [Int.zero_mul, Int.sub_zero, Int.add_zero]
    exact Int.emod_eq_of_lt r0 (by rw [e]; omega)
  · refine key _ ?_ (by omega) (by omega)
    rw [← w2, Int.one_mul]
    have : r - Pw = (r + Pw) + (2 ^ n.toNat) * (-1) := by rw [e]; omega
    rw [this, Int.add_mul_emod_self_left]
    exact Int.emod_eq_of_lt (by omega) (by rw [e]; omega)
end Cc

set_option Elab.async false
set_option linter.all false
set_option maxRecDepth 100000
set_option maxHeartbeats 4000000
/-! When repr of plain data is short enough. -/
namespace Cc
open PySem PySem.Spec PyProof.Rows L2
mutual
def smallD : PyData → Prop
  | .none => True
  | .bool _ => True
  | .int i => i.natAbs < 10 ^ 500
  | .str x => ∀ c ∈ x.cps.toList, c < 16 ^ 8
  | .list xs => smallL xs
  | .tuple xs => smallL xs
  | .dict _ => False
def smallL : List PyData → Prop
  | [] => True
  | x :: xs => smallD x ∧ smallL xs
end
mutual
theorem small_ok : ∀ d : PyData, smallD d → d.showable = true ∧ d.leavesShort 700 = true
  | .none, _ => ⟨rfl, rfl⟩
  | .bool _, _ => ⟨rfl, rfl⟩
  | .int i, h => by
    have h1 : i.natAbs < 10 ^ 500 := by simpa only [smallD] using h
    have h2 : i.natAbs < 2 ^ 1920 := Nat.lt_trans h1 (by decide +kernel)
    refine ⟨by simp only [PyData.showable, decide_eq_true_eq]; exact log2_small h2, ?_⟩
    simp only [PyData.leavesShort, decide_eq_true_eq, PyData.shown]
    refine decide_eq_true ?_
    rw [PySem.ofString_length]
    exact Nat.le_trans (int_text_length_le10 (k := 500) (by decide) h1) (show 500 + 1 ≤ 700 by decide)
  | .str x, h => by
    refine ⟨rfl, ?_⟩
    simp only [PyData.leavesShort, List.all_eq_true, decide_eq_true_eq]
    simpa only [smallD] using h
  | .list xs, h => by
    have q := small_okL xs (by simpa only [smallD] using h)
    exact ⟨by simpa only [PyData.showable] using q.1, by simpa only [PyData.leavesShort] using q.2⟩
  | .tuple xs, h => by
    have q := small_okL xs (by simpa only [smallD] using h)
    exact ⟨by simpa only [PyData.showable] using q.1, by simpa only [PyData.leavesShort] using q.2⟩
  | .dict _, h => by simp only [smallD] at h
theorem small_okL : ∀ ds : List PyData, smallL ds → PyData.showableAll ds = true ∧ PyData.leavesShortAll 700 ds = true
  | [], _ => ⟨rfl, rfl⟩
  | d :: ds, h => by
    have h' : smallD d ∧ smallL ds := by simpa only [smallL] using h
    have q1 := small_ok d h'.1
    have q2 := small_okL ds h'.2
    exact ⟨by simp only [PyData.showableAll, q1.1, q2.1, Bool.and_self], by simp only [PyData.leavesShortAll, q1.2, q2.2, Bool.and_self]⟩
end
def Rok (d : PyData) : Prop := d.showable = true ∧ d.depth ≤ 60 ∧ d.shown.length ≤ sizeLine
theorem rok_of {d : PyData} (h : smallD d) (hd : d.depth ≤ 60) (hb : d.bulk ≤ 20000) : Rok d := by
  have q := small_ok d h
  refine ⟨q.1, hd, ?_⟩
  have z := PyData.shown_le_bulk 700 (by decide) d q.2
  have : (700 + 2) * d.bulk ≤ 702 * 20000 := Nat.mul_le_mul (by omega) hb
  rw [sizeLine_eq]
  omega
section
variable {K : PySem.W.Frag} {H : Hp} {Q : VK} {v : V} {d : PyData}
theorem x_repD (h : Dp K H v d) (r : Rok d) (q : Q (.str d.shown) H) : rRepD K [v] H Q := ⟨v, d, rfl, h, r.1, r.2.1, r.2.2, q⟩
end
theorem nat_abs_lt {i : Int} (h0 : -(10 ^ 400) < i) (h1 : i < 10 ^ 400) : i.natAbs < 10 ^ 500 := by
  have h : i.natAbs < 10 ^ 400 := by
    rcases Int.natAbs_eq i with e | e
    · rw [e] at h1; exact_mod_cast h1
    · rw [e] at h0
      have : ((i.natAbs : Nat) : Int) < 10 ^ 400 := by omega
      exact_mod_cast this
  exact Nat.lt_trans h (by decide +kernel)
end Cc


set_option Elab.async false
set_option linter.all false
set_option maxRecDepth 100000
set_option maxHeartbeats 4000000
namespace Cc
open PySem PySem.Spec PyProof.Rows L2
def topS (i : Nat) : Stmt := PySem.Challenge.pw_castchains_k03_whole_casts_by_binary_dig.main.body.getD i (.Pass ⟨0, 0, 0, 0⟩)
abbrev s_law_rng : Stmt := topS 12
theorem sc_law_rng : FnScope ["script", "digits", "seed", "cell", "far"] ["script"] (defScope s_law_rng) := ⟨rfl, rfl, rfl, by decide +kernel, rfl, by decide +kernel, by decide +kernel⟩
abbrev s_law_draw : Stmt := topS 13
theorem sc_law_draw : FnScope ["rng", "limit", "found", "mixed"] ["rng", "limit"] (defScope s_law_draw) := ⟨rfl, rfl, rfl, by decide +kernel, rfl, by decide +kernel, by decide +kernel⟩
section
variable {P : Program} {w : World} {K : PySem.W.Frag} {mg : Str → Option Value} {base : Heap}
/-- the draws' list at r: what is left of the digits, the seed, how many draws were made (at most n) -/
def RngAt (H : Hp) (r : Addr) (n : Nat) : Prop := ∃ d s c : Int, H r = some (.lst [.int d, .int s, .int c]) ∧ 0 ≤ d ∧ d < 10 ^ 3780 ∧ 0 ≤ s ∧ s < 2305843009213693951 ∧ 0 ≤ c ∧ c ≤ n
/-- all but r stands -/
def Oth (r : Addr) (H H' : Hp) : Prop := ∀ b o, b ≠ r → H b = some o → H' b = some o
theorem Oth.refl (r : Addr) (H : Hp) : Oth r H H := fun _ _ _ e => e
theorem Oth.trans {r : Addr} {H H1 H2 : Hp} (a : Oth r H H1) (b : Oth r H1 H2) : Oth r H H2 := fun c o hc e => b c o hc (a c o hc e)
theorem Oth.same {r : Addr} {H H' : Hp} (e : Same H H') : Oth r H H' := fun b o _ h => e b o h
theorem Oth.new {r : Addr} {H : Hp} {p : Addr} {o : HO} (h : H p = none) : Oth r H (upd H p o) := Oth.same (same_new h)
theorem RngAt.same {H H' : Hp} {r : Addr} {n : Nat} (R : RngAt H r n) (e : Same H H') : RngAt H' r n := by
  obtain ⟨d, s, c, h, q⟩ := R
  exact ⟨d, s, c, e _ _ h, q⟩
theorem RngAt.new {H : Hp} {r p : Addr} {o : HO} {n : Nat} (R : RngAt H r n) (h : H p = none) : RngAt (upd H p o) r n := R.same (same_new h)
theorem RngAt.ne {H : Hp} {r p : Addr} {n : Nat} (R : RngAt H r n) (h : H p = none) : p ≠ r := fun e => by
  obtain ⟨d, s, c, q, _⟩ := R
  rw [e, q] at h
  cases h
theorem RngAt.mut {H : Hp} {r p : Addr} {o : HO} {n : Nat} (R : RngAt H r n) (h : p ≠ r) : RngAt (upd H p o) r n := by
  obtain ⟨d, s, c, q, z⟩ := R
  exact ⟨d, s, c, by rw [upd_ne (Ne.symm h)]; exact q, z⟩
theorem RngAt.up {H : Hp} {r : Addr} {m n : Nat} (R : RngAt H r m) (h : m ≤ n) : RngAt H r n := by
  obtain ⟨d, s, c, q, a1, a2, a3, a4, a5, a6⟩ := R
  exact ⟨d, s, c, q, a1, a2, a3, a4, a5, by omega⟩
/-- free behind is free before -/
theorem Oth.free {r : Addr} {H H' : Hp} {n : Nat} (a : Oth r H H') (R : RngAt H' r n) {p : Addr} (h : H' p = none) : H p = none := by
  cases q : H p with
  | none => rfl
  | some o =>
    rw [a p o (R.ne h) q] at h
    cases h
theorem Oth.mut {r : Addr} {H H' : Hp} {p : Addr} {o : HO} (a : Oth r H H') (h : H p = none) : Oth r H (L2.upd H' p o) := fun b u hb e => by
  show (upd H' p o) b = some u
  rw [upd_ne (ne_of_none e h)]
  exact a b u hb e
theorem Oth.upd {H : Hp} (r : Addr) (o : HO) : Oth r H (upd H r o) := fun b u hb e => by rw [upd_ne hb]; exact e
theorem pow_ok {i : Int} (h0 : 0 ≤ i) (h : i < 2 ^ 200) : i.natAbs < 2 ^ 4000 := by
  have h1 : i.natAbs < 2 ^ 200 := by omega
  exact Nat.lt_of_lt_of_le h1 (Nat.pow_le_pow_right (by omega) (by omega))
def spDraw : Sp := fun vs H Q _ => ∃ (r : Addr) (lim : Int) (n : Nat), vs = [.ref r, .int lim] ∧ RngAt H r n ∧ n < 100000000 ∧ 1 ≤ lim ∧ lim < 2 ^ 1000 ∧ ∀ v H', 0 ≤ v → v < lim → RngAt H' r (n + 1) → Oth r H H' → Q (.int v) H'
theorem p_draw (T : Tx K mg "_law_draw" s_law_draw) : Pr P w K mg base CX0 1 "_law_draw" ["rng", "limit"] spDraw := by
  refine mkP T sc_law_draw (fun _ _ _ _ _ _ us hl => match us, hl with | [_, _], _ => rfl) (fun vs H Q E h => ?_) (fun f cdv A outer s H vs Q E hG hr h => ?_)
  · obtain ⟨_, _, _, rfl, _⟩ := h
    rfl
  · obtain ⟨r, lim, n, rfl, ⟨d, sd, c, e, d0, d1, s0, s1, c0, c1⟩, hn, l0, l1, q⟩ := h
    have nd := sc_law_draw.nd
    refine ⟨_, (pss_cons (ps_if (pt_cmpR op_gt (pe_ix ix_list (pv 0) pe_int (fun _ _ => rfl)) pe_int (nomark _)) (pss_cons (ps_set (i := 2) nd rfl (.inl rfl) (pe_op op_mod (pe_ix ix_list (pv 0) pe_int (fun _ _ => rfl)) (pv 1))) (pss_cons (ps_asg (pe_op op_fdivW (pe_ix ix_list (pv 0) pe_int (fun _ _ => rfl)) (pv 1)) (pg_sub (pv 0) pe_int set_list)) (pss_one (ps_ret (pv 2))))) pss_nil) (pss_cons (ps_asg (pe_op op_add (pe_ix ix_list (pv 0) pe_int (fun _ _ => rfl)) pe_int) (pg_sub (pv 0) pe_int set_list)) (pss_cons (ps_set (i := 3) nd rfl (.inl rfl) (pe_op op_mod (pe_op op_powX (pe_op op_add (pe_ix ix_list (pv 0) pe_int (fun _ _ => rfl)) (pe_op op_mulW pe_int (pe_ix ix_list (pv 0) pe_int (fun _ _ => rfl)))) pe_int) pe_int)) (pss_cons (ps_set (i := 3) nd rfl (.inl rfl) (pe_op op_mod (pe_op op_powX (pe_op op_add (pv 3) (pe_op op_mulW pe_int (pe_ix ix_list (pv 0) pe_int (fun _ _ => rfl)))) pe_int) pe_int)) (pss_one (ps_ret (pe_op op_mod (pe_op op_fdivW (pv 3) pe_int) (pv 1)))))))), ?_⟩
    show (tSeq _ _) _ [some (V.ref r), some (V.int lim), none, none] H
    refine x_seq.mpr ?_
    (try simp only [x_asg, x_name, x_sub, x_ret, x_next, x_ifS, x_ite, x_iteN, x_T, x_F, x_tT, x_tF, x_op, x_un, x_var0, x_varS, x_c, x_I0, x_I, x_rU, x_nil, x_cons, x_test, x_B, x_bl, x_call, x_CB, x_tup, x_lst, x_not, x_Eq, x_Ne, x_eqII, x_eqSS, x_eqBB,  x_and, x_or, x_andV, x_orV, x_notV, x_if, x_par, x_two, x_drop, x_BM, x_set0, x_setS, x_gcons, x_gnil, x_forL, x_forT, x_forR1, x_forR2, x_forE, x_ref, x_int1, x_oneI, x_oneB, x_noBI, x_twoI, false_or, x_sl, x_noP, x_part, true_and, List.append_nil, cxK]; try simp only [V.str.injEq, V.int.injEq, V.bl.injEq])
    refine x_ixL (SqL.of e) rfl ?_
    (try simp only [x_asg, x_name, x_sub, x_ret, x_next, x_ifS, x_ite, x_iteN, x_T, x_F, x_tT, x_tF, x_op, x_un, x_var0, x_varS, x_c, x_I0, x_I, x_rU, x_nil, x_cons, x_test, x_B, x_bl, x_call, x_CB, x_tup, x_lst, x_not, x_Eq, x_Ne, x_eqII, x_eqSS, x_eqBB,  x_and, x_or, x_andV, x_orV, x_notV, x_if, x_par, x_two, x_drop, x_BM, x_set0, x_setS, x_gcons, x_gnil, x_forL, x_forT, x_forR1, x_forR2, x_forE, x_ref, x_int1, x_oneI, x_oneB, x_noBI, x_twoI, false_or, x_sl, x_noP, x_part, true_and, List.append_nil, cxK]; try simp only [V.str.injEq, V.int.injEq, V.bl.injEq])
    refine ⟨fun hd => ?_, fun hd => ?_⟩
    · refine x_seq.mpr ?_
      (try simp only [x_asg, x_name, x_sub, x_ret, x_next, x_ifS, x_ite, x_iteN, x_T, x_F, x_tT, x_tF, x_op, x_un, x_var0, x_varS, x_c, x_I0, x_I, x_rU, x_nil, x_cons, x_test, x_B, x_bl, x_call, x_CB, x_tup, x_lst, x_not, x_Eq, x_Ne, x_eqII, x_eqSS, x_eqBB,  x_and, x_or, x_andV, x_orV, x_notV, x_if, x_par, x_two, x_drop, x_BM, x_set0, x_setS, x_gcons, x_gnil, x_forL, x_forT, x_forR1, x_forR2, x_forE, x_ref, x_int1, x_oneI, x_oneB, x_noBI, x_twoI, false_or, x_sl, x_noP, x_part, true_and, List.append_nil, cxK]; try simp only [V.str.injEq, V.int.injEq, V.bl.injEq])
      refine x_ixL (SqL.of e) rfl ?_
      (try simp only [x_asg, x_name, x_sub, x_ret, x_next, x_ifS, x_ite, x_iteN, x_T, x_F, x_tT, x_tF, x_op, x_un, x_var0, x_varS, x_c, x_I0, x_I, x_rU, x_nil, x_cons, x_test, x_B, x_bl, x_call, x_CB, x_tup, x_lst, x_not, x_Eq, x_Ne, x_eqII, x_eqSS, x_eqBB,  x_and, x_or, x_andV, x_orV, x_notV, x_if, x_par, x_two, x_drop, x_BM, x_set0, x_setS, x_gcons, x_gnil, x_forL, x_forT, x_forR1, x_forR2, x_forE, x_ref, x_int1, x_oneI, x_oneB, x_noBI, x_twoI, false_or, x_sl, x_noP, x_part, true_and, List.append_nil, cxK]; try simp only [V.str.injEq, V.int.injEq, V.bl.injEq])
      refine ⟨by omega, ?_⟩
      refine x_seq.mpr ?_
      (try simp only [x_asg, x_name, x_sub, x_ret, x_next, x_ifS, x_ite, x_iteN, x_T, x_F, x_tT, x_tF, x_op, x_un, x_var0, x_varS, x_c, x_I0, x_I, x_rU, x_nil, x_cons, x_test, x_B, x_bl, x_call, x_CB, x_tup, x_lst, x_not, x_Eq, x_Ne, x_eqII, x_eqSS, x_eqBB,  x_and, x_or, x_andV, x_orV, x_notV, x_if, x_par, x_two, x_drop, x_BM, x_set0, x_setS, x_gcons, x_gnil, x_forL, x_forT, x_forR1, x_forR2, x_forE, x_ref, x_int1, x_oneI, x_oneB, x_noBI, x_twoI, false_or, x_sl, x_noP, x_part, true_and, List.append_nil, cxK]; try simp only [V.str.injEq, V.int.injEq, V.bl.injEq])
      refine x_ixL (SqL.of e) rfl ?_
      (try simp only [x_asg, x_name, x_sub, x_ret, x_next, x_ifS, x_ite, x_iteN, x_T, x_F, x_tT, x_tF, x_op, x_un, x_var0, x_varS, x_c, x_I0, x_I, x_rU, x_nil, x_cons, x_test, x_B, x_bl, x_call, x_CB, x_tup, x_lst, x_not, x_Eq, x_Ne, x_eqII, x_eqSS, x_eqBB,  x_and, x_or, x_andV, x_orV, x_notV, x_if, x_par, x_two, x_drop, x_BM, x_set0, x_setS, x_gcons, x_gnil, x_forL, x_forT, x_forR1, x_forR2, x_forE, x_ref, x_int1, x_oneI, x_oneB, x_noBI, x_twoI, false_or, x_sl, x_noP, x_part, true_and, List.append_nil, cxK]; try simp only [V.str.injEq, V.int.injEq, V.bl.injEq])
      refine ⟨⟨by omega, Nat.lt_of_lt_of_le (PySem.Flt.log2_lt_of (k := 1000) (by omega) (by omega)) (by decide)⟩, x_setL e (j := 0) rfl ?_⟩
      refine q _ _ (Int.emod_nonneg _ (by omega)) (Int.emod_lt_of_pos _ (by omega)) ⟨d / lim, sd, c, upd_same, Int.ediv_nonneg d0 (by omega), ?_, s0, s1, c0, by omega⟩ (Oth.upd r _)
      exact Int.lt_of_le_of_lt (Int.ediv_le_self _ d0) d1
    · refine x_seq.mpr ?_
      (try simp only [x_asg, x_name, x_sub, x_ret, x_next, x_ifS, x_ite, x_iteN, x_T, x_F, x_tT, x_tF, x_op, x_un, x_var0, x_varS, x_c, x_I0, x_I, x_rU, x_nil, x_cons, x_test, x_B, x_bl, x_call, x_CB, x_tup, x_lst, x_not, x_Eq, x_Ne, x_eqII, x_eqSS, x_eqBB,  x_and, x_or, x_andV, x_orV, x_notV, x_if, x_par, x_two, x_drop, x_BM, x_set0, x_setS, x_gcons, x_gnil, x_forL, x_forT, x_forR1, x_forR2, x_forE, x_ref, x_int1, x_oneI, x_oneB, x_noBI, x_twoI, false_or, x_sl, x_noP, x_part, true_and, List.append_nil, cxK]; try simp only [V.str.injEq, V.int.injEq, V.bl.injEq])
      refine x_ixL (SqL.of e) rfl ?_
      (try simp only [x_asg, x_name, x_sub, x_ret, x_next, x_ifS, x_ite, x_iteN, x_T, x_F, x_tT, x_tF, x_op, x_un, x_var0, x_varS, x_c, x_I0, x_I, x_rU, x_nil, x_cons, x_test, x_B, x_bl, x_call, x_CB, x_tup, x_lst, x_not, x_Eq, x_Ne, x_eqII, x_eqSS, x_eqBB,  x_and, x_or, x_andV, x_orV, x_notV, x_if, x_par, x_two, x_drop, x_BM, x_set0, x_setS, x_gcons, x_gnil, x_forL, x_forT, x_forR1, x_forR2, x_forE, x_ref, x_int1, x_oneI, x_oneB, x_noBI, x_twoI, false_or, x_sl, x_noP, x_part, true_and, List.append_nil, cxK]; try simp only [V.str.injEq, V.int.injEq, V.bl.injEq])
      refine x_setL e (j := 2) rfl ?_
      have e1 : upd H r (.lst [.int d, .int sd, .int (c + 1)]) r = some (.lst [.int d, .int sd, .int (c + 1)]) := upd_same
      refine x_seq.mpr ?_
      (try simp only [x_asg, x_name, x_sub, x_ret, x_next, x_ifS, x_ite, x_iteN, x_T, x_F, x_tT, x_tF, x_op, x_un, x_var0, x_varS, x_c, x_I0, x_I, x_rU, x_nil, x_cons, x_test, x_B, x_bl, x_call, x_CB, x_tup, x_lst, x_not, x_Eq, x_Ne, x_eqII, x_eqSS, x_eqBB,  x_and, x_or, x_andV, x_orV, x_notV, x_if, x_par, x_two, x_drop, x_BM, x_set0, x_setS, x_gcons, x_gnil, x_forL, x_forT, x_forR1, x_forR2, x_forE, x_ref, x_int1, x_oneI, x_oneB, x_noBI, x_twoI, false_or, x_sl, x_noP, x_part, true_and, List.append_nil, cxK]; try simp only [V.str.injEq, V.int.injEq, V.bl.injEq])
      refine x_ixL (SqL.of e1) rfl ?_
      (try simp only [x_asg, x_name, x_sub, x_ret, x_next, x_ifS, x_ite, x_iteN, x_T, x_F, x_tT, x_tF, x_op, x_un, x_var0, x_varS, x_c, x_I0, x_I, x_rU, x_nil, x_cons, x_test, x_B, x_bl, x_call, x_CB, x_tup, x_lst, x_not, x_Eq, x_Ne, x_eqII, x_eqSS, x_eqBB,  x_and, x_or, x_andV, x_orV, x_notV, x_if, x_par, x_two, x_drop, x_BM, x_set0, x_setS, x_gcons, x_gnil, x_forL, x_forT, x_forR1, x_forR2, x_forE, x_ref, x_int1, x_oneI, x_oneB, x_noBI, x_twoI, false_or, x_sl, x_noP, x_part, true_and, List.append_nil, cxK]; try simp only [V.str.injEq, V.int.injEq, V.bl.injEq])
      refine x_ixL (SqL.of e1) rfl ?_
      (try simp only [x_asg, x_name, x_sub, x_ret, x_next, x_ifS, x_ite, x_iteN, x_T, x_F, x_tT, x_tF, x_op, x_un, x_var0, x_varS, x_c, x_I0, x_I, x_rU, x_nil, x_cons, x_test, x_B, x_bl, x_call, x_CB, x_tup, x_lst, x_not, x_Eq, x_Ne, x_eqII, x_eqSS, x_eqBB,  x_and, x_or, x_andV, x_orV, x_notV, x_if, x_par, x_two, x_drop, x_BM, x_set0, x_setS, x_gcons, x_gnil, x_forL, x_forT, x_forR1, x_forR2, x_forE, x_ref, x_int1, x_oneI, x_oneB, x_noBI, x_twoI, false_or, x_sl, x_noP, x_part, true_and, List.append_nil, cxK]; try simp only [V.str.injEq, V.int.injEq, V.bl.injEq])
      refine ⟨wide_mul (a := 64) (b := 64) (by omega) (by omega) (by omega) (by omega) (by omega), ⟨by omega, by omega, pow_ok (by omega) (by omega)⟩, by omega, ?_⟩
      refine x_seq.mpr ?_
      (try simp only [x_asg, x_name, x_sub, x_ret, x_next, x_ifS, x_ite, x_iteN, x_T, x_F, x_tT, x_tF, x_op, x_un, x_var0, x_varS, x_c, x_I0, x_I, x_rU, x_nil, x_cons, x_test, x_B, x_bl, x_call, x_CB, x_tup, x_lst, x_not, x_Eq, x_Ne, x_eqII, x_eqSS, x_eqBB,  x_and, x_or, x_andV, x_orV, x_notV, x_if, x_par, x_two, x_drop, x_BM, x_set0, x_setS, x_gcons, x_gnil, x_forL, x_forT, x_forR1, x_forR2, x_forE, x_ref, x_int1, x_oneI, x_oneB, x_noBI, x_twoI, false_or, x_sl, x_noP, x_part, true_and, List.append_nil, cxK]; try simp only [V.str.injEq, V.int.injEq, V.bl.injEq])
      refine x_ixL (SqL.of e1) rfl ?_
      (try simp only [x_asg, x_name, x_sub, x_ret, x_next, x_ifS, x_ite, x_iteN, x_T, x_F, x_tT, x_tF, x_op, x_un, x_var0, x_varS, x_c, x_I0, x_I, x_rU, x_nil, x_cons, x_test, x_B, x_bl, x_call, x_CB, x_tup, x_lst, x_not, x_Eq, x_Ne, x_eqII, x_eqSS, x_eqBB,  x_and, x_or, x_andV, x_orV, x_notV, x_if, x_par, x_two, x_drop, x_BM, x_set0, x_setS, x_gcons, x_gnil, x_forL, x_forT, x_forR1, x_forR2, x_forE, x_ref, x_int1, x_oneI, x_oneB, x_noBI, x_twoI, false_or, x_sl, x_noP, x_part, true_and, List.append_nil, cxK]; try simp only [V.str.injEq, V.int.injEq, V.bl.injEq])
      have m0 := Int.emod_nonneg ((sd + 998244353 * (c + 1)) ^ (3 : Int).toNat) (show (162259276829213363391578010288127 : Int) ≠ 0 by omega)
      have m1 := Int.emod_lt_of_pos ((sd + 998244353 * (c + 1)) ^ (3 : Int).toNat) (show (0 : Int) < 162259276829213363391578010288127 by omega)
      refine ⟨wide_mul (a := 64) (b := 64) (by omega) (by omega) (by omega) (by omega) (by omega), ⟨by omega, by omega, pow_ok (by omega) (by omega)⟩, by omega, ?_⟩
      refine ⟨⟨by omega, by decide +kernel⟩, by omega, ?_⟩
      exact q _ _ (Int.emod_nonneg _ (by omega)) (Int.emod_lt_of_pos _ (by omega)) ⟨d, sd, c + 1, e1, d0, d1, s0, s1, by omega, by omega⟩ (Oth.upd r _)
def spRng (K : PySem.W.Frag) : Sp := fun vs H Q _ => ∃ (a : Addr) (ns : List Int), vs = [.ref a] ∧ SqL K H a (ns.map V.int) ∧ ns.length ≤ 63 ∧ ∀ r H', H r = none → RngAt H' r 0 → Same H H' → Q (.ref r) H'
theorem p_rng (T : Tx K mg "_law_rng" s_law_rng) (m_abs : mg "abs" = none) : Pr P w K mg base CX0 1 "_law_rng" ["script"] (spRng K) := by
  refine mkP T sc_law_rng (fun _ _ _ _ _ _ us hl => match us, hl with | [_], _ => rfl) (fun vs H Q E h => ?_) (fun f cdv A outer s H vs Q E hG hr h => ?_)
  · obtain ⟨_, _, rfl, _⟩ := h
    rfl
  · obtain ⟨a, ns, rfl, hS, hlen, q⟩ := h
    have nd := sc_law_rng.nd
    refine ⟨_, (pss_cons (ps_asg (pe_tup (pa_cons pe_int (pa_cons pe_int pa_nil))) (pg_tup rfl (pgs_cons (pg_name (i := 1) nd rfl (.inl rfl)) (pgs_cons (pg_name (i := 2) nd rfl (.inl rfl)) pgs_nil)))) (pss_cons (ps_for PassesOwn.never rfl (pi_list (pe_slice sl_list (pv 0) po_none (po_some pe_int))) (pg_name (i := 3) nd rfl (.inl rfl)) (pss_cons (ps_set (i := 4) nd rfl (.inl rfl) (pe_callB call_abs (by rfl) m_abs (by decide +kernel) (pa_cons (pv 3) pa_nil))) (pss_cons (ps_if (pt_cmpR op_ge (pv 4) (pe_op op_powX pe_int pe_int) (nomark _)) (pss_one (ps_set (i := 1) nd rfl (.inl rfl) (pe_op op_add (pe_op op_mulW (pv 1) (pe_op op_powX pe_int pe_int)) (pe_op op_mod (pv 4) (pe_op op_powX pe_int pe_int))))) pss_nil) (pss_one (ps_set (i := 2) nd rfl (.inl rfl) (pe_op op_mod (pe_op op_add (pe_op op_add (pe_op op_mulW (pv 2) pe_int) (pe_op op_mod (pv 3) pe_int)) pe_int) pe_int)))))) (pss_one (ps_ret (pe_lst (pa_cons (pv 1) (pa_cons (pv 2) (pa_cons pe_int pa_nil)))))))), ?_⟩
    show (tSeq _ _) _ [some (V.ref a), none, none, none, none] H
    refine x_seq.mpr ?_
    (try simp only [x_asg, x_name, x_sub, x_ret, x_next, x_ifS, x_ite, x_iteN, x_T, x_F, x_tT, x_tF, x_op, x_un, x_var0, x_varS, x_c, x_I0, x_I, x_rU, x_nil, x_cons, x_test, x_B, x_bl, x_call, x_CB, x_tup, x_lst, x_not, x_Eq, x_Ne, x_eqII, x_eqSS, x_eqBB,  x_and, x_or, x_andV, x_orV, x_notV, x_if, x_par, x_two, x_drop, x_BM, x_set0, x_setS, x_gcons, x_gnil, x_forL, x_forT, x_forR1, x_forR2, x_forE, x_ref, x_int1, x_oneI, x_oneB, x_noBI, x_twoI, false_or, x_sl, x_noP, x_part, true_and, List.append_nil, cxK]; try simp only [V.str.injEq, V.int.injEq, V.bl.injEq])
    refine ⟨by show 2 ≤ sizeLine; decide, fun t nt => ?_⟩
    refine x_gtup (SqT.of upd_same) rfl ?_
    (try simp only [x_asg, x_name, x_sub, x_ret, x_next, x_ifS, x_ite, x_iteN, x_T, x_F, x_tT, x_tF, x_op, x_un, x_var0, x_varS, x_c, x_I0, x_I, x_rU, x_nil, x_cons, x_test, x_B, x_bl, x_call, x_CB, x_tup, x_lst, x_not, x_Eq, x_Ne, x_eqII, x_eqSS, x_eqBB,  x_and, x_or, x_andV, x_orV, x_notV, x_if, x_par, x_two, x_drop, x_BM, x_set0, x_setS, x_gcons, x_gnil, x_forL, x_forT, x_forR1, x_forR2, x_forE, x_ref, x_int1, x_oneI, x_oneB, x_noBI, x_twoI, false_or, x_sl, x_noP, x_part, true_and, List.append_nil, cxK]; try simp only [V.str.injEq, V.int.injEq, V.bl.injEq])
    have sH := same_new (o := .tup [.int 0, .int 88675123]) nt
    generalize hH0 : upd H t (.tup [.int 0, .int 88675123]) = H0 at sH ⊢
    have hS0 := sH.seq hS
    refine x_seq.mpr ?_
    (try simp only [x_asg, x_name, x_sub, x_ret, x_next, x_ifS, x_ite, x_iteN, x_T, x_F, x_tT, x_tF, x_op, x_un, x_var0, x_varS, x_c, x_I0, x_I, x_rU, x_nil, x_cons, x_test, x_B, x_bl, x_call, x_CB, x_tup, x_lst, x_not, x_Eq, x_Ne, x_eqII, x_eqSS, x_eqBB,  x_and, x_or, x_andV, x_orV, x_notV, x_if, x_par, x_two, x_drop, x_BM, x_set0, x_setS, x_gcons, x_gnil, x_forL, x_forT, x_forR1, x_forR2, x_forE, x_ref, x_int1, x_oneI, x_oneB, x_noBI, x_twoI, false_or, x_sl, x_noP, x_part, true_and, List.append_nil, cxK]; try simp only [V.str.injEq, V.int.injEq, V.bl.injEq])
    refine x_slL hS0 fun p np => ?_
    (try simp only [x_asg, x_name, x_sub, x_ret, x_next, x_ifS, x_ite, x_iteN, x_T, x_F, x_tT, x_tF, x_op, x_un, x_var0, x_varS, x_c, x_I0, x_I, x_rU, x_nil, x_cons, x_test, x_B, x_bl, x_call, x_CB, x_tup, x_lst, x_not, x_Eq, x_Ne, x_eqII, x_eqSS, x_eqBB,  x_and, x_or, x_andV, x_orV, x_notV, x_if, x_par, x_two, x_drop, x_BM, x_set0, x_setS, x_gcons, x_gnil, x_forL, x_forT, x_forR1, x_forR2, x_forE, x_ref, x_int1, x_oneI, x_oneB, x_noBI, x_twoI, false_or, x_sl, x_noP, x_part, true_and, List.append_nil, cxK]; try simp only [V.str.injEq, V.int.injEq, V.bl.injEq])
    have hcut : cutV (ns.map V.int) none (some 63) = ns.map V.int := by
      unfold cutV
      rw [HT.sIx_none, show HT.sIx (ns.map V.int).length (ns.map V.int).length (some 63) = min 63 (ns.map V.int).length from HT.sIx_nat _ _ 63]
      rw [List.drop_zero, List.length_map, Nat.sub_zero, Nat.min_eq_right hlen]
      exact List.take_of_length_le (by simp)
    rw [hcut]
    refine ⟨⟨_, SqL.of upd_same⟩, ?_⟩
    refine lpL (xs := ns.map V.int) (fun i σ H' => ∃ (d sd : Int) (y3 y4 : Option V), σ = [some (.ref a), some (.int d), some (.int sd), y3, y4] ∧ H' = upd H0 p (.lst (ns.map V.int)) ∧ 0 ≤ d ∧ d < (10 ^ 60) ^ i ∧ 0 ≤ sd ∧ sd < 2305843009213693951)
      ⟨0, 88675123, none, none, rfl, rfl, by omega, by omega, by omega, by omega⟩ (fun i σ H' _ h => ?_) (fun i x σ H' hx h => ?_) (fun σ H' h => ?_)
    · obtain ⟨_, _, _, _, _, rfl, _⟩ := h
      exact SqL.of upd_same
    · obtain ⟨d, sd, y3, y4, rfl, rfl, d0, d1, s0, s1⟩ := h
      obtain ⟨c, rfl⟩ : ∃ c : Int, x = .int c := by
        rw [List.getElem?_map] at hx
        cases e : ns[i]? with
        | none => rw [e] at hx; cases hx
        | some c => rw [e] at hx; cases hx; exact ⟨c, rfl⟩
      have hi : i < 63 := by
        have := (List.getElem?_eq_some_iff.mp hx).1
        rw [List.length_map] at this
        omega
      (try simp only [x_asg, x_name, x_sub, x_ret, x_next, x_ifS, x_ite, x_iteN, x_T, x_F, x_tT, x_tF, x_op, x_un, x_var0, x_varS, x_c, x_I0, x_I, x_rU, x_nil, x_cons, x_test, x_B, x_bl, x_call, x_CB, x_tup, x_lst, x_not, x_Eq, x_Ne, x_eqII, x_eqSS, x_eqBB,  x_and, x_or, x_andV, x_orV, x_notV, x_if, x_par, x_two, x_drop, x_BM, x_set0, x_setS, x_gcons, x_gnil, x_forL, x_forT, x_forR1, x_forR2, x_forE, x_ref, x_int1, x_oneI, x_oneB, x_noBI, x_twoI, false_or, x_sl, x_noP, x_part, true_and, List.append_nil, cxK]; try simp only [V.str.injEq, V.int.injEq, V.bl.injEq])
      refine x_seq.mpr ?_
      (try simp only [x_asg, x_name, x_sub, x_ret, x_next, x_ifS, x_ite, x_iteN, x_T, x_F, x_tT, x_tF, x_op, x_un, x_var0, x_varS, x_c, x_I0, x_I, x_rU, x_nil, x_cons, x_test, x_B, x_bl, x_call, x_CB, x_tup, x_lst, x_not, x_Eq, x_Ne, x_eqII, x_eqSS, x_eqBB,  x_and, x_or, x_andV, x_orV, x_notV, x_if, x_par, x_two, x_drop, x_BM, x_set0, x_setS, x_gcons, x_gnil, x_forL, x_forT, x_forR1, x_forR2, x_forE, x_ref, x_int1, x_oneI, x_oneB, x_noBI, x_twoI, false_or, x_sl, x_noP, x_part, true_and, List.append_nil, cxK]; try simp only [V.str.injEq, V.int.injEq, V.bl.injEq])
      refine x_seq.mpr ?_
      (try simp only [x_asg, x_name, x_sub, x_ret, x_next, x_ifS, x_ite, x_iteN, x_T, x_F, x_tT, x_tF, x_op, x_un, x_var0, x_varS, x_c, x_I0, x_I, x_rU, x_nil, x_cons, x_test, x_B, x_bl, x_call, x_CB, x_tup, x_lst, x_not, x_Eq, x_Ne, x_eqII, x_eqSS, x_eqBB,  x_and, x_or, x_andV, x_orV, x_notV, x_if, x_par, x_two, x_drop, x_BM, x_set0, x_setS, x_gcons, x_gnil, x_forL, x_forT, x_forR1, x_forR2, x_forE, x_ref, x_int1, x_oneI, x_oneB, x_noBI, x_twoI, false_or, x_sl, x_noP, x_part, true_and, List.append_nil, cxK]; try simp only [V.str.injEq, V.int.injEq, V.bl.injEq])
      refine ⟨⟨by omega, by omega, pow_ok (by omega) (by omega)⟩, ?_⟩
      have lst : ∀ d' : Int, 0 ≤ d' → d' < (10 ^ 60) ^ (i + 1) → ∃ (d_1 sd_1 : Int) (y3' y4' : Option V), [some (V.ref a), some (V.int d'), some (V.int ((sd * 1000003 + c % 2305843009213693921 + 7) % 2305843009213693951)), some (V.int c), some (V.int (if c < 0 then -c else c))] = [some (V.ref a), some (V.int d_1), some (V.int sd_1), y3', y4'] ∧
          0 ≤ d_1 ∧ d_1 < (10 ^ 60) ^ (i + 1) ∧ 0 ≤ sd_1 ∧ sd_1 < 2305843009213693951 := fun d' h0 h1 =>
        ⟨_, _, _, _, rfl, h0, h1, Int.emod_nonneg _ (by omega), Int.emod_lt_of_pos _ (by omega)⟩
      have sok : CMulW sd 1000003 := wide_mul (a := 64) (b := 64) (by omega) (by omega) (by omega) (by omega) (by omega)
      have grow : (10 ^ 60 : Int) ^ i * 10 ^ 60 = (10 ^ 60) ^ (i + 1) := (Int.pow_succ _ _).symm
      have dn : (10 ^ 60 : Int) ^ i ≤ (10 ^ 60) ^ 62 := by
        have h : ((10 ^ 60) ^ i : Nat) ≤ (10 ^ 60) ^ 62 := Nat.pow_le_pow_right (by decide) (by omega)
        exact_mod_cast h
      have db : ((10 ^ 60) ^ 62 : Int) < 2 ^ 13000 := by decide +kernel
      have dd : d.natAbs < 2 ^ 13000 := by
        have h : d < 2 ^ 13000 := Int.lt_of_lt_of_le d1 (Int.le_of_lt (Int.lt_of_le_of_lt dn db))
        have e : ((d.natAbs : Nat) : Int) = d := Int.natAbs_of_nonneg d0
        exact Int.ofNat_lt.mp (by rw [e]; exact_mod_cast h)
      refine ⟨fun hb => ?_, fun hb => ?_⟩
      · refine ⟨⟨by omega, by omega, pow_ok (by omega) (by omega)⟩, ?_⟩
        have r0 := Int.emod_nonneg (if c < 0 then -c else c) (show (10 ^ 60 : Int) ≠ 0 by decide)
        have r1 := Int.emod_lt_of_pos (if c < 0 then -c else c) (show (0 : Int) < 10 ^ 60 by decide)
        refine ⟨wide_mul (a := 13000) (b := 200) dd (by decide +kernel) (by omega) (by omega) (by omega), ⟨by omega, by omega, pow_ok (by omega) (by omega)⟩, by decide, sok, by omega, by omega, ?_⟩
        refine lst _ ?_ ?_
        · have : 0 ≤ d * 10 ^ 60 := Int.mul_nonneg d0 (by decide)
          exact Int.add_nonneg this r0
        · rw [← grow]
          have h1 : (d + 1) * 10 ^ 60 ≤ (10 ^ 60) ^ i * 10 ^ 60 := Int.mul_le_mul_of_nonneg_right d1 (by decide)
          have h2 : (d + 1) * 10 ^ 60 = d * 10 ^ 60 + 10 ^ 60 := by rw [Int.add_mul, Int.one_mul]
          show d * 10 ^ 60 + (if c < 0 then -c else c) % 10 ^ 60 < _
          exact Int.lt_of_lt_of_le (Int.add_lt_add_left r1 _) (by rw [← h2]; exact h1)
      · refine ⟨sok, by omega, by omega, ?_⟩
        refine lst d d0 ?_
        rw [← grow]
        have h1 : d * 1 ≤ d * 10 ^ 60 := Int.mul_le_mul_of_nonneg_left (by decide) d0
        have h2 : (d + 1) * 10 ^ 60 ≤ (10 ^ 60) ^ i * 10 ^ 60 := Int.mul_le_mul_of_nonneg_right d1 (by decide)
        have h3 : (d + 1) * 10 ^ 60 = d * 10 ^ 60 + 10 ^ 60 := by rw [Int.add_mul, Int.one_mul]
        rw [h3] at h2
        have h4 : (0 : Int) < 10 ^ 60 := by decide
        omega
    · obtain ⟨d, sd, y3, y4, rfl, rfl, d0, d1, s0, s1⟩ := h
      (try simp only [x_asg, x_name, x_sub, x_ret, x_next, x_ifS, x_ite, x_iteN, x_T, x_F, x_tT, x_tF, x_op, x_un, x_var0, x_varS, x_c, x_I0, x_I, x_rU, x_nil, x_cons, x_test, x_B, x_bl, x_call, x_CB, x_tup, x_lst, x_not, x_Eq, x_Ne, x_eqII, x_eqSS, x_eqBB,  x_and, x_or, x_andV, x_orV, x_notV, x_if, x_par, x_two, x_drop, x_BM, x_set0, x_setS, x_gcons, x_gnil, x_forL, x_forT, x_forR1, x_forR2, x_forE, x_ref, x_int1, x_oneI, x_oneB, x_noBI, x_twoI, false_or, x_sl, x_noP, x_part, true_and, List.append_nil, cxK]; try simp only [V.str.injEq, V.int.injEq, V.bl.injEq])
      refine ⟨by show 3 ≤ sizeLine; decide, fun r hn => ?_⟩
      have np' : H r = none := Same.free (sH.trans (same_new np)) hn
      refine q r _ np' ⟨d, sd, 0, upd_same, d0, ?_, s0, s1, by omega, by omega⟩ ((sH.trans (same_new np)).trans (same_new hn))
      refine Int.lt_of_lt_of_le d1 ?_
      rw [List.length_map]
      have h : ((10 ^ 60) ^ ns.length : Nat) ≤ (10 ^ 60) ^ 63 := Nat.pow_le_pow_right (by decide) hlen
      have h2 : ((10 ^ 60) ^ 63 : Int) = 10 ^ 3780 := by decide +kernel
      rw [← h2]
      exact_mod_cast h
end

abbrev s_is_cast : Stmt := topS 4
theorem sc_is_cast : FnScope ["word", "width"] ["word", "width"] (defScope s_is_cast) := ⟨rfl, rfl, rfl, by decide +kernel, rfl, by decide +kernel, by decide +kernel⟩
abbrev s_check_chain : Stmt := topS 5
theorem sc_check_chain : FnScope ["chain", "index", "word", "amount"] ["chain"] (defScope s_check_chain) := ⟨rfl, rfl, rfl, by decide +kernel, rfl, by decide +kernel, by decide +kernel⟩
abbrev s_lowest_result : Stmt := topS 6
theorem sc_lowest_result : FnScope ["word", "width"] ["word", "width"] (defScope s_lowest_result) := ⟨rfl, rfl, rfl, by decide +kernel, rfl, by decide +kernel, by decide +kernel⟩
abbrev s_cast : Stmt := topS 7
theorem sc_cast : FnScope ["number", "word", "width", "lowest"] ["number", "word", "width"] (defScope s_cast) := ⟨rfl, rfl, rfl, by decide +kernel, rfl, by decide +kernel, by decide +kernel⟩
abbrev s_after_step : Stmt := topS 8
theorem sc_after_step : FnScope ["number", "step", "word", "amount"] ["number", "step"] (defScope s_after_step) := ⟨rfl, rfl, rfl, by decide +kernel, rfl, by decide +kernel, by decide +kernel⟩
abbrev s_converted : Stmt := topS 9
theorem sc_converted : FnScope ["number", "chain", "step"] ["number", "chain"] (defScope s_converted) := ⟨rfl, rfl, rfl, by decide +kernel, rfl, by decide +kernel, by decide +kernel⟩
abbrev s_fits : Stmt := topS 10
theorem sc_fits : FnScope ["number", "word", "width"] ["number", "word", "width"] (defScope s_fits) := ⟨rfl, rfl, rfl, by decide +kernel, rfl, by decide +kernel, by decide +kernel⟩
section
variable {P : Program} {w : World} {K : PySem.W.Frag} {mg : Str → Option Value} {base : Heap}
def spIsCast : Sp := fun vs H Q _ => ∃ (x : Str) (n : Int), vs = [.str x, .int n] ∧ ∀ H', Same H H' → Q (.bl (isC x n)) H'
theorem p_is_cast (T : Tx K mg "is_cast" s_is_cast) : Pr P w K mg base CX0 1 "is_cast" ["word", "width"] spIsCast := by
  refine mkP T sc_is_cast (fun _ _ _ _ _ _ us hl => match us, hl with | [_, _], _ => rfl) (fun vs H Q E h => ?_) (fun f cdv A outer s H vs Q E hG hr h => ?_)
  · obtain ⟨_, _, rfl, _⟩ := h
    rfl
  · obtain ⟨x, n, rfl, q⟩ := h
    have nd := sc_is_cast.nd
    refine ⟨_, (pss_one (ps_ret (pe_and (pe_cmpR op_in_seq (pv 0) (pe_tup (pa_cons pe_str (pa_cons pe_str pa_nil))) (by rfl)) (pe_one (pe_cmpR op_ge (pv 1) pe_int (nomark _)))))), ?_⟩
    show (tRet _) _ [some (V.str x), some (V.int n)] H
    (try simp only [x_asg, x_name, x_sub, x_ret, x_next, x_ifS, x_ite, x_iteN, x_T, x_F, x_tT, x_tF, x_op, x_un, x_var0, x_varS, x_c, x_I0, x_I, x_rU, x_nil, x_cons, x_test, x_B, x_bl, x_call, x_CB, x_tup, x_lst, x_not, x_Eq, x_Ne, x_eqII, x_eqSS, x_eqBB,  x_and, x_or, x_andV, x_orV, x_notV, x_if, x_par, x_two, x_drop, x_BM, x_set0, x_setS, x_gcons, x_gnil, x_forL, x_forT, x_forR1, x_forR2, x_forE, x_ref, x_int1, x_oneI, x_oneB, x_noBI, x_twoI, false_or, x_sl, x_noP, x_part, true_and, List.append_nil, cxK]; try simp only [V.str.injEq, V.int.injEq, V.bl.injEq])
    refine ⟨by show 2 ≤ sizeLine; decide, fun p np => ?_⟩
    refine ⟨p, _, rfl, .inr (SqT.of upd_same), rfl, rfl, ?_⟩
    have q' := q _ (same_new (o := .tup [.str "u", .str "s"]) np)
    unfold isC at q'
    (try simp only [x_asg, x_name, x_sub, x_ret, x_next, x_ifS, x_ite, x_iteN, x_T, x_F, x_tT, x_tF, x_op, x_un, x_var0, x_varS, x_c, x_I0, x_I, x_rU, x_nil, x_cons, x_test, x_B, x_bl, x_call, x_CB, x_tup, x_lst, x_not, x_Eq, x_Ne, x_eqII, x_eqSS, x_eqBB,  x_and, x_or, x_andV, x_orV, x_notV, x_if, x_par, x_two, x_drop, x_BM, x_set0, x_setS, x_gcons, x_gnil, x_forL, x_forT, x_forR1, x_forR2, x_forE, x_ref, x_int1, x_oneI, x_oneB, x_noBI, x_twoI, false_or, x_sl, x_noP, x_part, true_and, List.append_nil, cxK]; try simp only [V.str.injEq, V.int.injEq, V.bl.injEq])
    rw [show (if false = true then !inV (V.str x) [V.str "u", V.str "s"] else inV (V.str x) [V.str "u", V.str "s"]) = inV (V.str x) [V.str "u", V.str "s"] from rfl, inV2]
    cases hc : decide (x = "u" ∨ x = "s") with
    | true =>
      rw [hc, Bool.true_and] at q'
      exact x_T.mpr q'
    | false =>
      rw [hc, Bool.false_and] at q'
      exact x_F.mpr q'
def spLow : Sp := fun vs H Q _ => ∃ (x : Str) (n : Int), vs = [.str x, .int n] ∧ 1 ≤ n ∧ n ≤ big ∧ Q (.int (lowI x n)) H
theorem p_lowest_result (T : Tx K mg "lowest_result" s_lowest_result) : Pr P w K mg base CX0 1 "lowest_result" ["word", "width"] spLow := by
  refine mkP T sc_lowest_result (fun _ _ _ _ _ _ us hl => match us, hl with | [_, _], _ => rfl) (fun vs H Q E h => ?_) (fun f cdv A outer s H vs Q E hG hr h => ?_)
  · obtain ⟨_, _, rfl, _⟩ := h
    rfl
  · obtain ⟨x, n, rfl, n0, n1, q⟩ := h
    have nd := sc_lowest_result.nd
    unfold big at n1
    refine ⟨_, (pss_cons (ps_if (pt_cmpR op_eq (pv 0) pe_str (nomark _)) (pss_one (ps_ret pe_int)) pss_nil) (pss_one (ps_ret (pe_un un_neg (pe_op op_shl pe_int (pe_op op_sub (pv 1) pe_int)))))), ?_⟩
    show (tSeq _ _) _ [some (V.str x), some (V.int n)] H
    refine x_seq.mpr ?_
    (try simp only [x_asg, x_name, x_sub, x_ret, x_next, x_ifS, x_ite, x_iteN, x_T, x_F, x_tT, x_tF, x_op, x_un, x_var0, x_varS, x_c, x_I0, x_I, x_rU, x_nil, x_cons, x_test, x_B, x_bl, x_call, x_CB, x_tup, x_lst, x_not, x_Eq, x_Ne, x_eqII, x_eqSS, x_eqBB,  x_and, x_or, x_andV, x_orV, x_notV, x_if, x_par, x_two, x_drop, x_BM, x_set0, x_setS, x_gcons, x_gnil, x_forL, x_forT, x_forR1, x_forR2, x_forE, x_ref, x_int1, x_oneI, x_oneB, x_noBI, x_twoI, false_or, x_sl, x_noP, x_part, true_and, List.append_nil, cxK]; try simp only [V.str.injEq, V.int.injEq, V.bl.injEq])
    unfold lowI at q
    refine ⟨fun h => ?_, fun h => ?_⟩
    · rw [if_pos h] at q
      exact q
    · rw [if_neg h] at q
      refine ⟨⟨by omega, by omega, by decide⟩, ?_⟩
      rw [Int.one_mul]
      exact q
def spCast : Sp := fun vs H Q _ => ∃ (y : Int) (x : Str) (n : Int), vs = [.int y, .str x, .int n] ∧ 1 ≤ n ∧ n ≤ big ∧ Q (.int (castI y x n)) H
theorem p_cast (T : Tx K mg "cast" s_cast) (h_lowest_result : Pr P w K mg base CX0 1 "lowest_result" ["word", "width"] spLow) : Pr P w K mg base CX0 2 "cast" ["number", "word", "width"] spCast := by
  refine mkP T sc_cast (fun _ _ _ _ _ _ us hl => match us, hl with | [_, _, _], _ => rfl) (fun vs H Q E h => ?_) (fun f cdv A outer s H vs Q E hG hr h => ?_)
  · obtain ⟨_, _, _, rfl, _⟩ := h
    rfl
  · obtain ⟨y, x, n, rfl, n0, n1, q⟩ := h
    have nd := sc_cast.nd
    refine ⟨_, (pss_cons (ps_set (i := 3) nd rfl (.inl rfl) (pe_P h_lowest_result hr hG (by rfl) (pa_cons (pv 1) (pa_cons (pv 2) pa_nil)))) (pss_one (ps_ret (pe_op op_add (pv 3) (pe_op op_mod (pe_op op_sub (pv 0) (pv 3)) (pe_op op_shl pe_int (pv 2))))))), ?_⟩
    show (tSeq _ _) _ [some (V.int y), some (V.str x), some (V.int n), none] H
    refine x_seq.mpr ?_
    (try simp only [x_asg, x_name, x_sub, x_ret, x_next, x_ifS, x_ite, x_iteN, x_T, x_F, x_tT, x_tF, x_op, x_un, x_var0, x_varS, x_c, x_I0, x_I, x_rU, x_nil, x_cons, x_test, x_B, x_bl, x_call, x_CB, x_tup, x_lst, x_not, x_Eq, x_Ne, x_eqII, x_eqSS, x_eqBB,  x_and, x_or, x_andV, x_orV, x_notV, x_if, x_par, x_two, x_drop, x_BM, x_set0, x_setS, x_gcons, x_gnil, x_forL, x_forT, x_forR1, x_forR2, x_forE, x_ref, x_int1, x_oneI, x_oneB, x_noBI, x_twoI, false_or, x_sl, x_noP, x_part, true_and, List.append_nil, cxK]; try simp only [V.str.injEq, V.int.injEq, V.bl.injEq])
    refine ⟨_, _, rfl, n0, n1, ?_⟩
    (try simp only [x_asg, x_name, x_sub, x_ret, x_next, x_ifS, x_ite, x_iteN, x_T, x_F, x_tT, x_tF, x_op, x_un, x_var0, x_varS, x_c, x_I0, x_I, x_rU, x_nil, x_cons, x_test, x_B, x_bl, x_call, x_CB, x_tup, x_lst, x_not, x_Eq, x_Ne, x_eqII, x_eqSS, x_eqBB,  x_and, x_or, x_andV, x_orV, x_notV, x_if, x_par, x_two, x_drop, x_BM, x_set0, x_setS, x_gcons, x_gnil, x_forL, x_forT, x_forR1, x_forR2, x_forE, x_ref, x_int1, x_oneI, x_oneB, x_noBI, x_twoI, false_or, x_sl, x_noP, x_part, true_and, List.append_nil, cxK]; try simp only [V.str.injEq, V.int.injEq, V.bl.injEq])
    have n1' := n1
    unfold big at n1'
    refine ⟨⟨by omega, by omega, by decide⟩, ?_, ?_⟩
    · rw [Int.one_mul]; exact two_pos _
    · rw [Int.one_mul]
      exact q
def spAfter (K : PySem.W.Frag) : Sp := fun vs H Q _ => ∃ (y : Int) (t : Addr) (x : Str) (n : Int), vs = [.int y, .ref t] ∧ SqT K H t [.str x, .int n] ∧ okS (x, n) = true ∧ n ≤ (if x = "add" then n else big) ∧ Q (.int (stepI y (x, n))) H
theorem isC_of {x : Str} {n : Int} (h : okS (x, n) = true) (hx : ¬ x = "add") : 1 ≤ n := by
  unfold okS isC at h
  simp [hx] at h
  exact h.2
theorem p_after_step (T : Tx K mg "after_step" s_after_step) (h_cast : Pr P w K mg base CX0 2 "cast" ["number", "word", "width"] spCast) : Pr P w K mg base CX0 3 "after_step" ["number", "step"] (spAfter K) := by
  refine mkP T sc_after_step (fun _ _ _ _ _ _ us hl => match us, hl with | [_, _], _ => rfl) (fun vs H Q E h => ?_) (fun f cdv A outer s H vs Q E hG hr h => ?_)
  · obtain ⟨_, _, _, _, rfl, _⟩ := h
    rfl
  · obtain ⟨y, t, x, n, rfl, hT, ok, hb, q⟩ := h
    have nd := sc_after_step.nd
    refine ⟨_, (pss_cons (ps_asg (pv 1) (pg_tup rfl (pgs_cons (pg_name (i := 2) nd rfl (.inl rfl)) (pgs_cons (pg_name (i := 3) nd rfl (.inl rfl)) pgs_nil)))) (pss_cons (ps_if (pt_cmpR op_eq (pv 2) pe_str (nomark _)) (pss_one (ps_ret (pe_op op_add (pv 0) (pv 3)))) pss_nil) (pss_one (ps_ret (pe_P h_cast hr hG (by rfl) (pa_cons (pv 0) (pa_cons (pv 2) (pa_cons (pv 3) pa_nil)))))))), ?_⟩
    show (tSeq _ _) _ [some (V.int y), some (V.ref t), none, none] H
    refine x_seq.mpr ?_
    (try simp only [x_asg, x_name, x_sub, x_ret, x_next, x_ifS, x_ite, x_iteN, x_T, x_F, x_tT, x_tF, x_op, x_un, x_var0, x_varS, x_c, x_I0, x_I, x_rU, x_nil, x_cons, x_test, x_B, x_bl, x_call, x_CB, x_tup, x_lst, x_not, x_Eq, x_Ne, x_eqII, x_eqSS, x_eqBB,  x_and, x_or, x_andV, x_orV, x_notV, x_if, x_par, x_two, x_drop, x_BM, x_set0, x_setS, x_gcons, x_gnil, x_forL, x_forT, x_forR1, x_forR2, x_forE, x_ref, x_int1, x_oneI, x_oneB, x_noBI, x_twoI, false_or, x_sl, x_noP, x_part, true_and, List.append_nil, cxK]; try simp only [V.str.injEq, V.int.injEq, V.bl.injEq])
    refine x_gtup hT rfl ?_
    (try simp only [x_asg, x_name, x_sub, x_ret, x_next, x_ifS, x_ite, x_iteN, x_T, x_F, x_tT, x_tF, x_op, x_un, x_var0, x_varS, x_c, x_I0, x_I, x_rU, x_nil, x_cons, x_test, x_B, x_bl, x_call, x_CB, x_tup, x_lst, x_not, x_Eq, x_Ne, x_eqII, x_eqSS, x_eqBB,  x_and, x_or, x_andV, x_orV, x_notV, x_if, x_par, x_two, x_drop, x_BM, x_set0, x_setS, x_gcons, x_gnil, x_forL, x_forT, x_forR1, x_forR2, x_forE, x_ref, x_int1, x_oneI, x_oneB, x_noBI, x_twoI, false_or, x_sl, x_noP, x_part, true_and, List.append_nil, cxK]; try simp only [V.str.injEq, V.int.injEq, V.bl.injEq])
    refine x_seq.mpr ?_
    (try simp only [x_asg, x_name, x_sub, x_ret, x_next, x_ifS, x_ite, x_iteN, x_T, x_F, x_tT, x_tF, x_op, x_un, x_var0, x_varS, x_c, x_I0, x_I, x_rU, x_nil, x_cons, x_test, x_B, x_bl, x_call, x_CB, x_tup, x_lst, x_not, x_Eq, x_Ne, x_eqII, x_eqSS, x_eqBB,  x_and, x_or, x_andV, x_orV, x_notV, x_if, x_par, x_two, x_drop, x_BM, x_set0, x_setS, x_gcons, x_gnil, x_forL, x_forT, x_forR1, x_forR2, x_forE, x_ref, x_int1, x_oneI, x_oneB, x_noBI, x_twoI, false_or, x_sl, x_noP, x_part, true_and, List.append_nil, cxK]; try simp only [V.str.injEq, V.int.injEq, V.bl.injEq])
    unfold stepI at q
    dsimp only at q
    refine ⟨fun h => ?_, fun h => ?_⟩
    · rw [if_pos h] at q
      exact q
    · rw [if_neg h] at q hb
      exact ⟨_, _, _, rfl, isC_of ok h, hb, q⟩
def spCheck0 (K : PySem.W.Frag) : Sp := fun vs H Q _ => ∃ (a : Addr) (c : Ch), vs = [.ref a] ∧ ChAt K H a c ∧ okC c ∧ ∀ H', Same H H' → Q .non H'
theorem p_check_chain0 (T : Tx K mg "check_chain" s_check_chain) (m_enumerate : mg "enumerate" = none) (h_is_cast : Pr P w K mg base CX0 1 "is_cast" ["word", "width"] spIsCast) : Pr P w K mg base CX0 2 "check_chain" ["chain"] (spCheck0 K) := by
  refine mkP T sc_check_chain (fun _ _ _ _ _ _ us hl => match us, hl with | [_], _ => rfl) (fun vs H Q E h => ?_) (fun f cdv A outer s H vs Q E hG hr h => ?_)
  · obtain ⟨_, _, rfl, _⟩ := h
    rfl
  · obtain ⟨a, c, rfl, ⟨xs, hL, hS⟩, ok, q⟩ := h
    have nd := sc_check_chain.nd
    refine ⟨_, (pss_one (ps_for PassesOwn.never rfl (pi_enum (by rfl) m_enumerate (pa_cons (pv 0) pa_nil)) (pg_tup rfl (pgs_cons (pg_name (i := 1) nd rfl (.inl rfl)) (pgs_cons (pg_tup rfl (pgs_cons (pg_name (i := 2) nd rfl (.inl rfl)) (pgs_cons (pg_name (i := 3) nd rfl (.inl rfl)) pgs_nil))) pgs_nil))) (pss_one (ps_if (PW.pt (pw_and (pt_cmpR op_ne (pv 2) pe_str (nomark _)) (pw_and1 (pt_not (pt_val (pe_P h_is_cast hr hG (by rfl) (pa_cons (pv 2) (pa_cons (pv 3) pa_nil)))))))) (pss_one ps_never) pss_nil)))), ?_⟩
    show (tFor _ _ _) _ [some (V.ref a), none, none, none] H
    (try simp only [x_asg, x_name, x_sub, x_ret, x_next, x_ifS, x_ite, x_iteN, x_T, x_F, x_tT, x_tF, x_op, x_un, x_var0, x_varS, x_c, x_I0, x_I, x_rU, x_nil, x_cons, x_test, x_B, x_bl, x_call, x_CB, x_tup, x_lst, x_not, x_Eq, x_Ne, x_eqII, x_eqSS, x_eqBB,  x_and, x_or, x_andV, x_orV, x_notV, x_if, x_par, x_two, x_drop, x_BM, x_set0, x_setS, x_gcons, x_gnil, x_forL, x_forT, x_forR1, x_forR2, x_forE, x_ref, x_int1, x_oneI, x_oneB, x_noBI, x_twoI, false_or, x_sl, x_noP, x_part, true_and, List.append_nil, cxK]; try simp only [V.str.injEq, V.int.injEq, V.bl.injEq])
    refine ⟨a, xs, rfl, hL, ?_⟩
    refine lpE (xs := xs) (fun i σ H' => (∃ y1 y2 y3, σ = [some (.ref a), y1, y2, y3]) ∧ Same H H') ⟨⟨_, _, _, rfl⟩, Same.refl _⟩ (fun i σ H' _ h => h.2.seq hL) (fun i x σ H' T' hx h nT => ?_) (fun σ H' h => q H' h.2)
    obtain ⟨⟨y1, y2, y3, rfl⟩, hH⟩ := h
    obtain ⟨t, w', n, rfl, hc, hT⟩ := hS.get hx
    have okx := (ok _ (List.mem_of_getElem? hc)).1
    refine x_gtup (SqT.of upd_same) rfl ?_
    (try simp only [x_asg, x_name, x_sub, x_ret, x_next, x_ifS, x_ite, x_iteN, x_T, x_F, x_tT, x_tF, x_op, x_un, x_var0, x_varS, x_c, x_I0, x_I, x_rU, x_nil, x_cons, x_test, x_B, x_bl, x_call, x_CB, x_tup, x_lst, x_not, x_Eq, x_Ne, x_eqII, x_eqSS, x_eqBB,  x_and, x_or, x_andV, x_orV, x_notV, x_if, x_par, x_two, x_drop, x_BM, x_set0, x_setS, x_gcons, x_gnil, x_forL, x_forT, x_forR1, x_forR2, x_forE, x_ref, x_int1, x_oneI, x_oneB, x_noBI, x_twoI, false_or, x_sl, x_noP, x_part, true_and, List.append_nil, cxK]; try simp only [V.str.injEq, V.int.injEq, V.bl.injEq])
    refine x_gtup (Same.tup (hH.trans (same_new nT)) hT) rfl ?_
    (try simp only [x_asg, x_name, x_sub, x_ret, x_next, x_ifS, x_ite, x_iteN, x_T, x_F, x_tT, x_tF, x_op, x_un, x_var0, x_varS, x_c, x_I0, x_I, x_rU, x_nil, x_cons, x_test, x_B, x_bl, x_call, x_CB, x_tup, x_lst, x_not, x_Eq, x_Ne, x_eqII, x_eqSS, x_eqBB,  x_and, x_or, x_andV, x_orV, x_notV, x_if, x_par, x_two, x_drop, x_BM, x_set0, x_setS, x_gcons, x_gnil, x_forL, x_forT, x_forR1, x_forR2, x_forE, x_ref, x_int1, x_oneI, x_oneB, x_noBI, x_twoI, false_or, x_sl, x_noP, x_part, true_and, List.append_nil, cxK]; try simp only [V.str.injEq, V.int.injEq, V.bl.injEq])
    refine ⟨fun h => ?_, fun h => ⟨⟨_, _, _, rfl⟩, hH.trans (same_new nT)⟩⟩
    refine ⟨_, _, rfl, fun H2 s2 => ?_⟩
    have e : isC w' n = true := by
      unfold okS at okx
      rw [show decide (w' = "add") = false from decide_eq_false h, Bool.false_or] at okx
      exact okx
    (try simp only [x_asg, x_name, x_sub, x_ret, x_next, x_ifS, x_ite, x_iteN, x_T, x_F, x_tT, x_tF, x_op, x_un, x_var0, x_varS, x_c, x_I0, x_I, x_rU, x_nil, x_cons, x_test, x_B, x_bl, x_call, x_CB, x_tup, x_lst, x_not, x_Eq, x_Ne, x_eqII, x_eqSS, x_eqBB,  x_and, x_or, x_andV, x_orV, x_notV, x_if, x_par, x_two, x_drop, x_BM, x_set0, x_setS, x_gcons, x_gnil, x_forL, x_forT, x_forR1, x_forR2, x_forE, x_ref, x_int1, x_oneI, x_oneB, x_noBI, x_twoI, false_or, x_sl, x_noP, x_part, true_and, List.append_nil, cxK]; try simp only [V.str.injEq, V.int.injEq, V.bl.injEq])
    rw [e]
    (try simp only [x_asg, x_name, x_sub, x_ret, x_next, x_ifS, x_ite, x_iteN, x_T, x_F, x_tT, x_tF, x_op, x_un, x_var0, x_varS, x_c, x_I0, x_I, x_rU, x_nil, x_cons, x_test, x_B, x_bl, x_call, x_CB, x_tup, x_lst, x_not, x_Eq, x_Ne, x_eqII, x_eqSS, x_eqBB,  x_and, x_or, x_andV, x_orV, x_notV, x_if, x_par, x_two, x_drop, x_BM, x_set0, x_setS, x_gcons, x_gnil, x_forL, x_forT, x_forR1, x_forR2, x_forE, x_ref, x_int1, x_oneI, x_oneB, x_noBI, x_twoI, false_or, x_sl, x_noP, x_part, true_and, List.append_nil, cxK]; try simp only [V.str.injEq, V.int.injEq, V.bl.injEq])
    exact ⟨⟨_, _, _, rfl⟩, (hH.trans (same_new nT)).trans s2⟩
def spConv0 (K : PySem.W.Frag) : Sp := fun vs H Q _ => ∃ (y : Int) (a : Addr) (c : Ch), vs = [.int y, .ref a] ∧ ChAt K H a c ∧ okC c ∧ ∀ H', Same H H' → Q (.int (convI y c)) H'
theorem p_converted0 (T : Tx K mg "converted" s_converted) (h_check_chain : Pr P w K mg base CX0 2 "check_chain" ["chain"] (spCheck0 K)) (h_after_step : Pr P w K mg base CX0 3 "after_step" ["number", "step"] (spAfter K)) :
    Pr P w K mg base CX0 4 "converted" ["number", "chain"] (spConv0 K) := by
  refine mkP T sc_converted (fun _ _ _ _ _ _ us hl => match us, hl with | [_, _], _ => rfl) (fun vs H Q E h => ?_) (fun f cdv A outer s H vs Q E hG hr h => ?_)
  · obtain ⟨_, _, _, rfl, _⟩ := h
    rfl
  · obtain ⟨y, a, c, rfl, hC, ok, q⟩ := h
    have nd := sc_converted.nd
    refine ⟨_, (pss_cons (ps_expr (pe_P h_check_chain hr hG (by rfl) (pa_cons (pv 1) pa_nil))) (pss_cons (ps_for PassesOwn.never rfl (pi_list (pv 1)) (pg_name (i := 2) nd rfl (.inl rfl)) (pss_one (ps_set (i := 0) nd rfl (.inl rfl) (pe_P h_after_step hr hG (by rfl) (pa_cons (pv 0) (pa_cons (pv 2) pa_nil)))))) (pss_one (ps_ret (pv 0))))), ?_⟩
    show (tSeq _ _) _ [some (V.int y), some (V.ref a), none] H
    refine x_seq.mpr ?_
    (try simp only [x_asg, x_name, x_sub, x_ret, x_next, x_ifS, x_ite, x_iteN, x_T, x_F, x_tT, x_tF, x_op, x_un, x_var0, x_varS, x_c, x_I0, x_I, x_rU, x_nil, x_cons, x_test, x_B, x_bl, x_call, x_CB, x_tup, x_lst, x_not, x_Eq, x_Ne, x_eqII, x_eqSS, x_eqBB,  x_and, x_or, x_andV, x_orV, x_notV, x_if, x_par, x_two, x_drop, x_BM, x_set0, x_setS, x_gcons, x_gnil, x_forL, x_forT, x_forR1, x_forR2, x_forE, x_ref, x_int1, x_oneI, x_oneB, x_noBI, x_twoI, false_or, x_sl, x_noP, x_part, true_and, List.append_nil, cxK]; try simp only [V.str.injEq, V.int.injEq, V.bl.injEq])
    refine ⟨a, c, rfl, hC, ok, fun H1 s1 => ?_⟩
    obtain ⟨xs, hL, hS⟩ := hC.same s1
    refine x_seq.mpr ?_
    (try simp only [x_asg, x_name, x_sub, x_ret, x_next, x_ifS, x_ite, x_iteN, x_T, x_F, x_tT, x_tF, x_op, x_un, x_var0, x_varS, x_c, x_I0, x_I, x_rU, x_nil, x_cons, x_test, x_B, x_bl, x_call, x_CB, x_tup, x_lst, x_not, x_Eq, x_Ne, x_eqII, x_eqSS, x_eqBB,  x_and, x_or, x_andV, x_orV, x_notV, x_if, x_par, x_two, x_drop, x_BM, x_set0, x_setS, x_gcons, x_gnil, x_forL, x_forT, x_forR1, x_forR2, x_forE, x_ref, x_int1, x_oneI, x_oneB, x_noBI, x_twoI, false_or, x_sl, x_noP, x_part, true_and, List.append_nil, cxK]; try simp only [V.str.injEq, V.int.injEq, V.bl.injEq])
    refine ⟨⟨_, hL⟩, ?_⟩
    refine lpL (xs := xs) (fun i σ H' => (∃ y2, σ = [some (.int (convI y (c.take i))), some (.ref a), y2]) ∧ H' = H1) ⟨⟨_, rfl⟩, rfl⟩ (fun i σ H' _ h => by obtain ⟨_, rfl⟩ := h; exact hL) (fun i x σ H' hx h => ?_) (fun σ H' h => ?_)
    · obtain ⟨⟨y2, rfl⟩, rfl⟩ := h
      obtain ⟨t, w', n, rfl, hc, hT⟩ := hS.get hx
      have okx := ok _ (List.mem_of_getElem? hc)
      (try simp only [x_asg, x_name, x_sub, x_ret, x_next, x_ifS, x_ite, x_iteN, x_T, x_F, x_tT, x_tF, x_op, x_un, x_var0, x_varS, x_c, x_I0, x_I, x_rU, x_nil, x_cons, x_test, x_B, x_bl, x_call, x_CB, x_tup, x_lst, x_not, x_Eq, x_Ne, x_eqII, x_eqSS, x_eqBB,  x_and, x_or, x_andV, x_orV, x_notV, x_if, x_par, x_two, x_drop, x_BM, x_set0, x_setS, x_gcons, x_gnil, x_forL, x_forT, x_forR1, x_forR2, x_forE, x_ref, x_int1, x_oneI, x_oneB, x_noBI, x_twoI, false_or, x_sl, x_noP, x_part, true_and, List.append_nil, cxK]; try simp only [V.str.injEq, V.int.injEq, V.bl.injEq])
      refine ⟨_, _, _, _, rfl, hT, okx.1, okx.2, ?_⟩
      (try simp only [x_asg, x_name, x_sub, x_ret, x_next, x_ifS, x_ite, x_iteN, x_T, x_F, x_tT, x_tF, x_op, x_un, x_var0, x_varS, x_c, x_I0, x_I, x_rU, x_nil, x_cons, x_test, x_B, x_bl, x_call, x_CB, x_tup, x_lst, x_not, x_Eq, x_Ne, x_eqII, x_eqSS, x_eqBB,  x_and, x_or, x_andV, x_orV, x_notV, x_if, x_par, x_two, x_drop, x_BM, x_set0, x_setS, x_gcons, x_gnil, x_forL, x_forT, x_forR1, x_forR2, x_forE, x_ref, x_int1, x_oneI, x_oneB, x_noBI, x_twoI, false_or, x_sl, x_noP, x_part, true_and, List.append_nil, cxK]; try simp only [V.str.injEq, V.int.injEq, V.bl.injEq])
      rw [convI_take hc]
      exact ⟨⟨_, rfl⟩, trivial⟩
    · obtain ⟨⟨y2, rfl⟩, rfl⟩ := h
      (try simp only [x_asg, x_name, x_sub, x_ret, x_next, x_ifS, x_ite, x_iteN, x_T, x_F, x_tT, x_tF, x_op, x_un, x_var0, x_varS, x_c, x_I0, x_I, x_rU, x_nil, x_cons, x_test, x_B, x_bl, x_call, x_CB, x_tup, x_lst, x_not, x_Eq, x_Ne, x_eqII, x_eqSS, x_eqBB,  x_and, x_or, x_andV, x_orV, x_notV, x_if, x_par, x_two, x_drop, x_BM, x_set0, x_setS, x_gcons, x_gnil, x_forL, x_forT, x_forR1, x_forR2, x_forE, x_ref, x_int1, x_oneI, x_oneB, x_noBI, x_twoI, false_or, x_sl, x_noP, x_part, true_and, List.append_nil, cxK]; try simp only [V.str.injEq, V.int.injEq, V.bl.injEq])
      rw [hS.len, List.take_length]
      exact q _ s1
def spFits0 : Sp := fun vs H Q _ => ∃ (y : Int) (x : Str) (n : Int), vs = [.int y, .str x, .int n] ∧ isC x n = true ∧ n ≤ big ∧ ∀ H', Same H H' → Q (.bl (decide (castI y x n = y))) H'
theorem p_fits0 (T : Tx K mg "fits" s_fits) (h_is_cast : Pr P w K mg base CX0 1 "is_cast" ["word", "width"] spIsCast) (h_cast : Pr P w K mg base CX0 2 "cast" ["number", "word", "width"] spCast) :
    Pr P w K mg base CX0 3 "fits" ["number", "word", "width"] spFits0 := by
  refine mkP T sc_fits (fun _ _ _ _ _ _ us hl => match us, hl with | [_, _, _], _ => rfl) (fun vs H Q E h => ?_) (fun f cdv A outer s H vs Q E hG hr h => ?_)
  · obtain ⟨_, _, _, rfl, _⟩ := h
    rfl
  · obtain ⟨y, x, n, rfl, ok, n1, q⟩ := h
    have nd := sc_fits.nd
    refine ⟨_, (pss_cons (ps_if (pt_not (pt_val (pe_P h_is_cast hr hG (by rfl) (pa_cons (pv 1) (pa_cons (pv 2) pa_nil))))) (pss_one ps_never) pss_nil) (pss_one (ps_ret (pe_cmpR op_eq (pe_P h_cast hr hG (by rfl) (pa_cons (pv 0) (pa_cons (pv 1) (pa_cons (pv 2) pa_nil)))) (pv 0) (nomark _))))), ?_⟩
    show (tSeq _ _) _ [some (V.int y), some (V.str x), some (V.int n)] H
    refine x_seq.mpr ?_
    (try simp only [x_asg, x_name, x_sub, x_ret, x_next, x_ifS, x_ite, x_iteN, x_T, x_F, x_tT, x_tF, x_op, x_un, x_var0, x_varS, x_c, x_I0, x_I, x_rU, x_nil, x_cons, x_test, x_B, x_bl, x_call, x_CB, x_tup, x_lst, x_not, x_Eq, x_Ne, x_eqII, x_eqSS, x_eqBB,  x_and, x_or, x_andV, x_orV, x_notV, x_if, x_par, x_two, x_drop, x_BM, x_set0, x_setS, x_gcons, x_gnil, x_forL, x_forT, x_forR1, x_forR2, x_forE, x_ref, x_int1, x_oneI, x_oneB, x_noBI, x_twoI, false_or, x_sl, x_noP, x_part, true_and, List.append_nil, cxK]; try simp only [V.str.injEq, V.int.injEq, V.bl.injEq])
    refine ⟨_, _, rfl, fun H1 s1 => ?_⟩
    rw [ok]
    (try simp only [x_asg, x_name, x_sub, x_ret, x_next, x_ifS, x_ite, x_iteN, x_T, x_F, x_tT, x_tF, x_op, x_un, x_var0, x_varS, x_c, x_I0, x_I, x_rU, x_nil, x_cons, x_test, x_B, x_bl, x_call, x_CB, x_tup, x_lst, x_not, x_Eq, x_Ne, x_eqII, x_eqSS, x_eqBB,  x_and, x_or, x_andV, x_orV, x_notV, x_if, x_par, x_two, x_drop, x_BM, x_set0, x_setS, x_gcons, x_gnil, x_forL, x_forT, x_forR1, x_forR2, x_forE, x_ref, x_int1, x_oneI, x_oneB, x_noBI, x_twoI, false_or, x_sl, x_noP, x_part, true_and, List.append_nil, cxK]; try simp only [V.str.injEq, V.int.injEq, V.bl.injEq])
    refine ⟨_, _, _, rfl, ?_, n1, ?_⟩
    · unfold isC at ok
      simp at ok
      exact ok.2
    · (try simp only [x_asg, x_name, x_sub, x_ret, x_next, x_ifS, x_ite, x_iteN, x_T, x_F, x_tT, x_tF, x_op, x_un, x_var0, x_varS, x_c, x_I0, x_I, x_rU, x_nil, x_cons, x_test, x_B, x_bl, x_call, x_CB, x_tup, x_lst, x_not, x_Eq, x_Ne, x_eqII, x_eqSS, x_eqBB,  x_and, x_or, x_andV, x_orV, x_notV, x_if, x_par, x_two, x_drop, x_BM, x_set0, x_setS, x_gcons, x_gnil, x_forL, x_forT, x_forR1, x_forR2, x_forE, x_ref, x_int1, x_oneI, x_oneB, x_noBI, x_twoI, false_or, x_sl, x_noP, x_part, true_and, List.append_nil, cxK]; try simp only [V.str.injEq, V.int.injEq, V.bl.injEq])
      exact q H1 s1
end

abbrev s_law_two : Stmt := topS 14
theorem sc_law_two : FnScope ["many", "found", "turn"] ["many"] (defScope s_law_two) := ⟨rfl, rfl, rfl, by decide +kernel, rfl, by decide +kernel, by decide +kernel⟩
abbrev s_law_any : Stmt := topS 15
theorem sc_law_any : FnScope ["rng", "near", "some"] ["rng"] (defScope s_law_any) := ⟨rfl, rfl, rfl, by decide +kernel, rfl, by decide +kernel, by decide +kernel⟩
section
variable {P : Program} {w : World} {K : PySem.W.Frag} {mg : Str → Option Value} {base : Heap}
def spTwo : Sp := fun vs H Q _ => ∃ m : Int, vs = [.int m] ∧ 0 ≤ m ∧ m ≤ 5000 ∧ Q (.int (2 ^ m.toNat)) H
theorem pow2_abs {n : Nat} {k : Nat} (h : n < k) : ((2 : Int) ^ n).natAbs < 2 ^ k := by
  rw [Int.natAbs_pow]
  exact Nat.pow_lt_pow_right (by decide) h
theorem p_two (T : Tx K mg "_law_two" s_law_two) (m_range : mg "range" = none) : Pr P w K mg base CX0 1 "_law_two" ["many"] spTwo := by
  refine mkP T sc_law_two (fun _ _ _ _ _ _ us hl => match us, hl with | [_], _ => rfl) (fun vs H Q E h => ?_) (fun f cdv A outer s H vs Q E hG hr h => ?_)
  · obtain ⟨_, rfl, _⟩ := h
    rfl
  · obtain ⟨m, rfl, m0, m1, q⟩ := h
    have nd := sc_law_two.nd
    refine ⟨_, (pss_cons (ps_set (i := 1) nd rfl (.inl rfl) pe_int) (pss_cons (ps_for PassesOwn.never rfl (pi_range1 rfl m_range (pa_cons (pv 0) pa_nil)) (pg_name (i := 2) nd rfl (.inl rfl)) (pss_one (ps_set (i := 1) nd rfl (.inl rfl) (pe_op op_mulW (pv 1) pe_int)))) (pss_one (ps_ret (pv 1))))), ?_⟩
    show (tSeq _ _) _ [some (V.int m), none, none] H
    refine x_seq.mpr ?_
    (try simp only [x_asg, x_name, x_sub, x_ret, x_next, x_ifS, x_ite, x_iteN, x_T, x_F, x_tT, x_tF, x_op, x_un, x_var0, x_varS, x_c, x_I0, x_I, x_rU, x_nil, x_cons, x_test, x_B, x_bl, x_call, x_CB, x_tup, x_lst, x_not, x_Eq, x_Ne, x_eqII, x_eqSS, x_eqBB,  x_and, x_or, x_andV, x_orV, x_notV, x_if, x_par, x_two, x_drop, x_BM, x_set0, x_setS, x_gcons, x_gnil, x_forL, x_forT, x_forR1, x_forR2, x_forE, x_ref, x_int1, x_oneI, x_oneB, x_noBI, x_twoI, false_or, x_sl, x_noP, x_part, true_and, List.append_nil, cxK]; try simp only [V.str.injEq, V.int.injEq, V.bl.injEq])
    refine x_seq.mpr ?_
    (try simp only [x_asg, x_name, x_sub, x_ret, x_next, x_ifS, x_ite, x_iteN, x_T, x_F, x_tT, x_tF, x_op, x_un, x_var0, x_varS, x_c, x_I0, x_I, x_rU, x_nil, x_cons, x_test, x_B, x_bl, x_call, x_CB, x_tup, x_lst, x_not, x_Eq, x_Ne, x_eqII, x_eqSS, x_eqBB,  x_and, x_or, x_andV, x_orV, x_notV, x_if, x_par, x_two, x_drop, x_BM, x_set0, x_setS, x_gcons, x_gnil, x_forL, x_forT, x_forR1, x_forR2, x_forE, x_ref, x_int1, x_oneI, x_oneB, x_noBI, x_twoI, false_or, x_sl, x_noP, x_part, true_and, List.append_nil, cxK]; try simp only [V.str.injEq, V.int.injEq, V.bl.injEq])
    refine ⟨by omega, by omega, ?_⟩
    refine lpR (fun i σ H' => (∃ y, σ = [some (.int m), some (.int (2 ^ i)), y]) ∧ H' = H) ⟨⟨_, rfl⟩, rfl⟩ (fun i σ H' hi h => ?_) (fun σ H' h => ?_)
    · obtain ⟨⟨y, rfl⟩, rfl⟩ := h
      (try simp only [x_asg, x_name, x_sub, x_ret, x_next, x_ifS, x_ite, x_iteN, x_T, x_F, x_tT, x_tF, x_op, x_un, x_var0, x_varS, x_c, x_I0, x_I, x_rU, x_nil, x_cons, x_test, x_B, x_bl, x_call, x_CB, x_tup, x_lst, x_not, x_Eq, x_Ne, x_eqII, x_eqSS, x_eqBB,  x_and, x_or, x_andV, x_orV, x_notV, x_if, x_par, x_two, x_drop, x_BM, x_set0, x_setS, x_gcons, x_gnil, x_forL, x_forT, x_forR1, x_forR2, x_forE, x_ref, x_int1, x_oneI, x_oneB, x_noBI, x_twoI, false_or, x_sl, x_noP, x_part, true_and, List.append_nil, cxK]; try simp only [V.str.injEq, V.int.injEq, V.bl.injEq])
      refine ⟨wide_mul (a := 5001) (b := 8) (pow2_abs (by omega)) (by decide) (by omega) (by omega) (by omega), ?_⟩
      rw [← Int.pow_succ]
      exact ⟨⟨_, rfl⟩, trivial⟩
    · obtain ⟨⟨y, rfl⟩, rfl⟩ := h
      (try simp only [x_asg, x_name, x_sub, x_ret, x_next, x_ifS, x_ite, x_iteN, x_T, x_F, x_tT, x_tF, x_op, x_un, x_var0, x_varS, x_c, x_I0, x_I, x_rU, x_nil, x_cons, x_test, x_B, x_bl, x_call, x_CB, x_tup, x_lst, x_not, x_Eq, x_Ne, x_eqII, x_eqSS, x_eqBB,  x_and, x_or, x_andV, x_orV, x_notV, x_if, x_par, x_two, x_drop, x_BM, x_set0, x_setS, x_gcons, x_gnil, x_forL, x_forT, x_forR1, x_forR2, x_forE, x_ref, x_int1, x_oneI, x_oneB, x_noBI, x_twoI, false_or, x_sl, x_noP, x_part, true_and, List.append_nil, cxK]; try simp only [V.str.injEq, V.int.injEq, V.bl.injEq])
      exact q
def spAny : Sp := fun vs H Q _ => ∃ (r : Addr) (n : Nat), vs = [.ref r] ∧ RngAt H r n ∧ n < 90000000 ∧ ∀ v H', -(10 ^ 30) ≤ v → v ≤ 10 ^ 30 → RngAt H' r (n + 7) → Oth r H H' → Q (.int v) H'
theorem two_le {m n : Nat} (h : m ≤ n) : (2 : Int) ^ m ≤ 2 ^ n := by
  have h : 2 ^ m ≤ 2 ^ n := Nat.pow_le_pow_right (by decide) h
  exact_mod_cast h
theorem p_any (T : Tx K mg "_law_any" s_law_any) (m_min : mg "min" = none) (h__law_two : Pr P w K mg base CX0 1 "_law_two" ["many"] spTwo) (h__law_draw : Pr P w K mg base CX0 1 "_law_draw" ["rng", "limit"] spDraw) :
    Pr P w K mg base CX0 2 "_law_any" ["rng"] spAny := by
  refine mkP T sc_law_any (fun _ _ _ _ _ _ us hl => match us, hl with | [_], _ => rfl) (fun vs H Q E h => ?_) (fun f cdv A outer s H vs Q E hG hr h => ?_)
  · obtain ⟨_, _, rfl, _⟩ := h
    rfl
  · obtain ⟨r, n, rfl, R, hn, q⟩ := h
    have nd := sc_law_any.nd
    refine ⟨_, (pss_cons (ps_set (i := 1) nd rfl (.inl rfl) (pe_op op_sub (pe_op op_add (pe_P h__law_two hr hG (by rfl) (pa_cons (pe_P h__law_draw hr hG (by rfl) (pa_cons (pv 0) (pa_cons pe_int pa_nil))) pa_nil)) (pe_P h__law_draw hr hG (by rfl) (pa_cons (pv 0) (pa_cons pe_int pa_nil)))) pe_int)) (pss_cons (ps_set (i := 2) nd rfl (.inl rfl) (pe_lst (pa_cons (pe_P h__law_draw hr hG (by rfl) (pa_cons (pv 0) (pa_cons pe_int pa_nil))) (pa_cons (pv 1) (pa_cons (pe_op op_mulW (pv 1) (pe_op op_add pe_int (pe_P h__law_draw hr hG (by rfl) (pa_cons (pv 0) (pa_cons pe_int pa_nil))))) pa_nil))))) (pss_cons (ps_expr (pe_bm PySem.F.plainAttrs_list PySem.F.slot_list_append PySem.F.type_list_append mt_append (pv 2) (pa_cons (pe_P h__law_draw hr hG (by rfl) (pa_cons (pv 0) (pa_cons (pe_op op_add (pe_op op_powX pe_int pe_int) pe_int) pa_nil))) pa_nil))) (pss_one (ps_ret (pe_op op_mulW (pe_callB (call_min2 rfl) (by rfl) m_min (by decide +kernel) (pa_cons (pe_op op_powX pe_int pe_int) (pa_cons (pe_ix ix_list (pv 2) (pe_P h__law_draw hr hG (by rfl) (pa_cons (pv 0) (pa_cons pe_int pa_nil))) (fun _ _ => rfl)) pa_nil))) (pe_ix ix_list (pe_lst (pa_cons pe_int (pa_cons (pe_un un_neg pe_int) pa_nil))) (pe_P h__law_draw hr hG (by rfl) (pa_cons (pv 0) (pa_cons pe_int pa_nil))) (fun _ _ => rfl)))))))), ?_⟩
    show (tSeq _ _) _ [some (V.ref r), none, none] H
    refine x_seq.mpr ?_
    (try simp only [x_asg, x_name, x_sub, x_ret, x_next, x_ifS, x_ite, x_iteN, x_T, x_F, x_tT, x_tF, x_op, x_un, x_var0, x_varS, x_c, x_I0, x_I, x_rU, x_nil, x_cons, x_test, x_B, x_bl, x_call, x_CB, x_tup, x_lst, x_not, x_Eq, x_Ne, x_eqII, x_eqSS, x_eqBB,  x_and, x_or, x_andV, x_orV, x_notV, x_if, x_par, x_two, x_drop, x_BM, x_set0, x_setS, x_gcons, x_gnil, x_forL, x_forT, x_forR1, x_forR2, x_forE, x_ref, x_int1, x_oneI, x_oneB, x_noBI, x_twoI, false_or, x_sl, x_noP, x_part, true_and, List.append_nil, cxK]; try simp only [V.str.injEq, V.int.injEq, V.bl.injEq])
    refine ⟨r, 70, n, rfl, R, by omega, by omega, by decide, fun a H1 a0 a1 R1 o1 => ?_⟩
    refine ⟨a, rfl, a0, by omega, ?_⟩
    (try simp only [x_asg, x_name, x_sub, x_ret, x_next, x_ifS, x_ite, x_iteN, x_T, x_F, x_tT, x_tF, x_op, x_un, x_var0, x_varS, x_c, x_I0, x_I, x_rU, x_nil, x_cons, x_test, x_B, x_bl, x_call, x_CB, x_tup, x_lst, x_not, x_Eq, x_Ne, x_eqII, x_eqSS, x_eqBB,  x_and, x_or, x_andV, x_orV, x_notV, x_if, x_par, x_two, x_drop, x_BM, x_set0, x_setS, x_gcons, x_gnil, x_forL, x_forT, x_forR1, x_forR2, x_forE, x_ref, x_int1, x_oneI, x_oneB, x_noBI, x_twoI, false_or, x_sl, x_noP, x_part, true_and, List.append_nil, cxK]; try simp only [V.str.injEq, V.int.injEq, V.bl.injEq])
    refine ⟨r, 5, _, rfl, R1, by omega, by omega, by decide, fun b H2 b0 b1 R2 o2 => ?_⟩
    (try simp only [x_asg, x_name, x_sub, x_ret, x_next, x_ifS, x_ite, x_iteN, x_T, x_F, x_tT, x_tF, x_op, x_un, x_var0, x_varS, x_c, x_I0, x_I, x_rU, x_nil, x_cons, x_test, x_B, x_bl, x_call, x_CB, x_tup, x_lst, x_not, x_Eq, x_Ne, x_eqII, x_eqSS, x_eqBB,  x_and, x_or, x_andV, x_orV, x_notV, x_if, x_par, x_two, x_drop, x_BM, x_set0, x_setS, x_gcons, x_gnil, x_forL, x_forT, x_forR1, x_forR2, x_forE, x_ref, x_int1, x_oneI, x_oneB, x_noBI, x_twoI, false_or, x_sl, x_noP, x_part, true_and, List.append_nil, cxK]; try simp only [V.str.injEq, V.int.injEq, V.bl.injEq])
    refine x_seq.mpr ?_
    (try simp only [x_asg, x_name, x_sub, x_ret, x_next, x_ifS, x_ite, x_iteN, x_T, x_F, x_tT, x_tF, x_op, x_un, x_var0, x_varS, x_c, x_I0, x_I, x_rU, x_nil, x_cons, x_test, x_B, x_bl, x_call, x_CB, x_tup, x_lst, x_not, x_Eq, x_Ne, x_eqII, x_eqSS, x_eqBB,  x_and, x_or, x_andV, x_orV, x_notV, x_if, x_par, x_two, x_drop, x_BM, x_set0, x_setS, x_gcons, x_gnil, x_forL, x_forT, x_forR1, x_forR2, x_forE, x_ref, x_int1, x_oneI, x_oneB, x_noBI, x_twoI, false_or, x_sl, x_noP, x_part, true_and, List.append_nil, cxK]; try simp only [V.str.injEq, V.int.injEq, V.bl.injEq])
    refine ⟨r, 20, _, rfl, R2, by omega, by omega, by decide, fun c H3 c0 c1 R3 o3 => ?_⟩
    (try simp only [x_asg, x_name, x_sub, x_ret, x_next, x_ifS, x_ite, x_iteN, x_T, x_F, x_tT, x_tF, x_op, x_un, x_var0, x_varS, x_c, x_I0, x_I, x_rU, x_nil, x_cons, x_test, x_B, x_bl, x_call, x_CB, x_tup, x_lst, x_not, x_Eq, x_Ne, x_eqII, x_eqSS, x_eqBB,  x_and, x_or, x_andV, x_orV, x_notV, x_if, x_par, x_two, x_drop, x_BM, x_set0, x_setS, x_gcons, x_gnil, x_forL, x_forT, x_forR1, x_forR2, x_forE, x_ref, x_int1, x_oneI, x_oneB, x_noBI, x_twoI, false_or, x_sl, x_noP, x_part, true_and, List.append_nil, cxK]; try simp only [V.str.injEq, V.int.injEq, V.bl.injEq])
    refine ⟨r, 9, _, rfl, R3, by omega, by omega, by decide, fun d H4 d0 d1 R4 o4 => ?_⟩
    have ub := two_le (show a.toNat ≤ 69 by omega)
    have lb := two_pos a.toNat
    generalize hnear : (2 : Int) ^ a.toNat + b - 2 = near
    have ub' : (2 : Int) ^ 69 = 590295810358705651712 := by decide
    have near0 : -1 ≤ near := by omega
    have near1 : near ≤ 590295810358705651714 := by omega
    (try simp only [x_asg, x_name, x_sub, x_ret, x_next, x_ifS, x_ite, x_iteN, x_T, x_F, x_tT, x_tF, x_op, x_un, x_var0, x_varS, x_c, x_I0, x_I, x_rU, x_nil, x_cons, x_test, x_B, x_bl, x_call, x_CB, x_tup, x_lst, x_not, x_Eq, x_Ne, x_eqII, x_eqSS, x_eqBB,  x_and, x_or, x_andV, x_orV, x_notV, x_if, x_par, x_two, x_drop, x_BM, x_set0, x_setS, x_gcons, x_gnil, x_forL, x_forT, x_forR1, x_forR2, x_forE, x_ref, x_int1, x_oneI, x_oneB, x_noBI, x_twoI, false_or, x_sl, x_noP, x_part, true_and, List.append_nil, cxK]; try simp only [V.str.injEq, V.int.injEq, V.bl.injEq])
    refine ⟨wide_mul (a := 100) (b := 8) (by omega) (by omega) (by omega) (by omega) (by omega), by show 3 ≤ sizeLine; decide, fun p np => ?_⟩
    have m0 : -10 ≤ near * (1 + d) := by
      have h : (-1) * (1 + d) ≤ near * (1 + d) := Int.mul_le_mul_of_nonneg_right near0 (by omega)
      omega
    have m1 : near * (1 + d) ≤ 590295810358705651714 * 9 := Int.mul_le_mul near1 (by omega) (by omega) (by omega)
    generalize near * (1 + d) = far at m0 m1
    refine x_seq.mpr ?_
    (try simp only [x_asg, x_name, x_sub, x_ret, x_next, x_ifS, x_ite, x_iteN, x_T, x_F, x_tT, x_tF, x_op, x_un, x_var0, x_varS, x_c, x_I0, x_I, x_rU, x_nil, x_cons, x_test, x_B, x_bl, x_call, x_CB, x_tup, x_lst, x_not, x_Eq, x_Ne, x_eqII, x_eqSS, x_eqBB,  x_and, x_or, x_andV, x_orV, x_notV, x_if, x_par, x_two, x_drop, x_BM, x_set0, x_setS, x_gcons, x_gnil, x_forL, x_forT, x_forR1, x_forR2, x_forE, x_ref, x_int1, x_oneI, x_oneB, x_noBI, x_twoI, false_or, x_sl, x_noP, x_part, true_and, List.append_nil, cxK]; try simp only [V.str.injEq, V.int.injEq, V.bl.injEq])
    refine ⟨x_tyL (SqL.of upd_same), ?_⟩
    refine ⟨⟨by decide, by decide, pow_ok (by decide) (by decide)⟩, ?_⟩
    refine ⟨r, _, _, rfl, R4.new np, by omega, by decide, by decide, fun e H5 e0 e1 R5 o5 => ?_⟩
    have pr := R4.ne np
    have hp5 : H5 p = some (.lst [.int c, .int near, .int far]) := o5 p _ pr upd_same
    refine x_app hp5 (by show 3 < sizeLine; decide) ?_
    (try simp only [x_asg, x_name, x_sub, x_ret, x_next, x_ifS, x_ite, x_iteN, x_T, x_F, x_tT, x_tF, x_op, x_un, x_var0, x_varS, x_c, x_I0, x_I, x_rU, x_nil, x_cons, x_test, x_B, x_bl, x_call, x_CB, x_tup, x_lst, x_not, x_Eq, x_Ne, x_eqII, x_eqSS, x_eqBB,  x_and, x_or, x_andV, x_orV, x_notV, x_if, x_par, x_two, x_drop, x_BM, x_set0, x_setS, x_gcons, x_gnil, x_forL, x_forT, x_forR1, x_forR2, x_forE, x_ref, x_int1, x_oneI, x_oneB, x_noBI, x_twoI, false_or, x_sl, x_noP, x_part, true_and, List.append_nil, cxK]; try simp only [V.str.injEq, V.int.injEq, V.bl.injEq])
    refine ⟨⟨by decide, by decide, pow_ok (by decide) (by decide)⟩, ?_⟩
    have R6 := R5.mut (o := .lst ([.int c, .int near, .int far] ++ [.int e])) pr
    refine ⟨r, 4, _, rfl, R6, by omega, by omega, by decide, fun i H7 i0 i1 R7 o7 => ?_⟩
    have hp7 := o7 p _ pr upd_same
    obtain ⟨v, hv, hm⟩ := atI_in (xs := [.int c, .int near, .int far, .int e]) i0 i1
    refine x_ixL (SqL.of hp7) hv ?_
    obtain ⟨z, rfl, z0, z1⟩ : ∃ z : Int, v = .int z ∧ -10 ≤ z ∧ z ≤ 10 ^ 30 := by
      simp only [List.mem_cons, List.not_mem_nil, or_false] at hm
      have t30 : (10 : Int) ^ 30 = 1000000000000000000000000000000 := by decide
      have e1' : e ≤ 10 ^ 30 := by
        have : e < 10 ^ 30 + 1 := e1
        omega
      rcases hm with rfl | rfl | rfl | rfl
      · exact ⟨_, rfl, by omega, by omega⟩
      · exact ⟨_, rfl, by omega, by omega⟩
      · exact ⟨_, rfl, by omega, by omega⟩
      · exact ⟨_, rfl, by omega, e1'⟩
    (try simp only [x_asg, x_name, x_sub, x_ret, x_next, x_ifS, x_ite, x_iteN, x_T, x_F, x_tT, x_tF, x_op, x_un, x_var0, x_varS, x_c, x_I0, x_I, x_rU, x_nil, x_cons, x_test, x_B, x_bl, x_call, x_CB, x_tup, x_lst, x_not, x_Eq, x_Ne, x_eqII, x_eqSS, x_eqBB,  x_and, x_or, x_andV, x_orV, x_notV, x_if, x_par, x_two, x_drop, x_BM, x_set0, x_setS, x_gcons, x_gnil, x_forL, x_forT, x_forR1, x_forR2, x_forE, x_ref, x_int1, x_oneI, x_oneB, x_noBI, x_twoI, false_or, x_sl, x_noP, x_part, true_and, List.append_nil, cxK]; try simp only [V.str.injEq, V.int.injEq, V.bl.injEq])
    refine ⟨by show 2 ≤ sizeLine; decide, fun t nt => ?_⟩
    refine ⟨r, 2, _, rfl, R7.new nt, by omega, by omega, by decide, fun g H8 g0 g1 R8 o8 => ?_⟩
    have ht8 := o8 t _ (R7.ne nt) upd_same
    obtain ⟨u, hu, hum⟩ := atI_in (xs := [.int 1, .int (-1)]) g0 g1
    refine x_ixL (SqL.of ht8) hu ?_
    have t30 : (10 : Int) ^ (30 : Int).toNat = 1000000000000000000000000000000 := by decide
    have t30' : (10 : Int) ^ 30 = 1000000000000000000000000000000 := by decide
    have oA := ((o1.trans o2).trans o3).trans o4
    have pn : H p = none := oA.free R4 np
    have oth : Oth r H H8 := (((oA.trans ((Oth.new np).trans o5)).mut (o := .lst ([.int c, .int near, .int far] ++ [.int e])) pn).trans o7).trans ((Oth.new nt).trans o8)
    have fin : ∀ s : Int, s = 1 ∨ s = -1 → CMulW (if z < 10 ^ (30 : Int).toNat then z else 10 ^ (30 : Int).toNat) s ∧ Q (.int ((if z < 10 ^ (30 : Int).toNat then z else 10 ^ (30 : Int).toNat) * s)) H8 := fun s hs => by
      have hz : ∃ y, (if z < 10 ^ (30 : Int).toNat then z else 10 ^ (30 : Int).toNat) = y ∧ -10 ≤ y ∧ y ≤ 10 ^ 30 := by
        refine ⟨_, rfl, ?_, ?_⟩ <;> split <;> omega
      obtain ⟨y, hy, y0, y1⟩ := hz
      rw [hy]
      refine ⟨wide_mul (a := 200) (b := 8) (by omega) (by omega) (by omega) (by omega) (by omega), ?_⟩
      rcases hs with rfl | rfl
      · exact q _ _ (by omega) (by omega) R8 oth
      · exact q _ _ (by omega) (by omega) R8 oth
    simp only [List.mem_cons, List.not_mem_nil, or_false] at hum
    rcases hum with rfl | rfl
    · (try simp only [x_asg, x_name, x_sub, x_ret, x_next, x_ifS, x_ite, x_iteN, x_T, x_F, x_tT, x_tF, x_op, x_un, x_var0, x_varS, x_c, x_I0, x_I, x_rU, x_nil, x_cons, x_test, x_B, x_bl, x_call, x_CB, x_tup, x_lst, x_not, x_Eq, x_Ne, x_eqII, x_eqSS, x_eqBB,  x_and, x_or, x_andV, x_orV, x_notV, x_if, x_par, x_two, x_drop, x_BM, x_set0, x_setS, x_gcons, x_gnil, x_forL, x_forT, x_forR1, x_forR2, x_forE, x_ref, x_int1, x_oneI, x_oneB, x_noBI, x_twoI, false_or, x_sl, x_noP, x_part, true_and, List.append_nil, cxK]; try simp only [V.str.injEq, V.int.injEq, V.bl.injEq])
      exact fin 1 (.inl rfl)
    · (try simp only [x_asg, x_name, x_sub, x_ret, x_next, x_ifS, x_ite, x_iteN, x_T, x_F, x_tT, x_tF, x_op, x_un, x_var0, x_varS, x_c, x_I0, x_I, x_rU, x_nil, x_cons, x_test, x_B, x_bl, x_call, x_CB, x_tup, x_lst, x_not, x_Eq, x_Ne, x_eqII, x_eqSS, x_eqBB,  x_and, x_or, x_andV, x_orV, x_notV, x_if, x_par, x_two, x_drop, x_BM, x_set0, x_setS, x_gcons, x_gnil, x_forL, x_forT, x_forR1, x_forR2, x_forE, x_ref, x_int1, x_oneI, x_oneB, x_noBI, x_twoI, false_or, x_sl, x_noP, x_part, true_and, List.append_nil, cxK]; try simp only [V.str.injEq, V.int.injEq, V.bl.injEq])
      exact fin (-1) (.inr rfl)
end

abbrev s_law_digits : Stmt := topS 16
theorem sc_law_digits : FnScope ["number", "many", "found", "turn"] ["number", "many"] (defScope s_law_digits) := ⟨rfl, rfl, rfl, by decide +kernel, rfl, by decide +kernel, by decide +kernel⟩
abbrev s_law_value : Stmt := topS 17
theorem sc_law_value : FnScope ["digits", "has_sign", "found", "weight", "place", "digit"] ["digits", "has_sign"] (defScope s_law_value) := ⟨rfl, rfl, rfl, by decide +kernel, rfl, by decide +kernel, by decide +kernel⟩
section
variable {P : Program} {w : World} {K : PySem.W.Frag} {mg : Str → Option Value} {base : Heap}
def spDigits : Sp := fun vs H Q _ => ∃ (x m : Int), vs = [.int x, .int m] ∧ 0 ≤ m ∧ m ≤ 1000 ∧ ∀ p H', H p = none → H' p = some (.lst ((bitsI x m.toNat).map V.int)) → Same H H' → Q (.ref p) H'
theorem p_digits (T : Tx K mg "_law_digits" s_law_digits) (m_range : mg "range" = none) : Pr P w K mg base CX0 1 "_law_digits" ["number", "many"] spDigits := by
  refine mkP T sc_law_digits (fun _ _ _ _ _ _ us hl => match us, hl with | [_, _], _ => rfl) (fun vs H Q E h => ?_) (fun f cdv A outer s H vs Q E hG hr h => ?_)
  · obtain ⟨_, _, rfl, _⟩ := h
    rfl
  · obtain ⟨x, m, rfl, m0, m1, q⟩ := h
    have nd := sc_law_digits.nd
    refine ⟨_, (pss_cons (ps_set (i := 2) nd rfl (.inl rfl) (pe_lst pa_nil)) (pss_cons (ps_for PassesOwn.never rfl (pi_range1 rfl m_range (pa_cons (pv 1) pa_nil)) (pg_name (i := 3) nd rfl (.inl rfl)) (pss_cons (ps_expr (pe_bm PySem.F.plainAttrs_list PySem.F.slot_list_append PySem.F.type_list_append mt_append (pv 2) (pa_cons (pe_op op_mod (pv 0) pe_int) pa_nil))) (pss_one (ps_set (i := 0) nd rfl (.inl rfl) (pe_op op_fdivW (pv 0) pe_int))))) (pss_one (ps_ret (pv 2))))), ?_⟩
    show (tSeq _ _) _ [some (V.int x), some (V.int m), none, none] H
    refine x_seq.mpr ?_
    (try simp only [x_asg, x_name, x_sub, x_ret, x_next, x_ifS, x_ite, x_iteN, x_T, x_F, x_tT, x_tF, x_op, x_un, x_var0, x_varS, x_c, x_I0, x_I, x_rU, x_nil, x_cons, x_test, x_B, x_bl, x_call, x_CB, x_tup, x_lst, x_not, x_Eq, x_Ne, x_eqII, x_eqSS, x_eqBB,  x_and, x_or, x_andV, x_orV, x_notV, x_if, x_par, x_two, x_drop, x_BM, x_set0, x_setS, x_gcons, x_gnil, x_forL, x_forT, x_forR1, x_forR2, x_forE, x_ref, x_int1, x_oneI, x_oneB, x_noBI, x_twoI, false_or, x_sl, x_noP, x_part, true_and, List.append_nil, cxK]; try simp only [V.str.injEq, V.int.injEq, V.bl.injEq])
    refine ⟨by show 0 ≤ sizeLine; decide, fun p np => ?_⟩
    refine x_seq.mpr ?_
    (try simp only [x_asg, x_name, x_sub, x_ret, x_next, x_ifS, x_ite, x_iteN, x_T, x_F, x_tT, x_tF, x_op, x_un, x_var0, x_varS, x_c, x_I0, x_I, x_rU, x_nil, x_cons, x_test, x_B, x_bl, x_call, x_CB, x_tup, x_lst, x_not, x_Eq, x_Ne, x_eqII, x_eqSS, x_eqBB,  x_and, x_or, x_andV, x_orV, x_notV, x_if, x_par, x_two, x_drop, x_BM, x_set0, x_setS, x_gcons, x_gnil, x_forL, x_forT, x_forR1, x_forR2, x_forE, x_ref, x_int1, x_oneI, x_oneB, x_noBI, x_twoI, false_or, x_sl, x_noP, x_part, true_and, List.append_nil, cxK]; try simp only [V.str.injEq, V.int.injEq, V.bl.injEq])
    refine ⟨by omega, by omega, ?_⟩
    refine lpR (fun i σ H' => (∃ y, σ = [some (.int (x / 2 ^ i)), some (.int m), some (.ref p), y]) ∧ H' = upd H p (.lst ((bitsI x i).map V.int))) ⟨⟨none, by simp only [Int.pow_zero, Int.ediv_one]⟩, rfl⟩ (fun i σ H' hi h => ?_) (fun σ H' h => ?_)
    · obtain ⟨⟨y, rfl⟩, rfl⟩ := h
      (try simp only [x_asg, x_name, x_sub, x_ret, x_next, x_ifS, x_ite, x_iteN, x_T, x_F, x_tT, x_tF, x_op, x_un, x_var0, x_varS, x_c, x_I0, x_I, x_rU, x_nil, x_cons, x_test, x_B, x_bl, x_call, x_CB, x_tup, x_lst, x_not, x_Eq, x_Ne, x_eqII, x_eqSS, x_eqBB,  x_and, x_or, x_andV, x_orV, x_notV, x_if, x_par, x_two, x_drop, x_BM, x_set0, x_setS, x_gcons, x_gnil, x_forL, x_forT, x_forR1, x_forR2, x_forE, x_ref, x_int1, x_oneI, x_oneB, x_noBI, x_twoI, false_or, x_sl, x_noP, x_part, true_and, List.append_nil, cxK]; try simp only [V.str.injEq, V.int.injEq, V.bl.injEq])
      refine x_seq.mpr ?_
      (try simp only [x_asg, x_name, x_sub, x_ret, x_next, x_ifS, x_ite, x_iteN, x_T, x_F, x_tT, x_tF, x_op, x_un, x_var0, x_varS, x_c, x_I0, x_I, x_rU, x_nil, x_cons, x_test, x_B, x_bl, x_call, x_CB, x_tup, x_lst, x_not, x_Eq, x_Ne, x_eqII, x_eqSS, x_eqBB,  x_and, x_or, x_andV, x_orV, x_notV, x_if, x_par, x_two, x_drop, x_BM, x_set0, x_setS, x_gcons, x_gnil, x_forL, x_forT, x_forR1, x_forR2, x_forE, x_ref, x_int1, x_oneI, x_oneB, x_noBI, x_twoI, false_or, x_sl, x_noP, x_part, true_and, List.append_nil, cxK]; try simp only [V.str.injEq, V.int.injEq, V.bl.injEq])
      refine ⟨x_tyL (SqL.of upd_same), by decide, ?_⟩
      refine x_app upd_same (by rw [List.length_map, bits_len]; exact Nat.lt_of_lt_of_le (show i < 1000 by omega) (by decide)) ?_
      (try simp only [x_asg, x_name, x_sub, x_ret, x_next, x_ifS, x_ite, x_iteN, x_T, x_F, x_tT, x_tF, x_op, x_un, x_var0, x_varS, x_c, x_I0, x_I, x_rU, x_nil, x_cons, x_test, x_B, x_bl, x_call, x_CB, x_tup, x_lst, x_not, x_Eq, x_Ne, x_eqII, x_eqSS, x_eqBB,  x_and, x_or, x_andV, x_orV, x_notV, x_if, x_par, x_two, x_drop, x_BM, x_set0, x_setS, x_gcons, x_gnil, x_forL, x_forT, x_forR1, x_forR2, x_forE, x_ref, x_int1, x_oneI, x_oneB, x_noBI, x_twoI, false_or, x_sl, x_noP, x_part, true_and, List.append_nil, cxK]; try simp only [V.str.injEq, V.int.injEq, V.bl.injEq])
      refine ⟨⟨by decide, by decide⟩, ⟨⟨_, by rw [half_half]⟩, ?_⟩⟩
      rw [upd_upd, bits_succ, List.map_append]
      rfl
    · obtain ⟨⟨y, rfl⟩, rfl⟩ := h
      (try simp only [x_asg, x_name, x_sub, x_ret, x_next, x_ifS, x_ite, x_iteN, x_T, x_F, x_tT, x_tF, x_op, x_un, x_var0, x_varS, x_c, x_I0, x_I, x_rU, x_nil, x_cons, x_test, x_B, x_bl, x_call, x_CB, x_tup, x_lst, x_not, x_Eq, x_Ne, x_eqII, x_eqSS, x_eqBB,  x_and, x_or, x_andV, x_orV, x_notV, x_if, x_par, x_two, x_drop, x_BM, x_set0, x_setS, x_gcons, x_gnil, x_forL, x_forT, x_forR1, x_forR2, x_forE, x_ref, x_int1, x_oneI, x_oneB, x_noBI, x_twoI, false_or, x_sl, x_noP, x_part, true_and, List.append_nil, cxK]; try simp only [V.str.injEq, V.int.injEq, V.bl.injEq])
      exact q p _ np upd_same (same_new np)
def valI (x : Int) (m : Nat) (sg : Bool) : Int := if sg = true then worth x (m - 1) - x / 2 ^ (m - 1) % 2 * 2 ^ (m - 1) else worth x m
def spValue (K : PySem.W.Frag) : Sp := fun vs H Q _ => ∃ (p : Addr) (x : Int) (m : Nat) (sg : Bool), vs = [.ref p, .bl sg] ∧ SqL K H p ((bitsI x m).map V.int) ∧ 1 ≤ m ∧ m ≤ 1000 ∧ ∀ H', Same H H' → Q (.int (valI x m sg)) H'
theorem bit01 (x : Int) (i : Nat) : x / 2 ^ i % 2 = 0 ∨ x / 2 ^ i % 2 = 1 := by
  have b0 := Int.emod_nonneg (x / 2 ^ i) (show (2 : Int) ≠ 0 by decide)
  have b1 := Int.emod_lt_of_pos (x / 2 ^ i) (show (0 : Int) < 2 by decide)
  omega
theorem p_value (T : Tx K mg "_law_value" s_law_value) (m_enumerate : mg "enumerate" = none) (m_int : mg "int" = none) (m_len : mg "len" = none) : Pr P w K mg base CX0 1 "_law_value" ["digits", "has_sign"] (spValue K) := by
  refine mkP T sc_law_value (fun _ _ _ _ _ _ us hl => match us, hl with | [_, _], _ => rfl) (fun vs H Q E h => ?_) (fun f cdv A outer s H vs Q E hG hr h => ?_)
  · obtain ⟨_, _, _, _, rfl, _⟩ := h
    rfl
  · obtain ⟨p, x, m, sg, rfl, hp, m0, m1, q⟩ := h
    have nd := sc_law_value.nd
    refine ⟨_, (pss_cons (ps_asg (pe_tup (pa_cons pe_int (pa_cons pe_int pa_nil))) (pg_tup rfl (pgs_cons (pg_name (i := 2) nd rfl (.inl rfl)) (pgs_cons (pg_name (i := 3) nd rfl (.inl rfl)) pgs_nil)))) (pss_cons (ps_for PassesOwn.never rfl (pi_enum (by rfl) m_enumerate (pa_cons (pv 0) pa_nil)) (pg_tup rfl (pgs_cons (pg_name (i := 4) nd rfl (.inl rfl)) (pgs_cons (pg_name (i := 5) nd rfl (.inl rfl)) pgs_nil))) (pss_cons (ps_set (i := 2) nd rfl (.inl rfl) (pe_op op_add (pv 2) (pe_op op_mulW (pe_op op_mulW (pv 5) (pv 3)) (pe_ix ix_list (pe_lst (pa_cons pe_int (pa_cons (pe_un un_neg pe_int) pa_nil))) (pe_callTy call_int1 (by rfl) m_int (by decide +kernel) (pa_cons (pe_and (pv 1) (pe_one (pe_cmpR op_eq (pv 4) (pe_op op_sub (pe_callB call_len_seq (by rfl) m_len (by decide +kernel) (pa_cons (pv 0) pa_nil)) pe_int) (nomark _)))) pa_nil)) (fun _ _ => rfl))))) (pss_one (ps_set (i := 3) nd rfl (.inl rfl) (pe_op op_mulW (pv 3) pe_int))))) (pss_one (ps_ret (pv 2))))), ?_⟩
    show (tSeq _ _) _ [some (V.ref p), some (V.bl sg), none, none, none, none] H
    refine x_seq.mpr ?_
    (try simp only [x_asg, x_name, x_sub, x_ret, x_next, x_ifS, x_ite, x_iteN, x_T, x_F, x_tT, x_tF, x_op, x_un, x_var0, x_varS, x_c, x_I0, x_I, x_rU, x_nil, x_cons, x_test, x_B, x_bl, x_call, x_CB, x_tup, x_lst, x_not, x_Eq, x_Ne, x_eqII, x_eqSS, x_eqBB,  x_and, x_or, x_andV, x_orV, x_notV, x_if, x_par, x_two, x_drop, x_BM, x_set0, x_setS, x_gcons, x_gnil, x_forL, x_forT, x_forR1, x_forR2, x_forE, x_ref, x_int1, x_oneI, x_oneB, x_noBI, x_twoI, false_or, x_sl, x_noP, x_part, true_and, List.append_nil, cxK]; try simp only [V.str.injEq, V.int.injEq, V.bl.injEq])
    refine ⟨by show 2 ≤ sizeLine; decide, fun t nt => ?_⟩
    refine x_gtup (SqT.of upd_same) rfl ?_
    (try simp only [x_asg, x_name, x_sub, x_ret, x_next, x_ifS, x_ite, x_iteN, x_T, x_F, x_tT, x_tF, x_op, x_un, x_var0, x_varS, x_c, x_I0, x_I, x_rU, x_nil, x_cons, x_test, x_B, x_bl, x_call, x_CB, x_tup, x_lst, x_not, x_Eq, x_Ne, x_eqII, x_eqSS, x_eqBB,  x_and, x_or, x_andV, x_orV, x_notV, x_if, x_par, x_two, x_drop, x_BM, x_set0, x_setS, x_gcons, x_gnil, x_forL, x_forT, x_forR1, x_forR2, x_forE, x_ref, x_int1, x_oneI, x_oneB, x_noBI, x_twoI, false_or, x_sl, x_noP, x_part, true_and, List.append_nil, cxK]; try simp only [V.str.injEq, V.int.injEq, V.bl.injEq])
    have sH := same_new (o := .tup [.int 0, .int 1]) nt
    generalize hH0 : upd H t (.tup [.int 0, .int 1]) = H0 at sH ⊢
    refine x_seq.mpr ?_
    (try simp only [x_asg, x_name, x_sub, x_ret, x_next, x_ifS, x_ite, x_iteN, x_T, x_F, x_tT, x_tF, x_op, x_un, x_var0, x_varS, x_c, x_I0, x_I, x_rU, x_nil, x_cons, x_test, x_B, x_bl, x_call, x_CB, x_tup, x_lst, x_not, x_Eq, x_Ne, x_eqII, x_eqSS, x_eqBB,  x_and, x_or, x_andV, x_orV, x_notV, x_if, x_par, x_two, x_drop, x_BM, x_set0, x_setS, x_gcons, x_gnil, x_forL, x_forT, x_forR1, x_forR2, x_forE, x_ref, x_int1, x_oneI, x_oneB, x_noBI, x_twoI, false_or, x_sl, x_noP, x_part, true_and, List.append_nil, cxK]; try simp only [V.str.injEq, V.int.injEq, V.bl.injEq])
    refine ⟨p, _, rfl, sH.seq hp, ?_⟩
    refine lpE (xs := (bitsI x m).map V.int) (fun i σ H' => (∃ y1 y2, σ = [some (.ref p), some (.bl sg), some (.int (if i = m then valI x m sg else worth x i)), some (.int (2 ^ i)), y1, y2]) ∧ Same H H') ⟨⟨_, _, by rw [if_neg (by omega)]; rfl⟩, sH⟩ (fun i σ H' _ h => h.2.seq hp) (fun i z σ H' T' hx h nT => ?_) (fun σ H' h => ?_)
    · obtain ⟨⟨y1, y2, rfl⟩, hH⟩ := h
      have hi : i < m := by
        have := (List.getElem?_eq_some_iff.mp hx).1
        rwa [List.length_map, bits_len] at this
      obtain rfl : z = .int (x / 2 ^ i % 2) := by
        unfold bitsI at hx
        rw [List.map_map, List.getElem?_map, List.getElem?_range hi] at hx
        exact (Option.some.inj hx).symm
      rw [if_neg (by omega)]
      refine x_gtup (SqT.of upd_same) rfl ?_
      (try simp only [x_asg, x_name, x_sub, x_ret, x_next, x_ifS, x_ite, x_iteN, x_T, x_F, x_tT, x_tF, x_op, x_un, x_var0, x_varS, x_c, x_I0, x_I, x_rU, x_nil, x_cons, x_test, x_B, x_bl, x_call, x_CB, x_tup, x_lst, x_not, x_Eq, x_Ne, x_eqII, x_eqSS, x_eqBB,  x_and, x_or, x_andV, x_orV, x_notV, x_if, x_par, x_two, x_drop, x_BM, x_set0, x_setS, x_gcons, x_gnil, x_forL, x_forT, x_forR1, x_forR2, x_forE, x_ref, x_int1, x_oneI, x_oneB, x_noBI, x_twoI, false_or, x_sl, x_noP, x_part, true_and, List.append_nil, cxK]; try simp only [V.str.injEq, V.int.injEq, V.bl.injEq])
      have s1 := hH.trans (same_new (o := .tup [.int ((i : Nat) : Int), .int (x / 2 ^ i % 2)]) nT)
      generalize upd H' T' (.tup [.int ((i : Nat) : Int), .int (x / 2 ^ i % 2)]) = H1 at s1
      refine x_seq.mpr ?_
      (try simp only [x_asg, x_name, x_sub, x_ret, x_next, x_ifS, x_ite, x_iteN, x_T, x_F, x_tT, x_tF, x_op, x_un, x_var0, x_varS, x_c, x_I0, x_I, x_rU, x_nil, x_cons, x_test, x_B, x_bl, x_call, x_CB, x_tup, x_lst, x_not, x_Eq, x_Ne, x_eqII, x_eqSS, x_eqBB,  x_and, x_or, x_andV, x_orV, x_notV, x_if, x_par, x_two, x_drop, x_BM, x_set0, x_setS, x_gcons, x_gnil, x_forL, x_forT, x_forR1, x_forR2, x_forE, x_ref, x_int1, x_oneI, x_oneB, x_noBI, x_twoI, false_or, x_sl, x_noP, x_part, true_and, List.append_nil, cxK]; try simp only [V.str.injEq, V.int.injEq, V.bl.injEq])
      have bb := bit01 x i
      have p2 := two_pos i
      refine ⟨wide_mul (a := 8) (b := 1001) (by omega) (pow2_abs (by omega)) (by omega) (by omega) (by omega), by show 2 ≤ sizeLine; decide, fun u nu => ?_⟩
      have lp : SqL K (upd H1 u (.lst [.int 1, .int (-1)])) p ((bitsI x m).map V.int) := (s1.trans (same_new nu)).seq hp
      have last : ∀ k : Int, (k = 0 ∧ (sg = false ∨ i + 1 ≠ m)) ∨ (k = 1 ∧ sg = true ∧ i + 1 = m) → rIxL K (V.ref u) (V.int k) (upd H1 u (.lst [.int 1, .int (-1)])) fun y H2 => rI CMulW (fun i j => V.int (i * j)) (V.int (x / 2 ^ i % 2 * 2 ^ i)) y H2 fun y H2 => rI0 (fun i j => V.int (i + j)) (V.int (worth x i)) y H2 fun v H1 => CMulW (2 ^ i) 2 ∧ (∃ y1 y2, [some (V.ref p), some (V.bl sg), some v, some (V.int (2 ^ i * 2)), some (V.int ((i : Nat) : Int)), some (V.int (x / 2 ^ i % 2))] = [some (.ref p), some (.bl sg), some (.int (if i + 1 = m then valI x m sg else worth x (i + 1))), some (.int (2 ^ (i + 1))), y1, y2]) ∧ Same H H1 := by
        intro k hk
        have mm : CMulW (2 ^ i : Int) 2 := wide_mul (a := 1001) (b := 8) (pow2_abs (by omega)) (by omega) (by omega) (by omega) (by omega)
        have mk : ∀ s : Int, s = 1 ∨ s = -1 → CMulW (x / 2 ^ i % 2 * 2 ^ i) s := fun s hs => by
          refine wide_mul (a := 1100) (b := 8) ?_ (by omega) (by omega) (by omega) (by omega)
          exact Nat.lt_of_lt_of_le (wide_lt (a := 8) (b := 1001) (by omega) (pow2_abs (by omega))) (Nat.pow_le_pow_right (by omega) (by omega))
        rcases hk with ⟨rfl, hk⟩ | ⟨rfl, rfl, hk⟩
        · refine x_ixL (SqL.of upd_same) (v := .int 1) rfl ?_
          (try simp only [x_asg, x_name, x_sub, x_ret, x_next, x_ifS, x_ite, x_iteN, x_T, x_F, x_tT, x_tF, x_op, x_un, x_var0, x_varS, x_c, x_I0, x_I, x_rU, x_nil, x_cons, x_test, x_B, x_bl, x_call, x_CB, x_tup, x_lst, x_not, x_Eq, x_Ne, x_eqII, x_eqSS, x_eqBB,  x_and, x_or, x_andV, x_orV, x_notV, x_if, x_par, x_two, x_drop, x_BM, x_set0, x_setS, x_gcons, x_gnil, x_forL, x_forT, x_forR1, x_forR2, x_forE, x_ref, x_int1, x_oneI, x_oneB, x_noBI, x_twoI, false_or, x_sl, x_noP, x_part, true_and, List.append_nil, cxK]; try simp only [V.str.injEq, V.int.injEq, V.bl.injEq])
          refine ⟨mk 1 (.inl rfl), mm, ⟨some (V.int ((i : Nat) : Int)), some (V.int (x / 2 ^ i % 2)), ?_⟩, s1.trans (same_new nu)⟩
          rw [Int.mul_one, Int.pow_succ]
          have e : (if i + 1 = m then valI x m sg else worth x (i + 1)) = worth x i + x / 2 ^ i % 2 * 2 ^ i := by
            split
            · rename_i h
              rcases hk with rfl | hk
              · unfold valI
                rw [if_neg (by decide), ← h]
                rfl
              · exact absurd h hk
            · rfl
          rw [e]
        · refine x_ixL (SqL.of upd_same) (v := .int (-1)) rfl ?_
          (try simp only [x_asg, x_name, x_sub, x_ret, x_next, x_ifS, x_ite, x_iteN, x_T, x_F, x_tT, x_tF, x_op, x_un, x_var0, x_varS, x_c, x_I0, x_I, x_rU, x_nil, x_cons, x_test, x_B, x_bl, x_call, x_CB, x_tup, x_lst, x_not, x_Eq, x_Ne, x_eqII, x_eqSS, x_eqBB,  x_and, x_or, x_andV, x_orV, x_notV, x_if, x_par, x_two, x_drop, x_BM, x_set0, x_setS, x_gcons, x_gnil, x_forL, x_forT, x_forR1, x_forR2, x_forE, x_ref, x_int1, x_oneI, x_oneB, x_noBI, x_twoI, false_or, x_sl, x_noP, x_part, true_and, List.append_nil, cxK]; try simp only [V.str.injEq, V.int.injEq, V.bl.injEq])
          refine ⟨mk (-1) (.inr rfl), mm, ⟨some (V.int ((i : Nat) : Int)), some (V.int (x / 2 ^ i % 2)), ?_⟩, s1.trans (same_new nu)⟩
          rw [Int.pow_succ]
          have e : (if i + 1 = m then valI x m true else worth x (i + 1)) = worth x i + x / 2 ^ i % 2 * 2 ^ i * (-1) := by
            rw [if_pos hk]
            unfold valI
            rw [if_pos rfl, ← hk, Nat.add_sub_cancel]
            omega
          rw [e]
      cases sg with
      | false =>
        (try simp only [x_asg, x_name, x_sub, x_ret, x_next, x_ifS, x_ite, x_iteN, x_T, x_F, x_tT, x_tF, x_op, x_un, x_var0, x_varS, x_c, x_I0, x_I, x_rU, x_nil, x_cons, x_test, x_B, x_bl, x_call, x_CB, x_tup, x_lst, x_not, x_Eq, x_Ne, x_eqII, x_eqSS, x_eqBB,  x_and, x_or, x_andV, x_orV, x_notV, x_if, x_par, x_two, x_drop, x_BM, x_set0, x_setS, x_gcons, x_gnil, x_forL, x_forT, x_forR1, x_forR2, x_forE, x_ref, x_int1, x_oneI, x_oneB, x_noBI, x_twoI, false_or, x_sl, x_noP, x_part, true_and, List.append_nil, cxK]; try simp only [V.str.injEq, V.int.injEq, V.bl.injEq])
        exact last 0 (.inl ⟨rfl, .inl rfl⟩)
      | true =>
        (try simp only [x_asg, x_name, x_sub, x_ret, x_next, x_ifS, x_ite, x_iteN, x_T, x_F, x_tT, x_tF, x_op, x_un, x_var0, x_varS, x_c, x_I0, x_I, x_rU, x_nil, x_cons, x_test, x_B, x_bl, x_call, x_CB, x_tup, x_lst, x_not, x_Eq, x_Ne, x_eqII, x_eqSS, x_eqBB,  x_and, x_or, x_andV, x_orV, x_notV, x_if, x_par, x_two, x_drop, x_BM, x_set0, x_setS, x_gcons, x_gnil, x_forL, x_forT, x_forR1, x_forR2, x_forE, x_ref, x_int1, x_oneI, x_oneB, x_noBI, x_twoI, false_or, x_sl, x_noP, x_part, true_and, List.append_nil, cxK]; try simp only [V.str.injEq, V.int.injEq, V.bl.injEq])
        refine ⟨p, _, rfl, .inl lp, ?_⟩
        (try simp only [x_asg, x_name, x_sub, x_ret, x_next, x_ifS, x_ite, x_iteN, x_T, x_F, x_tT, x_tF, x_op, x_un, x_var0, x_varS, x_c, x_I0, x_I, x_rU, x_nil, x_cons, x_test, x_B, x_bl, x_call, x_CB, x_tup, x_lst, x_not, x_Eq, x_Ne, x_eqII, x_eqSS, x_eqBB,  x_and, x_or, x_andV, x_orV, x_notV, x_if, x_par, x_two, x_drop, x_BM, x_set0, x_setS, x_gcons, x_gnil, x_forL, x_forT, x_forR1, x_forR2, x_forE, x_ref, x_int1, x_oneI, x_oneB, x_noBI, x_twoI, false_or, x_sl, x_noP, x_part, true_and, List.append_nil, cxK]; try simp only [V.str.injEq, V.int.injEq, V.bl.injEq])
        rw [List.length_map, bits_len]
        by_cases h : i + 1 = m
        · rw [decide_eq_true (show ((i : Nat) : Int) = (m : Int) - 1 by omega)]
          exact last 1 (.inr ⟨rfl, rfl, h⟩)
        · rw [decide_eq_false (show ¬ ((i : Nat) : Int) = (m : Int) - 1 by omega)]
          exact last 0 (.inl ⟨rfl, .inr h⟩)
    · obtain ⟨⟨y1, y2, rfl⟩, hH⟩ := h
      (try simp only [x_asg, x_name, x_sub, x_ret, x_next, x_ifS, x_ite, x_iteN, x_T, x_F, x_tT, x_tF, x_op, x_un, x_var0, x_varS, x_c, x_I0, x_I, x_rU, x_nil, x_cons, x_test, x_B, x_bl, x_call, x_CB, x_tup, x_lst, x_not, x_Eq, x_Ne, x_eqII, x_eqSS, x_eqBB,  x_and, x_or, x_andV, x_orV, x_notV, x_if, x_par, x_two, x_drop, x_BM, x_set0, x_setS, x_gcons, x_gnil, x_forL, x_forT, x_forR1, x_forR2, x_forE, x_ref, x_int1, x_oneI, x_oneB, x_noBI, x_twoI, false_or, x_sl, x_noP, x_part, true_and, List.append_nil, cxK]; try simp only [V.str.injEq, V.int.injEq, V.bl.injEq])
      rw [List.length_map, bits_len, if_pos rfl]
      exact q _ hH
end

abbrev s_law : Stmt := topS 18
theorem sc_law : FnScope ["script", "rng", "lap", "first", "turn", "wide", "digits", "plain", "signed", "more", "other", "word"] ["script"] (defScope s_law) := ⟨rfl, rfl, rfl, by decide +kernel, rfl, by decide +kernel, by decide +kernel⟩
section
variable {P : Program} {w : World} {K : PySem.W.Frag} {mg : Str → Option Value} {base : Heap}
theorem ch1 {H : Hp} {t q : Addr} {w : Str} {n : Int} (ht : H t = some (.tup [.str w, .int n])) (hq : H q = some (.lst [.ref t])) : ChAt K H q [(w, n)] := ⟨_, SqL.of hq, .cons (SqT.of ht) .nil⟩
theorem ok1 {w : Str} {n : Int} (hw : w = "u" ∨ w = "s") (h0 : 1 ≤ n) (h1 : n ≤ big) : okS (w, n) = true ∧ n ≤ (if w = "add" then n else big) := by
  rcases hw with rfl | rfl
  · refine ⟨?_, by rw [if_neg (by decide +kernel)]; exact h1⟩
    unfold okS isC
    simp [h0]
  · refine ⟨?_, by rw [if_neg (by decide +kernel)]; exact h1⟩
    unfold okS isC
    simp [h0]
theorem step_c {x n : Int} {w : Str} (hw : w = "u" ∨ w = "s") : stepI x (w, n) = castI x w n := by
  unfold stepI
  rcases hw with rfl | rfl
  · exact if_neg (show ¬ ("u" : Str) = "add" by decide +kernel)
  · exact if_neg (show ¬ ("s" : Str) = "add" by decide +kernel)
theorem C1 {H : Hp} {Q : VK} {x n : Int} {w : Str} (hw : w = "u" ∨ w = "s") (h0 : 1 ≤ n) (h1 : n ≤ big) (q : ∀ H', Same H H' → Q (.int (castI x w n)) H') :
    [V.str w, V.int n].length ≤ sizeLine ∧ ∀ t, H t = none → [V.ref t].length ≤ sizeLine ∧ ∀ p, upd H t (.tup [.str w, .int n]) p = none → spConv0 K [.int x, .ref p] (upd (upd H t (.tup [.str w, .int n])) p (.lst [.ref t])) Q E0 := by
  refine ⟨by show 2 ≤ sizeLine; decide, fun t nt => ⟨by show 1 ≤ sizeLine; decide, fun p np => ?_⟩⟩
  have ne : t ≠ p := ne_of_none upd_same np
  refine ⟨x, p, [(w, n)], rfl, ch1 (by rw [upd_ne ne, upd_same]) upd_same, fun s hs => ?_, fun H' e => ?_⟩
  · rw [List.mem_singleton] at hs
    subst hs
    exact ok1 hw h0 h1
  · have z := q H' (((same_new nt).trans (same_new np)).trans e)
    have e2 : convI x [(w, n)] = castI x w n := step_c hw
    rw [e2]
    exact z
theorem C2 {H : Hp} {Q : VK} {x n o : Int} {w v : Str} (hw : w = "u" ∨ w = "s") (h0 : 1 ≤ n) (h1 : n ≤ big) (hv : v = "u" ∨ v = "s") (k0 : 1 ≤ o) (k1 : o ≤ big) (q : ∀ H', Same H H' → Q (.int (castI (castI x v o) w n)) H') :
    [V.str v, V.int o].length ≤ sizeLine ∧ ∀ u, H u = none → [V.str w, V.int n].length ≤ sizeLine ∧ ∀ t, upd H u (.tup [.str v, .int o]) t = none → [V.ref u, V.ref t].length ≤ sizeLine ∧ ∀ p, upd (upd H u (.tup [.str v, .int o])) t (.tup [.str w, .int n]) p = none →
      spConv0 K [.int x, .ref p] (upd (upd (upd H u (.tup [.str v, .int o])) t (.tup [.str w, .int n])) p (.lst [.ref u, .ref t])) Q E0 := by
  refine ⟨by show 2 ≤ sizeLine; decide, fun u nu => ⟨by show 2 ≤ sizeLine; decide, fun t nt => ⟨by show 2 ≤ sizeLine; decide, fun p np => ?_⟩⟩⟩
  have s1 := same_new (o := .tup [.str v, .int o]) nu
  have s2 := same_new (o := .tup [.str w, .int n]) nt
  have s3 := same_new (o := .lst [.ref u, .ref t]) np
  refine ⟨x, p, [(v, o), (w, n)], rfl, ⟨_, SqL.of upd_same, .cons (SqT.of (s3 _ _ (s2 _ _ upd_same))) (.cons (SqT.of (s3 _ _ upd_same)) .nil)⟩, fun s hs => ?_, fun H' e => ?_⟩
  · rw [List.mem_cons, List.mem_singleton] at hs
    rcases hs with rfl | rfl
    · exact ok1 hv k0 k1
    · exact ok1 hw h0 h1
  · have z := q H' (((s1.trans s2).trans s3).trans e)
    have e2 : convI x [(v, o), (w, n)] = stepI (stepI x (v, o)) (w, n) := rfl
    rw [e2, step_c hv, step_c hw]
    exact z
theorem C3 {H : Hp} {Q : VK} {x n o m : Int} {w v y : Str} (hw : w = "u" ∨ w = "s") (h0 : 1 ≤ n) (h1 : n ≤ big) (hv : v = "u" ∨ v = "s") (k0 : 1 ≤ o) (k1 : o ≤ big) (hy : y = "u" ∨ y = "s") (j0 : 1 ≤ m) (j1 : m ≤ big) (q : ∀ H', Same H H' → Q (.int (castI (castI (castI x y m) v o) w n)) H') :
    [V.str y, V.int m].length ≤ sizeLine ∧ ∀ g, H g = none → [V.str v, V.int o].length ≤ sizeLine ∧ ∀ u, upd H g (.tup [.str y, .int m]) u = none → [V.str w, V.int n].length ≤ sizeLine ∧ ∀ t, upd (upd H g (.tup [.str y, .int m])) u (.tup [.str v, .int o]) t = none →
      [V.ref g, V.ref u, V.ref t].length ≤ sizeLine ∧ ∀ p, upd (upd (upd H g (.tup [.str y, .int m])) u (.tup [.str v, .int o])) t (.tup [.str w, .int n]) p = none →
      spConv0 K [.int x, .ref p] (upd (upd (upd (upd H g (.tup [.str y, .int m])) u (.tup [.str v, .int o])) t (.tup [.str w, .int n])) p (.lst [.ref g, .ref u, .ref t])) Q E0 := by
  refine ⟨by show 2 ≤ sizeLine; decide, fun g ng => ⟨by show 2 ≤ sizeLine; decide, fun u nu => ⟨by show 2 ≤ sizeLine; decide, fun t nt => ⟨by show 3 ≤ sizeLine; decide, fun p np => ?_⟩⟩⟩⟩
  have s0 := same_new (o := .tup [.str y, .int m]) ng
  have s1 := same_new (o := .tup [.str v, .int o]) nu
  have s2 := same_new (o := .tup [.str w, .int n]) nt
  have s3 := same_new (o := .lst [.ref g, .ref u, .ref t]) np
  refine ⟨x, p, [(y, m), (v, o), (w, n)], rfl, ⟨_, SqL.of upd_same, .cons (SqT.of (s3 _ _ (s2 _ _ (s1 _ _ upd_same)))) (.cons (SqT.of (s3 _ _ (s2 _ _ upd_same))) (.cons (SqT.of (s3 _ _ upd_same)) .nil))⟩, fun s hs => ?_, fun H' e => ?_⟩
  · rw [List.mem_cons, List.mem_cons, List.mem_singleton] at hs
    rcases hs with rfl | rfl | rfl
    · exact ok1 hy j0 j1
    · exact ok1 hv k0 k1
    · exact ok1 hw h0 h1
  · have z := q H' ((((s0.trans s1).trans s2).trans s3).trans e)
    have e2 : convI x [(y, m), (v, o), (w, n)] = stepI (stepI (stepI x (y, m)) (v, o)) (w, n) := rfl
    rw [e2, step_c hy, step_c hv, step_c hw]
    exact z
theorem dpI2 {H : Hp} {p : Addr} {a b : Int} (h : H p = some (.lst [.int a, .int b])) : Dp K H (.ref p) (.list [.int a, .int b]) := .lst (SqL.of h) (.cons (.int a) (.cons (.int b) .nil))
theorem rokI2 {a b : Int} (a0 : -(10 ^ 400) < a) (a1 : a < 10 ^ 400) (b0 : -(10 ^ 400) < b) (b1 : b < 10 ^ 400) : Rok (.list [.int a, .int b]) := by
  refine rok_of ?_ ?_ ?_
  · simp only [smallD, smallL, and_true]
    exact ⟨nat_abs_lt a0 a1, nat_abs_lt b0 b1⟩
  · simp [PyData.depth, PyData.depthAll]
  · simp [PyData.bulk, PyData.bulkAll]
theorem isC1 {w : Str} {n : Int} (hw : w = "u" ∨ w = "s") (h0 : 1 ≤ n) : isC w n = true := by
  unfold isC
  rcases hw with rfl | rfl <;> simp [h0]
def spLaw (K : PySem.W.Frag) : Sp := fun vs H Q _ => ∃ (a : Addr) (ns : List Int), vs = [.ref a] ∧ SqL K H a (ns.map V.int) ∧ ns.length ≤ 63 ∧ ∀ H', Q (.bl true) H'
theorem p_law (m_range : mg "range" = none) (m_min : mg "min" = none) (m_len : mg "len" = none) (m_repr : mg "repr" = none)
    (h__law_rng : Pr P w K mg base CX0 1 "_law_rng" ["script"] (spRng K)) (h__law_draw : Pr P w K mg base CX0 1 "_law_draw" ["rng", "limit"] spDraw)
    (h__law_two : Pr P w K mg base CX0 1 "_law_two" ["many"] spTwo) (h__law_any : Pr P w K mg base CX0 2 "_law_any" ["rng"] spAny)
    (h__law_digits : Pr P w K mg base CX0 1 "_law_digits" ["number", "many"] spDigits) (h__law_value : Pr P w K mg base CX0 1 "_law_value" ["digits", "has_sign"] (spValue K))
    (h_converted : Pr P w K mg base CX0 4 "converted" ["number", "chain"] (spConv0 K)) (h_fits : Pr P w K mg base CX0 3 "fits" ["number", "word", "width"] spFits0) :
    PrAt P w K mg base CX0 5 "law" s_law ["script"] (spLaw K) := by
  refine mkA sc_law (fun vs H Q E h => ?_) (fun f cdv A outer s H vs Q E hG hr h => ?_)
  · obtain ⟨_, _, rfl, _⟩ := h
    rfl
  · obtain ⟨a, ns, rfl, hS, hlen, q⟩ := h
    have nd := sc_law.nd
    refine ⟨_, (pss_cons (ps_set (i := 1) nd rfl (.inl rfl) (pe_P h__law_rng hr hG (by rfl) (pa_cons (pv 0) pa_nil))) (pss_cons (ps_for PassesOwn.never rfl (pi_range1 rfl m_range (pa_cons (pe_op op_add pe_int (pe_callB (call_min2 rfl) (by rfl) m_min (by decide +kernel) (pa_cons pe_int (pa_cons (pe_callB call_len_seq (by rfl) m_len (by decide +kernel) (pa_cons (pv 0) pa_nil)) pa_nil)))) pa_nil)) (pg_name (i := 2) nd rfl (.inl rfl)) (pss_cons (ps_set (i := 3) nd rfl (.inl rfl) (pe_P h__law_any hr hG (by rfl) (pa_cons (pv 1) pa_nil))) (pss_one (ps_for PassesOwn.never rfl (pi_range1 rfl m_range (pa_cons pe_int pa_nil)) (pg_name (i := 4) nd rfl (.inl rfl)) (pss_cons (ps_set (i := 5) nd rfl (.inl rfl) (pe_op op_add pe_int (pe_P h__law_draw hr hG (by rfl) (pa_cons (pv 1) (pa_cons (pe_ix ix_list (pe_lst (pa_cons pe_int (pa_cons pe_int (pa_cons pe_int pa_nil)))) (pe_P h__law_draw hr hG (by rfl) (pa_cons (pv 1) (pa_cons pe_int pa_nil))) (fun _ _ => rfl)) pa_nil))))) (pss_cons (ps_set (i := 5) nd rfl (.inl rfl) (pe_callB (call_min2 rfl) (by rfl) m_min (by decide +kernel) (pa_cons (pv 5) (pa_cons pe_int pa_nil)))) (pss_cons (ps_set (i := 6) nd rfl (.inl rfl) (pe_P h__law_digits hr hG (by rfl) (pa_cons (pv 3) (pa_cons (pv 5) pa_nil)))) (pss_cons (ps_par (i := 7) (j := 8) (by rfl) nd rfl rfl (by decide) rfl rfl (pa_cons (pe_P h_converted hr hG (by rfl) (pa_cons (pv 3) (pa_cons (pe_lst (pa_cons (pe_tup (pa_cons pe_str (pa_cons (pv 5) pa_nil))) pa_nil)) pa_nil))) (pa_cons (pe_P h_converted hr hG (by rfl) (pa_cons (pv 3) (pa_cons (pe_lst (pa_cons (pe_tup (pa_cons pe_str (pa_cons (pv 5) pa_nil))) pa_nil)) pa_nil))) pa_nil)) (by rfl)) (pss_cons (ps_if (pt_cmpR op_ne (pe_callB (cr_repD hG hr.units) (by rfl) m_repr (by decide +kernel) (pa_cons (pe_lst (pa_cons (pv 7) (pa_cons (pv 8) pa_nil))) pa_nil)) (pe_callB (cr_repD hG hr.units) (by rfl) m_repr (by decide +kernel) (pa_cons (pe_lst (pa_cons (pe_P h__law_value hr hG (by rfl) (pa_cons (pv 6) (pa_cons pe_bl pa_nil))) (pa_cons (pe_P h__law_value hr hG (by rfl) (pa_cons (pv 6) (pa_cons pe_bl pa_nil))) pa_nil))) pa_nil)) (nomark _)) (pss_one (ps_ret pe_bl)) pss_nil) (pss_cons (ps_if (PW.pt (pw_or (pt_not (pt_val (pe_P h_fits hr hG (by rfl) (pa_cons (pv 7) (pa_cons pe_str (pa_cons (pv 5) pa_nil)))))) (pw_or (pt_not (pt_val (pe_P h_fits hr hG (by rfl) (pa_cons (pv 8) (pa_cons pe_str (pa_cons (pv 5) pa_nil)))))) (pw_or1 (pt_cmpR op_ne (pe_op op_mod (pe_op op_sub (pv 7) (pv 8)) (pe_P h__law_two hr hG (by rfl) (pa_cons (pv 5) pa_nil))) pe_int (nomark _)))))) (pss_one (ps_ret pe_bl)) pss_nil) (pss_cons (ps_if (PW.pt (pw_and (pt_cmpR op_lt (pv 5) pe_int (nomark _)) (pw_and1 (PW.pt (pw_or (pt_not (pt_val (pe_P h_fits hr hG (by rfl) (pa_cons (pv 7) (pa_cons pe_str (pa_cons (pe_op op_add (pv 5) pe_int) pa_nil)))))) (pw_or1 (pt_not (pt_val (pe_P h_fits hr hG (by rfl) (pa_cons (pv 8) (pa_cons pe_str (pa_cons (pe_op op_add (pv 5) pe_int) pa_nil)))))))))))) (pss_one (ps_ret pe_bl)) pss_nil) (pss_cons (ps_set (i := 9) nd rfl (.inl rfl) (pe_op op_add (pe_op op_mod (pv 3) (pe_P h__law_two hr hG (by rfl) (pa_cons (pv 5) pa_nil))) (pe_op op_mulW (pe_P h__law_two hr hG (by rfl) (pa_cons (pv 5) pa_nil)) (pe_op op_sub (pe_P h__law_draw hr hG (by rfl) (pa_cons (pv 1) (pa_cons pe_int pa_nil))) pe_int)))) (pss_cons (ps_if (pt_cmpR (op_neD hr.units) (pe_lst (pa_cons (pe_P h_converted hr hG (by rfl) (pa_cons (pv 9) (pa_cons (pe_lst (pa_cons (pe_tup (pa_cons pe_str (pa_cons (pv 5) pa_nil))) pa_nil)) pa_nil))) (pa_cons (pe_P h_converted hr hG (by rfl) (pa_cons (pv 9) (pa_cons (pe_lst (pa_cons (pe_tup (pa_cons pe_str (pa_cons (pv 5) pa_nil))) pa_nil)) pa_nil))) pa_nil))) (pe_lst (pa_cons (pv 7) (pa_cons (pv 8) pa_nil))) (nomark _)) (pss_one (ps_ret pe_bl)) pss_nil) (pss_cons (ps_set (i := 10) nd rfl (.inl rfl) (pe_op op_add (pv 5) (pe_P h__law_draw hr hG (by rfl) (pa_cons (pv 1) (pa_cons (pe_op op_sub pe_int (pv 5)) pa_nil))))) (pss_one (ps_for PassesOwn.never rfl (pi_list (pe_lst (pa_cons pe_str (pa_cons pe_str pa_nil)))) (pg_name (i := 11) nd rfl (.inl rfl)) (pss_cons (ps_if (pt_cmpR op_ne (pe_P h_converted hr hG (by rfl) (pa_cons (pv 3) (pa_cons (pe_lst (pa_cons (pe_tup (pa_cons (pv 11) (pa_cons (pv 10) pa_nil))) (pa_cons (pe_tup (pa_cons pe_str (pa_cons (pv 5) pa_nil))) pa_nil))) pa_nil))) (pv 7) (nomark _)) (pss_one (ps_ret pe_bl)) pss_nil) (pss_one (ps_if (pt_cmpR op_ne (pe_P h_converted hr hG (by rfl) (pa_cons (pv 3) (pa_cons (pe_lst (pa_cons (pe_tup (pa_cons pe_str (pa_cons (pv 5) pa_nil))) (pa_cons (pe_tup (pa_cons (pv 11) (pa_cons (pv 10) pa_nil))) (pa_cons (pe_tup (pa_cons pe_str (pa_cons (pv 5) pa_nil))) pa_nil)))) pa_nil))) (pv 8) (nomark _)) (pss_one (ps_ret pe_bl)) pss_nil))))))))))))))))))) (pss_one (ps_ret (pe_cmpR op_eq (pe_P h_converted hr hG (by rfl) (pa_cons pe_int (pa_cons (pe_lst (pa_cons (pe_tup (pa_cons pe_str (pa_cons pe_int pa_nil))) (pa_cons (pe_tup (pa_cons pe_str (pa_cons pe_int pa_nil))) pa_nil))) pa_nil))) pe_int (nomark _)))))), ?_⟩
    show (tSeq _ _) _ [some (V.ref a), none, none, none, none, none, none, none, none, none, none, none] H
    refine x_seq.mpr ?_
    (try simp only [x_asg, x_name, x_sub, x_ret, x_next, x_ifS, x_ite, x_iteN, x_T, x_F, x_tT, x_tF, x_op, x_un, x_var0, x_varS, x_c, x_I0, x_I, x_rU, x_nil, x_cons, x_test, x_B, x_bl, x_call, x_CB, x_tup, x_lst, x_not, x_Eq, x_Ne, x_eqII, x_eqSS, x_eqBB,  x_and, x_or, x_andV, x_orV, x_notV, x_if, x_par, x_two, x_drop, x_BM, x_set0, x_setS, x_gcons, x_gnil, x_forL, x_forT, x_forR1, x_forR2, x_forE, x_ref, x_int1, x_oneI, x_oneB, x_noBI, x_twoI, false_or, x_sl, x_noP, x_part, true_and, List.append_nil, cxK]; try simp only [V.str.injEq, V.int.injEq, V.bl.injEq])
    refine ⟨a, ns, rfl, hS, hlen, fun r H1 nr R1 s1 => ?_⟩
    refine x_seq.mpr ?_
    (try simp only [x_asg, x_name, x_sub, x_ret, x_next, x_ifS, x_ite, x_iteN, x_T, x_F, x_tT, x_tF, x_op, x_un, x_var0, x_varS, x_c, x_I0, x_I, x_rU, x_nil, x_cons, x_test, x_B, x_bl, x_call, x_CB, x_tup, x_lst, x_not, x_Eq, x_Ne, x_eqII, x_eqSS, x_eqBB,  x_and, x_or, x_andV, x_orV, x_notV, x_if, x_par, x_two, x_drop, x_BM, x_set0, x_setS, x_gcons, x_gnil, x_forL, x_forT, x_forR1, x_forR2, x_forE, x_ref, x_int1, x_oneI, x_oneB, x_noBI, x_twoI, false_or, x_sl, x_noP, x_part, true_and, List.append_nil, cxK]; try simp only [V.str.injEq, V.int.injEq, V.bl.injEq])
    refine ⟨a, _, rfl, .inl (s1.seq hS), ?_⟩
    (try simp only [x_asg, x_name, x_sub, x_ret, x_next, x_ifS, x_ite, x_iteN, x_T, x_F, x_tT, x_tF, x_op, x_un, x_var0, x_varS, x_c, x_I0, x_I, x_rU, x_nil, x_cons, x_test, x_B, x_bl, x_call, x_CB, x_tup, x_lst, x_not, x_Eq, x_Ne, x_eqII, x_eqSS, x_eqBB,  x_and, x_or, x_andV, x_orV, x_notV, x_if, x_par, x_two, x_drop, x_BM, x_set0, x_setS, x_gcons, x_gnil, x_forL, x_forT, x_forR1, x_forR2, x_forE, x_ref, x_int1, x_oneI, x_oneB, x_noBI, x_twoI, false_or, x_sl, x_noP, x_part, true_and, List.append_nil, cxK]; try simp only [V.str.injEq, V.int.injEq, V.bl.injEq])
    refine ⟨by split <;> omega, by split <;> omega, ?_⟩
    refine lpR (fun i σ H' => (∃ y2 y3 y4 y5 y6 y7 y8 y9 y10 y11, σ = [some (.ref a), some (.ref r), y2, y3, y4, y5, y6, y7, y8, y9, y10, y11]) ∧ RngAt H' r (i * 100)) ⟨⟨_, _, _, _, _, _, _, _, _, _, rfl⟩, by rw [Nat.zero_mul]; exact R1⟩ (fun lap σ H' hi h => ?_) (fun σ H' h => ?_)
    · obtain ⟨⟨y2, y3, y4, y5, y6, y7, y8, y9, y10, y11, rfl⟩, RL⟩ := h
      have hlap : lap ≤ 30 := by
        have : (if ((List.map V.int ns).length : Int) < 12 then ((List.map V.int ns).length : Int) else 12) ≤ 12 := by split <;> omega
        omega
      clear hi
      (try simp only [x_asg, x_name, x_sub, x_ret, x_next, x_ifS, x_ite, x_iteN, x_T, x_F, x_tT, x_tF, x_op, x_un, x_var0, x_varS, x_c, x_I0, x_I, x_rU, x_nil, x_cons, x_test, x_B, x_bl, x_call, x_CB, x_tup, x_lst, x_not, x_Eq, x_Ne, x_eqII, x_eqSS, x_eqBB,  x_and, x_or, x_andV, x_orV, x_notV, x_if, x_par, x_two, x_drop, x_BM, x_set0, x_setS, x_gcons, x_gnil, x_forL, x_forT, x_forR1, x_forR2, x_forE, x_ref, x_int1, x_oneI, x_oneB, x_noBI, x_twoI, false_or, x_sl, x_noP, x_part, true_and, List.append_nil, cxK]; try simp only [V.str.injEq, V.int.injEq, V.bl.injEq])
      refine x_seq.mpr ?_
      (try simp only [x_asg, x_name, x_sub, x_ret, x_next, x_ifS, x_ite, x_iteN, x_T, x_F, x_tT, x_tF, x_op, x_un, x_var0, x_varS, x_c, x_I0, x_I, x_rU, x_nil, x_cons, x_test, x_B, x_bl, x_call, x_CB, x_tup, x_lst, x_not, x_Eq, x_Ne, x_eqII, x_eqSS, x_eqBB,  x_and, x_or, x_andV, x_orV, x_notV, x_if, x_par, x_two, x_drop, x_BM, x_set0, x_setS, x_gcons, x_gnil, x_forL, x_forT, x_forR1, x_forR2, x_forE, x_ref, x_int1, x_oneI, x_oneB, x_noBI, x_twoI, false_or, x_sl, x_noP, x_part, true_and, List.append_nil, cxK]; try simp only [V.str.injEq, V.int.injEq, V.bl.injEq])
      refine ⟨r, _, rfl, RL, by omega, fun x H2 x0 x1 R2 o2 => ?_⟩
      (try simp only [x_asg, x_name, x_sub, x_ret, x_next, x_ifS, x_ite, x_iteN, x_T, x_F, x_tT, x_tF, x_op, x_un, x_var0, x_varS, x_c, x_I0, x_I, x_rU, x_nil, x_cons, x_test, x_B, x_bl, x_call, x_CB, x_tup, x_lst, x_not, x_Eq, x_Ne, x_eqII, x_eqSS, x_eqBB,  x_and, x_or, x_andV, x_orV, x_notV, x_if, x_par, x_two, x_drop, x_BM, x_set0, x_setS, x_gcons, x_gnil, x_forL, x_forT, x_forR1, x_forR2, x_forE, x_ref, x_int1, x_oneI, x_oneB, x_noBI, x_twoI, false_or, x_sl, x_noP, x_part, true_and, List.append_nil, cxK]; try simp only [V.str.injEq, V.int.injEq, V.bl.injEq])
      refine ⟨by decide, by decide, ?_⟩
      refine lpR (fun j σ H' => (∃ y2 y4 y5 y6 y7 y8 y9 y10 y11, σ = [some (.ref a), some (.ref r), y2, some (.int x), y4, y5, y6, y7, y8, y9, y10, y11]) ∧ RngAt H' r (lap * 100 + 7 + j * 10)) ⟨⟨_, _, _, _, _, _, _, _, _, rfl⟩, R2⟩ (fun j σ H' hj h => ?_) (fun σ H' h => ?_)
      · obtain ⟨⟨y2, y4, y5, y6, y7, y8, y9, y10, y11, rfl⟩, RJ⟩ := h
        have hj4 : j < 4 := hj
        clear hj
        (try simp only [x_asg, x_name, x_sub, x_ret, x_next, x_ifS, x_ite, x_iteN, x_T, x_F, x_tT, x_tF, x_op, x_un, x_var0, x_varS, x_c, x_I0, x_I, x_rU, x_nil, x_cons, x_test, x_B, x_bl, x_call, x_CB, x_tup, x_lst, x_not, x_Eq, x_Ne, x_eqII, x_eqSS, x_eqBB,  x_and, x_or, x_andV, x_orV, x_notV, x_if, x_par, x_two, x_drop, x_BM, x_set0, x_setS, x_gcons, x_gnil, x_forL, x_forT, x_forR1, x_forR2, x_forE, x_ref, x_int1, x_oneI, x_oneB, x_noBI, x_twoI, false_or, x_sl, x_noP, x_part, true_and, List.append_nil, cxK]; try simp only [V.str.injEq, V.int.injEq, V.bl.injEq])
        -- wide
        refine x_seq.mpr ?_
        (try simp only [x_asg, x_name, x_sub, x_ret, x_next, x_ifS, x_ite, x_iteN, x_T, x_F, x_tT, x_tF, x_op, x_un, x_var0, x_varS, x_c, x_I0, x_I, x_rU, x_nil, x_cons, x_test, x_B, x_bl, x_call, x_CB, x_tup, x_lst, x_not, x_Eq, x_Ne, x_eqII, x_eqSS, x_eqBB,  x_and, x_or, x_andV, x_orV, x_notV, x_if, x_par, x_two, x_drop, x_BM, x_set0, x_setS, x_gcons, x_gnil, x_forL, x_forT, x_forR1, x_forR2, x_forE, x_ref, x_int1, x_oneI, x_oneB, x_noBI, x_twoI, false_or, x_sl, x_noP, x_part, true_and, List.append_nil, cxK]; try simp only [V.str.injEq, V.int.injEq, V.bl.injEq])
        refine ⟨by show 3 ≤ sizeLine; decide, fun p np => ?_⟩
        refine ⟨r, 3, _, rfl, RJ.new np, by omega, by omega, by decide, fun i H3 i0 i1 R3 o3 => ?_⟩
        obtain ⟨v, hv, hm⟩ := atI_in (xs := [.int 4, .int 64, .int 130]) i0 i1
        refine x_ixL (SqL.of (o3 p _ (RJ.ne np) upd_same)) hv ?_
        obtain ⟨lim, rfl, l0, l1⟩ : ∃ z : Int, v = .int z ∧ 4 ≤ z ∧ z ≤ 130 := by
          simp only [List.mem_cons, List.not_mem_nil, or_false] at hm
          rcases hm with rfl | rfl | rfl
          · exact ⟨_, rfl, by omega, by omega⟩
          · exact ⟨_, rfl, by omega, by omega⟩
          · exact ⟨_, rfl, by omega, by omega⟩
        (try simp only [x_asg, x_name, x_sub, x_ret, x_next, x_ifS, x_ite, x_iteN, x_T, x_F, x_tT, x_tF, x_op, x_un, x_var0, x_varS, x_c, x_I0, x_I, x_rU, x_nil, x_cons, x_test, x_B, x_bl, x_call, x_CB, x_tup, x_lst, x_not, x_Eq, x_Ne, x_eqII, x_eqSS, x_eqBB,  x_and, x_or, x_andV, x_orV, x_notV, x_if, x_par, x_two, x_drop, x_BM, x_set0, x_setS, x_gcons, x_gnil, x_forL, x_forT, x_forR1, x_forR2, x_forE, x_ref, x_int1, x_oneI, x_oneB, x_noBI, x_twoI, false_or, x_sl, x_noP, x_part, true_and, List.append_nil, cxK]; try simp only [V.str.injEq, V.int.injEq, V.bl.injEq])
        refine ⟨r, lim, _, rfl, R3, by omega, by omega, Int.lt_of_le_of_lt l1 (by decide), fun b H4 b0 b1 R4 o4 => ?_⟩
        (try simp only [x_asg, x_name, x_sub, x_ret, x_next, x_ifS, x_ite, x_iteN, x_T, x_F, x_tT, x_tF, x_op, x_un, x_var0, x_varS, x_c, x_I0, x_I, x_rU, x_nil, x_cons, x_test, x_B, x_bl, x_call, x_CB, x_tup, x_lst, x_not, x_Eq, x_Ne, x_eqII, x_eqSS, x_eqBB,  x_and, x_or, x_andV, x_orV, x_notV, x_if, x_par, x_two, x_drop, x_BM, x_set0, x_setS, x_gcons, x_gnil, x_forL, x_forT, x_forR1, x_forR2, x_forE, x_ref, x_int1, x_oneI, x_oneB, x_noBI, x_twoI, false_or, x_sl, x_noP, x_part, true_and, List.append_nil, cxK]; try simp only [V.str.injEq, V.int.injEq, V.bl.injEq])
        refine x_seq.mpr ?_
        (try simp only [x_asg, x_name, x_sub, x_ret, x_next, x_ifS, x_ite, x_iteN, x_T, x_F, x_tT, x_tF, x_op, x_un, x_var0, x_varS, x_c, x_I0, x_I, x_rU, x_nil, x_cons, x_test, x_B, x_bl, x_call, x_CB, x_tup, x_lst, x_not, x_Eq, x_Ne, x_eqII, x_eqSS, x_eqBB,  x_and, x_or, x_andV, x_orV, x_notV, x_if, x_par, x_two, x_drop, x_BM, x_set0, x_setS, x_gcons, x_gnil, x_forL, x_forT, x_forR1, x_forR2, x_forE, x_ref, x_int1, x_oneI, x_oneB, x_noBI, x_twoI, false_or, x_sl, x_noP, x_part, true_and, List.append_nil, cxK]; try simp only [V.str.injEq, V.int.injEq, V.bl.injEq])
        have hwide : ∃ n : Int, (if 64 < 1 + b then 64 else 1 + b) = n ∧ 1 ≤ n ∧ n ≤ 64 := by
          refine ⟨_, rfl, ?_, ?_⟩ <;> split <;> omega
        obtain ⟨n, hn, n0, n1⟩ := hwide
        rw [hn]
        clear hn hv hm i0 i1 b0 b1 l0 l1
        have nb : n ≤ big := by unfold big; omega
        have nb1 : n + 1 ≤ big := by unfold big; omega
        have hu : ("u" : Str) = "u" ∨ ("u" : Str) = "s" := .inl rfl
        have hs : ("s" : Str) = "u" ∨ ("s" : Str) = "s" := .inr rfl
        -- digits
        refine x_seq.mpr ?_
        (try simp only [x_asg, x_name, x_sub, x_ret, x_next, x_ifS, x_ite, x_iteN, x_T, x_F, x_tT, x_tF, x_op, x_un, x_var0, x_varS, x_c, x_I0, x_I, x_rU, x_nil, x_cons, x_test, x_B, x_bl, x_call, x_CB, x_tup, x_lst, x_not, x_Eq, x_Ne, x_eqII, x_eqSS, x_eqBB,  x_and, x_or, x_andV, x_orV, x_notV, x_if, x_par, x_two, x_drop, x_BM, x_set0, x_setS, x_gcons, x_gnil, x_forL, x_forT, x_forR1, x_forR2, x_forE, x_ref, x_int1, x_oneI, x_oneB, x_noBI, x_twoI, false_or, x_sl, x_noP, x_part, true_and, List.append_nil, cxK]; try simp only [V.str.injEq, V.int.injEq, V.bl.injEq])
        refine ⟨x, n, rfl, by omega, by omega, fun p5 H5 np5 hp5 s5 => ?_⟩
        have R5 := R4.same s5
        -- plain, signed
        refine x_seq.mpr ?_
        (try simp only [x_asg, x_name, x_sub, x_ret, x_next, x_ifS, x_ite, x_iteN, x_T, x_F, x_tT, x_tF, x_op, x_un, x_var0, x_varS, x_c, x_I0, x_I, x_rU, x_nil, x_cons, x_test, x_B, x_bl, x_call, x_CB, x_tup, x_lst, x_not, x_Eq, x_Ne, x_eqII, x_eqSS, x_eqBB,  x_and, x_or, x_andV, x_orV, x_notV, x_if, x_par, x_two, x_drop, x_BM, x_set0, x_setS, x_gcons, x_gnil, x_forL, x_forT, x_forR1, x_forR2, x_forE, x_ref, x_int1, x_oneI, x_oneB, x_noBI, x_twoI, false_or, x_sl, x_noP, x_part, true_and, List.append_nil, cxK]; try simp only [V.str.injEq, V.int.injEq, V.bl.injEq])
        refine C1 hu n0 nb fun H6 s6 => ?_
        (try simp only [x_asg, x_name, x_sub, x_ret, x_next, x_ifS, x_ite, x_iteN, x_T, x_F, x_tT, x_tF, x_op, x_un, x_var0, x_varS, x_c, x_I0, x_I, x_rU, x_nil, x_cons, x_test, x_B, x_bl, x_call, x_CB, x_tup, x_lst, x_not, x_Eq, x_Ne, x_eqII, x_eqSS, x_eqBB,  x_and, x_or, x_andV, x_orV, x_notV, x_if, x_par, x_two, x_drop, x_BM, x_set0, x_setS, x_gcons, x_gnil, x_forL, x_forT, x_forR1, x_forR2, x_forE, x_ref, x_int1, x_oneI, x_oneB, x_noBI, x_twoI, false_or, x_sl, x_noP, x_part, true_and, List.append_nil, cxK]; try simp only [V.str.injEq, V.int.injEq, V.bl.injEq])
        refine C1 hs n0 nb fun H7 s7 => ?_
        (try simp only [x_asg, x_name, x_sub, x_ret, x_next, x_ifS, x_ite, x_iteN, x_T, x_F, x_tT, x_tF, x_op, x_un, x_var0, x_varS, x_c, x_I0, x_I, x_rU, x_nil, x_cons, x_test, x_B, x_bl, x_call, x_CB, x_tup, x_lst, x_not, x_Eq, x_Ne, x_eqII, x_eqSS, x_eqBB,  x_and, x_or, x_andV, x_orV, x_notV, x_if, x_par, x_two, x_drop, x_BM, x_set0, x_setS, x_gcons, x_gnil, x_forL, x_forT, x_forR1, x_forR2, x_forE, x_ref, x_int1, x_oneI, x_oneB, x_noBI, x_twoI, false_or, x_sl, x_noP, x_part, true_and, List.append_nil, cxK]; try simp only [V.str.injEq, V.int.injEq, V.bl.injEq])
        have hp7 := s7 _ _ (s6 _ _ hp5)
        have R7 := (R5.same s6).same s7
        have pl0 := cast_lo x "u" n
        have pl1 := cast_hi x "u" n
        have sg0 := cast_lo x "s" n
        have sg1 := cast_hi x "s" n
        rw [low_u] at pl0 pl1
        have wv : ∀ sg : Bool, valI x n.toNat sg = castI x (if sg = true then "s" else "u") n := fun sg => by
          unfold valI
          cases sg with
          | true => exact (signed_worth n0).symm
          | false => exact (worth_mod x _).trans (cast_u x n).symm
        have p64 : (2 : Int) ^ n.toNat ≤ 2 ^ 64 := two_le (by omega)
        have b64 : (2 : Int) ^ 64 = 18446744073709551616 := by decide
        have big4 : (10 : Int) ^ 400 > 100000000000000000000000000000000000000000 := by decide +kernel
        have sl : -18446744073709551616 ≤ lowI "s" n ∧ lowI "s" n ≤ 0 := by
          have := two_pos (n - 1).toNat
          have := half_two n0
          rw [low_s]
          omega
        have small2 : Rok (.list [.int (castI x "u" n), .int (castI x "s" n)]) := rokI2 (by omega) (by omega) (by omega) (by omega)
        -- repr
        refine x_seq.mpr ?_
        (try simp only [x_asg, x_name, x_sub, x_ret, x_next, x_ifS, x_ite, x_iteN, x_T, x_F, x_tT, x_tF, x_op, x_un, x_var0, x_varS, x_c, x_I0, x_I, x_rU, x_nil, x_cons, x_test, x_B, x_bl, x_call, x_CB, x_tup, x_lst, x_not, x_Eq, x_Ne, x_eqII, x_eqSS, x_eqBB,  x_and, x_or, x_andV, x_orV, x_notV, x_if, x_par, x_two, x_drop, x_BM, x_set0, x_setS, x_gcons, x_gnil, x_forL, x_forT, x_forR1, x_forR2, x_forE, x_ref, x_int1, x_oneI, x_oneB, x_noBI, x_twoI, false_or, x_sl, x_noP, x_part, true_and, List.append_nil, cxK]; try simp only [V.str.injEq, V.int.injEq, V.bl.injEq])
        refine ⟨by show 2 ≤ sizeLine; decide, fun p8 np8 => ?_⟩
        refine x_repD (dpI2 upd_same) small2 ?_
        (try simp only [x_asg, x_name, x_sub, x_ret, x_next, x_ifS, x_ite, x_iteN, x_T, x_F, x_tT, x_tF, x_op, x_un, x_var0, x_varS, x_c, x_I0, x_I, x_rU, x_nil, x_cons, x_test, x_B, x_bl, x_call, x_CB, x_tup, x_lst, x_not, x_Eq, x_Ne, x_eqII, x_eqSS, x_eqBB,  x_and, x_or, x_andV, x_orV, x_notV, x_if, x_par, x_two, x_drop, x_BM, x_set0, x_setS, x_gcons, x_gnil, x_forL, x_forT, x_forR1, x_forR2, x_forE, x_ref, x_int1, x_oneI, x_oneB, x_noBI, x_twoI, false_or, x_sl, x_noP, x_part, true_and, List.append_nil, cxK]; try simp only [V.str.injEq, V.int.injEq, V.bl.injEq])
        have s8 := same_new (o := .lst [.int (castI x "u" n), .int (castI x "s" n)]) np8
        generalize upd H7 p8 (.lst [.int (castI x "u" n), .int (castI x "s" n)]) = H8 at s8
        have hp8 := s8 _ _ hp7
        have R8 := R7.same s8
        refine ⟨p5, x, n.toNat, false, rfl, SqL.of hp8, by omega, by omega, fun H9 s9 => ?_⟩
        (try simp only [x_asg, x_name, x_sub, x_ret, x_next, x_ifS, x_ite, x_iteN, x_T, x_F, x_tT, x_tF, x_op, x_un, x_var0, x_varS, x_c, x_I0, x_I, x_rU, x_nil, x_cons, x_test, x_B, x_bl, x_call, x_CB, x_tup, x_lst, x_not, x_Eq, x_Ne, x_eqII, x_eqSS, x_eqBB,  x_and, x_or, x_andV, x_orV, x_notV, x_if, x_par, x_two, x_drop, x_BM, x_set0, x_setS, x_gcons, x_gnil, x_forL, x_forT, x_forR1, x_forR2, x_forE, x_ref, x_int1, x_oneI, x_oneB, x_noBI, x_twoI, false_or, x_sl, x_noP, x_part, true_and, List.append_nil, cxK]; try simp only [V.str.injEq, V.int.injEq, V.bl.injEq])
        refine ⟨p5, x, n.toNat, true, rfl, SqL.of (s9 _ _ hp8), by omega, by omega, fun H10 s10 => ?_⟩
        rw [wv, wv, if_pos rfl, if_neg (by decide)]
        (try simp only [x_asg, x_name, x_sub, x_ret, x_next, x_ifS, x_ite, x_iteN, x_T, x_F, x_tT, x_tF, x_op, x_un, x_var0, x_varS, x_c, x_I0, x_I, x_rU, x_nil, x_cons, x_test, x_B, x_bl, x_call, x_CB, x_tup, x_lst, x_not, x_Eq, x_Ne, x_eqII, x_eqSS, x_eqBB,  x_and, x_or, x_andV, x_orV, x_notV, x_if, x_par, x_two, x_drop, x_BM, x_set0, x_setS, x_gcons, x_gnil, x_forL, x_forT, x_forR1, x_forR2, x_forE, x_ref, x_int1, x_oneI, x_oneB, x_noBI, x_twoI, false_or, x_sl, x_noP, x_part, true_and, List.append_nil, cxK]; try simp only [V.str.injEq, V.int.injEq, V.bl.injEq])
        refine ⟨by show 2 ≤ sizeLine; decide, fun p11 np11 => ?_⟩
        refine x_repD (dpI2 upd_same) small2 ?_
        have R10 := (R8.same s9).same s10
        have s11 := same_new (o := .lst [.int (castI x "u" n), .int (castI x "s" n)]) np11
        generalize upd H10 p11 (.lst [.int (castI x "u" n), .int (castI x "s" n)]) = H11 at s11
        have R11 := R10.same s11
        (try simp only [x_asg, x_name, x_sub, x_ret, x_next, x_ifS, x_ite, x_iteN, x_T, x_F, x_tT, x_tF, x_op, x_un, x_var0, x_varS, x_c, x_I0, x_I, x_rU, x_nil, x_cons, x_test, x_B, x_bl, x_call, x_CB, x_tup, x_lst, x_not, x_Eq, x_Ne, x_eqII, x_eqSS, x_eqBB,  x_and, x_or, x_andV, x_orV, x_notV, x_if, x_par, x_two, x_drop, x_BM, x_set0, x_setS, x_gcons, x_gnil, x_forL, x_forT, x_forR1, x_forR2, x_forE, x_ref, x_int1, x_oneI, x_oneB, x_noBI, x_twoI, false_or, x_sl, x_noP, x_part, true_and, List.append_nil, cxK]; try simp only [V.str.injEq, V.int.injEq, V.bl.injEq])
        refine ⟨fun h => absurd trivial h, fun _ => ?_⟩
        -- fits, and the difference
        refine x_seq.mpr ?_
        (try simp only [x_asg, x_name, x_sub, x_ret, x_next, x_ifS, x_ite, x_iteN, x_T, x_F, x_tT, x_tF, x_op, x_un, x_var0, x_varS, x_c, x_I0, x_I, x_rU, x_nil, x_cons, x_test, x_B, x_bl, x_call, x_CB, x_tup, x_lst, x_not, x_Eq, x_Ne, x_eqII, x_eqSS, x_eqBB,  x_and, x_or, x_andV, x_orV, x_notV, x_if, x_par, x_two, x_drop, x_BM, x_set0, x_setS, x_gcons, x_gnil, x_forL, x_forT, x_forR1, x_forR2, x_forE, x_ref, x_int1, x_oneI, x_oneB, x_noBI, x_twoI, false_or, x_sl, x_noP, x_part, true_and, List.append_nil, cxK]; try simp only [V.str.injEq, V.int.injEq, V.bl.injEq])
        refine ⟨_, _, _, rfl, isC1 hu n0, nb, fun H12 s12 => ?_⟩
        rw [decide_eq_true (cast_fix (x := castI x "u" n) (by rw [low_u]; exact pl0) (by rw [low_u]; exact pl1))]
        (try simp only [x_asg, x_name, x_sub, x_ret, x_next, x_ifS, x_ite, x_iteN, x_T, x_F, x_tT, x_tF, x_op, x_un, x_var0, x_varS, x_c, x_I0, x_I, x_rU, x_nil, x_cons, x_test, x_B, x_bl, x_call, x_CB, x_tup, x_lst, x_not, x_Eq, x_Ne, x_eqII, x_eqSS, x_eqBB,  x_and, x_or, x_andV, x_orV, x_notV, x_if, x_par, x_two, x_drop, x_BM, x_set0, x_setS, x_gcons, x_gnil, x_forL, x_forT, x_forR1, x_forR2, x_forE, x_ref, x_int1, x_oneI, x_oneB, x_noBI, x_twoI, false_or, x_sl, x_noP, x_part, true_and, List.append_nil, cxK]; try simp only [V.str.injEq, V.int.injEq, V.bl.injEq])
        refine ⟨_, _, _, rfl, isC1 hs n0, nb, fun H13 s13 => ?_⟩
        rw [decide_eq_true (cast_fix (x := castI x "s" n) sg0 sg1)]
        (try simp only [x_asg, x_name, x_sub, x_ret, x_next, x_ifS, x_ite, x_iteN, x_T, x_F, x_tT, x_tF, x_op, x_un, x_var0, x_varS, x_c, x_I0, x_I, x_rU, x_nil, x_cons, x_test, x_B, x_bl, x_call, x_CB, x_tup, x_lst, x_not, x_Eq, x_Ne, x_eqII, x_eqSS, x_eqBB,  x_and, x_or, x_andV, x_orV, x_notV, x_if, x_par, x_two, x_drop, x_BM, x_set0, x_setS, x_gcons, x_gnil, x_forL, x_forT, x_forR1, x_forR2, x_forE, x_ref, x_int1, x_oneI, x_oneB, x_noBI, x_twoI, false_or, x_sl, x_noP, x_part, true_and, List.append_nil, cxK]; try simp only [V.str.injEq, V.int.injEq, V.bl.injEq])
        refine ⟨n, rfl, by omega, by omega, ?_⟩
        (try simp only [x_asg, x_name, x_sub, x_ret, x_next, x_ifS, x_ite, x_iteN, x_T, x_F, x_tT, x_tF, x_op, x_un, x_var0, x_varS, x_c, x_I0, x_I, x_rU, x_nil, x_cons, x_test, x_B, x_bl, x_call, x_CB, x_tup, x_lst, x_not, x_Eq, x_Ne, x_eqII, x_eqSS, x_eqBB,  x_and, x_or, x_andV, x_orV, x_notV, x_if, x_par, x_two, x_drop, x_BM, x_set0, x_setS, x_gcons, x_gnil, x_forL, x_forT, x_forR1, x_forR2, x_forE, x_ref, x_int1, x_oneI, x_oneB, x_noBI, x_twoI, false_or, x_sl, x_noP, x_part, true_and, List.append_nil, cxK]; try simp only [V.str.injEq, V.int.injEq, V.bl.injEq])
        refine ⟨two_pos _, fun h => absurd ?_ h, fun _ => ?_⟩
        · exact Int.emod_eq_emod_iff_emod_sub_eq_zero.mp ((cast_mod x "u" n).trans (cast_mod x "s" n).symm)
        have R13 := (R11.same s12).same s13
        -- one bit more
        refine x_seq.mpr ?_
        (try simp only [x_asg, x_name, x_sub, x_ret, x_next, x_ifS, x_ite, x_iteN, x_T, x_F, x_tT, x_tF, x_op, x_un, x_var0, x_varS, x_c, x_I0, x_I, x_rU, x_nil, x_cons, x_test, x_B, x_bl, x_call, x_CB, x_tup, x_lst, x_not, x_Eq, x_Ne, x_eqII, x_eqSS, x_eqBB,  x_and, x_or, x_andV, x_orV, x_notV, x_if, x_par, x_two, x_drop, x_BM, x_set0, x_setS, x_gcons, x_gnil, x_forL, x_forT, x_forR1, x_forR2, x_forE, x_ref, x_int1, x_oneI, x_oneB, x_noBI, x_twoI, false_or, x_sl, x_noP, x_part, true_and, List.append_nil, cxK]; try simp only [V.str.injEq, V.int.injEq, V.bl.injEq])
        refine joinI (fun H' => RngAt H' r (lap * 100 + 7 + j * 10 + 1 + 1)) R13 (fun H16 R16 => ?_) (fun _ tail => ?_)
        rotate_left
        · refine ⟨_, _, _, rfl, isC1 hs (by omega), nb1, fun H14 s14 => ?_⟩
          rw [decide_eq_true (fits_in (x := x) (w' := "u") hu n0)]
          (try simp only [x_asg, x_name, x_sub, x_ret, x_next, x_ifS, x_ite, x_iteN, x_T, x_F, x_tT, x_tF, x_op, x_un, x_var0, x_varS, x_c, x_I0, x_I, x_rU, x_nil, x_cons, x_test, x_B, x_bl, x_call, x_CB, x_tup, x_lst, x_not, x_Eq, x_Ne, x_eqII, x_eqSS, x_eqBB,  x_and, x_or, x_andV, x_orV, x_notV, x_if, x_par, x_two, x_drop, x_BM, x_set0, x_setS, x_gcons, x_gnil, x_forL, x_forT, x_forR1, x_forR2, x_forE, x_ref, x_int1, x_oneI, x_oneB, x_noBI, x_twoI, false_or, x_sl, x_noP, x_part, true_and, List.append_nil, cxK]; try simp only [V.str.injEq, V.int.injEq, V.bl.injEq])
          refine ⟨_, _, _, rfl, isC1 hs (by omega), nb1, fun H15 s15 => ?_⟩
          rw [decide_eq_true (fits_in (x := x) (w' := "s") hs n0)]
          (try simp only [x_asg, x_name, x_sub, x_ret, x_next, x_ifS, x_ite, x_iteN, x_T, x_F, x_tT, x_tF, x_op, x_un, x_var0, x_varS, x_c, x_I0, x_I, x_rU, x_nil, x_cons, x_test, x_B, x_bl, x_call, x_CB, x_tup, x_lst, x_not, x_Eq, x_Ne, x_eqII, x_eqSS, x_eqBB,  x_and, x_or, x_andV, x_orV, x_notV, x_if, x_par, x_two, x_drop, x_BM, x_set0, x_setS, x_gcons, x_gnil, x_forL, x_forT, x_forR1, x_forR2, x_forE, x_ref, x_int1, x_oneI, x_oneB, x_noBI, x_twoI, false_or, x_sl, x_noP, x_part, true_and, List.append_nil, cxK]; try simp only [V.str.injEq, V.int.injEq, V.bl.injEq])
          exact tail H15 ((R13.same s14).same s15)
        -- more
        refine x_seq.mpr ?_
        (try simp only [x_asg, x_name, x_sub, x_ret, x_next, x_ifS, x_ite, x_iteN, x_T, x_F, x_tT, x_tF, x_op, x_un, x_var0, x_varS, x_c, x_I0, x_I, x_rU, x_nil, x_cons, x_test, x_B, x_bl, x_call, x_CB, x_tup, x_lst, x_not, x_Eq, x_Ne, x_eqII, x_eqSS, x_eqBB,  x_and, x_or, x_andV, x_orV, x_notV, x_if, x_par, x_two, x_drop, x_BM, x_set0, x_setS, x_gcons, x_gnil, x_forL, x_forT, x_forR1, x_forR2, x_forE, x_ref, x_int1, x_oneI, x_oneB, x_noBI, x_twoI, false_or, x_sl, x_noP, x_part, true_and, List.append_nil, cxK]; try simp only [V.str.injEq, V.int.injEq, V.bl.injEq])
        refine ⟨n, rfl, by omega, by omega, ?_⟩
        (try simp only [x_asg, x_name, x_sub, x_ret, x_next, x_ifS, x_ite, x_iteN, x_T, x_F, x_tT, x_tF, x_op, x_un, x_var0, x_varS, x_c, x_I0, x_I, x_rU, x_nil, x_cons, x_test, x_B, x_bl, x_call, x_CB, x_tup, x_lst, x_not, x_Eq, x_Ne, x_eqII, x_eqSS, x_eqBB,  x_and, x_or, x_andV, x_orV, x_notV, x_if, x_par, x_two, x_drop, x_BM, x_set0, x_setS, x_gcons, x_gnil, x_forL, x_forT, x_forR1, x_forR2, x_forE, x_ref, x_int1, x_oneI, x_oneB, x_noBI, x_twoI, false_or, x_sl, x_noP, x_part, true_and, List.append_nil, cxK]; try simp only [V.str.injEq, V.int.injEq, V.bl.injEq])
        refine ⟨two_pos _, ?_⟩
        refine ⟨n, rfl, by omega, by omega, ?_⟩
        (try simp only [x_asg, x_name, x_sub, x_ret, x_next, x_ifS, x_ite, x_iteN, x_T, x_F, x_tT, x_tF, x_op, x_un, x_var0, x_varS, x_c, x_I0, x_I, x_rU, x_nil, x_cons, x_test, x_B, x_bl, x_call, x_CB, x_tup, x_lst, x_not, x_Eq, x_Ne, x_eqII, x_eqSS, x_eqBB,  x_and, x_or, x_andV, x_orV, x_notV, x_if, x_par, x_two, x_drop, x_BM, x_set0, x_setS, x_gcons, x_gnil, x_forL, x_forT, x_forR1, x_forR2, x_forE, x_ref, x_int1, x_oneI, x_oneB, x_noBI, x_twoI, false_or, x_sl, x_noP, x_part, true_and, List.append_nil, cxK]; try simp only [V.str.injEq, V.int.injEq, V.bl.injEq])
        refine ⟨r, 9, _, rfl, R16, by omega, by omega, by decide, fun d H17 d0 d1 R17 o17 => ?_⟩
        (try simp only [x_asg, x_name, x_sub, x_ret, x_next, x_ifS, x_ite, x_iteN, x_T, x_F, x_tT, x_tF, x_op, x_un, x_var0, x_varS, x_c, x_I0, x_I, x_rU, x_nil, x_cons, x_test, x_B, x_bl, x_call, x_CB, x_tup, x_lst, x_not, x_Eq, x_Ne, x_eqII, x_eqSS, x_eqBB,  x_and, x_or, x_andV, x_orV, x_notV, x_if, x_par, x_two, x_drop, x_BM, x_set0, x_setS, x_gcons, x_gnil, x_forL, x_forT, x_forR1, x_forR2, x_forE, x_ref, x_int1, x_oneI, x_oneB, x_noBI, x_twoI, false_or, x_sl, x_noP, x_part, true_and, List.append_nil, cxK]; try simp only [V.str.injEq, V.int.injEq, V.bl.injEq])
        refine ⟨wide_mul (a := 100) (b := 10) (pow2_abs (by omega)) (by omega) (by omega) (by omega) (by omega), ?_⟩
        generalize hmore : x % 2 ^ n.toNat + 2 ^ n.toNat * (d - 4) = more
        have mm : more % 2 ^ n.toNat = x % 2 ^ n.toNat := by
          rw [← hmore, Int.add_mul_emod_self_left, Int.emod_emod_of_dvd _ (Int.dvd_refl _)]
        refine x_seq.mpr ?_
        (try simp only [x_asg, x_name, x_sub, x_ret, x_next, x_ifS, x_ite, x_iteN, x_T, x_F, x_tT, x_tF, x_op, x_un, x_var0, x_varS, x_c, x_I0, x_I, x_rU, x_nil, x_cons, x_test, x_B, x_bl, x_call, x_CB, x_tup, x_lst, x_not, x_Eq, x_Ne, x_eqII, x_eqSS, x_eqBB,  x_and, x_or, x_andV, x_orV, x_notV, x_if, x_par, x_two, x_drop, x_BM, x_set0, x_setS, x_gcons, x_gnil, x_forL, x_forT, x_forR1, x_forR2, x_forE, x_ref, x_int1, x_oneI, x_oneB, x_noBI, x_twoI, false_or, x_sl, x_noP, x_part, true_and, List.append_nil, cxK]; try simp only [V.str.injEq, V.int.injEq, V.bl.injEq])
        refine C1 hu n0 nb fun H18 s18 => ?_
        (try simp only [x_asg, x_name, x_sub, x_ret, x_next, x_ifS, x_ite, x_iteN, x_T, x_F, x_tT, x_tF, x_op, x_un, x_var0, x_varS, x_c, x_I0, x_I, x_rU, x_nil, x_cons, x_test, x_B, x_bl, x_call, x_CB, x_tup, x_lst, x_not, x_Eq, x_Ne, x_eqII, x_eqSS, x_eqBB,  x_and, x_or, x_andV, x_orV, x_notV, x_if, x_par, x_two, x_drop, x_BM, x_set0, x_setS, x_gcons, x_gnil, x_forL, x_forT, x_forR1, x_forR2, x_forE, x_ref, x_int1, x_oneI, x_oneB, x_noBI, x_twoI, false_or, x_sl, x_noP, x_part, true_and, List.append_nil, cxK]; try simp only [V.str.injEq, V.int.injEq, V.bl.injEq])
        refine C1 hs n0 nb fun H19 s19 => ?_
        rw [cast_same mm, cast_same mm]
        (try simp only [x_asg, x_name, x_sub, x_ret, x_next, x_ifS, x_ite, x_iteN, x_T, x_F, x_tT, x_tF, x_op, x_un, x_var0, x_varS, x_c, x_I0, x_I, x_rU, x_nil, x_cons, x_test, x_B, x_bl, x_call, x_CB, x_tup, x_lst, x_not, x_Eq, x_Ne, x_eqII, x_eqSS, x_eqBB,  x_and, x_or, x_andV, x_orV, x_notV, x_if, x_par, x_two, x_drop, x_BM, x_set0, x_setS, x_gcons, x_gnil, x_forL, x_forT, x_forR1, x_forR2, x_forE, x_ref, x_int1, x_oneI, x_oneB, x_noBI, x_twoI, false_or, x_sl, x_noP, x_part, true_and, List.append_nil, cxK]; try simp only [V.str.injEq, V.int.injEq, V.bl.injEq])
        refine ⟨by show 2 ≤ sizeLine; decide, fun p20 np20 => ⟨by show 2 ≤ sizeLine; decide, fun p21 np21 => ?_⟩⟩
        have ne20 : p20 ≠ p21 := ne_of_none upd_same np21
        refine ⟨_, _, dpI2 (by rw [upd_ne ne20, upd_same]), dpI2 upd_same, rfl, rfl, ?_⟩
        rw [SeqAt.eqv_refl _ (by simp [PyData.canLay0, PyData.canLayAll0])]
        (try simp only [x_asg, x_name, x_sub, x_ret, x_next, x_ifS, x_ite, x_iteN, x_T, x_F, x_tT, x_tF, x_op, x_un, x_var0, x_varS, x_c, x_I0, x_I, x_rU, x_nil, x_cons, x_test, x_B, x_bl, x_call, x_CB, x_tup, x_lst, x_not, x_Eq, x_Ne, x_eqII, x_eqSS, x_eqBB,  x_and, x_or, x_andV, x_orV, x_notV, x_if, x_par, x_two, x_drop, x_BM, x_set0, x_setS, x_gcons, x_gnil, x_forL, x_forT, x_forR1, x_forR2, x_forE, x_ref, x_int1, x_oneI, x_oneB, x_noBI, x_twoI, false_or, x_sl, x_noP, x_part, true_and, List.append_nil, cxK]; try simp only [V.str.injEq, V.int.injEq, V.bl.injEq])
        have R21 := ((R17.same s18).same s19).same ((same_new (o := .lst [.int (castI x "u" n), .int (castI x "s" n)]) np20).trans (same_new (o := .lst [.int (castI x "u" n), .int (castI x "s" n)]) np21))
        generalize upd (upd H19 p20 (.lst [.int (castI x "u" n), .int (castI x "s" n)])) p21 (.lst [.int (castI x "u" n), .int (castI x "s" n)]) = H21 at R21
        -- other
        refine x_seq.mpr ?_
        (try simp only [x_asg, x_name, x_sub, x_ret, x_next, x_ifS, x_ite, x_iteN, x_T, x_F, x_tT, x_tF, x_op, x_un, x_var0, x_varS, x_c, x_I0, x_I, x_rU, x_nil, x_cons, x_test, x_B, x_bl, x_call, x_CB, x_tup, x_lst, x_not, x_Eq, x_Ne, x_eqII, x_eqSS, x_eqBB,  x_and, x_or, x_andV, x_orV, x_notV, x_if, x_par, x_two, x_drop, x_BM, x_set0, x_setS, x_gcons, x_gnil, x_forL, x_forT, x_forR1, x_forR2, x_forE, x_ref, x_int1, x_oneI, x_oneB, x_noBI, x_twoI, false_or, x_sl, x_noP, x_part, true_and, List.append_nil, cxK]; try simp only [V.str.injEq, V.int.injEq, V.bl.injEq])
        refine ⟨r, 65 - n, _, rfl, R21, by omega, by omega, Int.lt_of_le_of_lt (show 65 - n ≤ 64 by omega) (by decide), fun e H22 e0 e1 R22 o22 => ?_⟩
        (try simp only [x_asg, x_name, x_sub, x_ret, x_next, x_ifS, x_ite, x_iteN, x_T, x_F, x_tT, x_tF, x_op, x_un, x_var0, x_varS, x_c, x_I0, x_I, x_rU, x_nil, x_cons, x_test, x_B, x_bl, x_call, x_CB, x_tup, x_lst, x_not, x_Eq, x_Ne, x_eqII, x_eqSS, x_eqBB,  x_and, x_or, x_andV, x_orV, x_notV, x_if, x_par, x_two, x_drop, x_BM, x_set0, x_setS, x_gcons, x_gnil, x_forL, x_forT, x_forR1, x_forR2, x_forE, x_ref, x_int1, x_oneI, x_oneB, x_noBI, x_twoI, false_or, x_sl, x_noP, x_part, true_and, List.append_nil, cxK]; try simp only [V.str.injEq, V.int.injEq, V.bl.injEq])
        have ob : n + e ≤ big := by unfold big; omega
        refine ⟨by show 2 ≤ sizeLine; decide, fun p23 np23 => ?_⟩
        refine ⟨⟨_, SqL.of upd_same⟩, ?_⟩
        have R23 := R22.new (o := .lst [.str "u", .str "s"]) np23
        refine lpL (xs := [.str "u", .str "s"]) (fun k σ H' => (∃ y4 y6 y11, σ = [some (.ref a), some (.ref r), y2, some (.int x), y4, some (.int n), y6, some (.int (castI x "u" n)), some (.int (castI x "s" n)), some (.int more), some (.int (n + e)), y11]) ∧ RngAt H' r (lap * 100 + 7 + j * 10 + 1 + 1 + 1 + 1) ∧ H' p23 = some (.lst [.str "u", .str "s"]))
          ⟨⟨_, _, _, rfl⟩, R23, upd_same⟩ (fun k σ H' _ h => SqL.of h.2.2) (fun k z σ H' hz h => ?_) (fun σ H' h => ?_)
        · obtain ⟨⟨y4, y6, y11, rfl⟩, RK, hpk⟩ := h
          obtain ⟨v, rfl, hv⟩ : ∃ v : Str, z = .str v ∧ (v = "u" ∨ v = "s") := by
            have hm := List.mem_of_getElem? hz
            simp only [List.mem_cons, List.not_mem_nil, or_false] at hm
            rcases hm with rfl | rfl
            · exact ⟨_, rfl, .inl rfl⟩
            · exact ⟨_, rfl, .inr rfl⟩
          (try simp only [x_asg, x_name, x_sub, x_ret, x_next, x_ifS, x_ite, x_iteN, x_T, x_F, x_tT, x_tF, x_op, x_un, x_var0, x_varS, x_c, x_I0, x_I, x_rU, x_nil, x_cons, x_test, x_B, x_bl, x_call, x_CB, x_tup, x_lst, x_not, x_Eq, x_Ne, x_eqII, x_eqSS, x_eqBB,  x_and, x_or, x_andV, x_orV, x_notV, x_if, x_par, x_two, x_drop, x_BM, x_set0, x_setS, x_gcons, x_gnil, x_forL, x_forT, x_forR1, x_forR2, x_forE, x_ref, x_int1, x_oneI, x_oneB, x_noBI, x_twoI, false_or, x_sl, x_noP, x_part, true_and, List.append_nil, cxK]; try simp only [V.str.injEq, V.int.injEq, V.bl.injEq])
          refine x_seq.mpr ?_
          (try simp only [x_asg, x_name, x_sub, x_ret, x_next, x_ifS, x_ite, x_iteN, x_T, x_F, x_tT, x_tF, x_op, x_un, x_var0, x_varS, x_c, x_I0, x_I, x_rU, x_nil, x_cons, x_test, x_B, x_bl, x_call, x_CB, x_tup, x_lst, x_not, x_Eq, x_Ne, x_eqII, x_eqSS, x_eqBB,  x_and, x_or, x_andV, x_orV, x_notV, x_if, x_par, x_two, x_drop, x_BM, x_set0, x_setS, x_gcons, x_gnil, x_forL, x_forT, x_forR1, x_forR2, x_forE, x_ref, x_int1, x_oneI, x_oneB, x_noBI, x_twoI, false_or, x_sl, x_noP, x_part, true_and, List.append_nil, cxK]; try simp only [V.str.injEq, V.int.injEq, V.bl.injEq])
          refine C2 hu n0 nb hv (by omega) ob fun H24 s24 => ?_
          rw [cast_cast (show n ≤ n + e by omega)]
          (try simp only [x_asg, x_name, x_sub, x_ret, x_next, x_ifS, x_ite, x_iteN, x_T, x_F, x_tT, x_tF, x_op, x_un, x_var0, x_varS, x_c, x_I0, x_I, x_rU, x_nil, x_cons, x_test, x_B, x_bl, x_call, x_CB, x_tup, x_lst, x_not, x_Eq, x_Ne, x_eqII, x_eqSS, x_eqBB,  x_and, x_or, x_andV, x_orV, x_notV, x_if, x_par, x_two, x_drop, x_BM, x_set0, x_setS, x_gcons, x_gnil, x_forL, x_forT, x_forR1, x_forR2, x_forE, x_ref, x_int1, x_oneI, x_oneB, x_noBI, x_twoI, false_or, x_sl, x_noP, x_part, true_and, List.append_nil, cxK]; try simp only [V.str.injEq, V.int.injEq, V.bl.injEq])
          refine ⟨fun h => absurd trivial h, fun _ => ?_⟩
          refine C3 hs n0 nb hv (by omega) ob hs n0 nb fun H25 s25 => ?_
          rw [cast_cast (show n ≤ n + e by omega), cast_cast (Int.le_refl n)]
          (try simp only [x_asg, x_name, x_sub, x_ret, x_next, x_ifS, x_ite, x_iteN, x_T, x_F, x_tT, x_tF, x_op, x_un, x_var0, x_varS, x_c, x_I0, x_I, x_rU, x_nil, x_cons, x_test, x_B, x_bl, x_call, x_CB, x_tup, x_lst, x_not, x_Eq, x_Ne, x_eqII, x_eqSS, x_eqBB,  x_and, x_or, x_andV, x_orV, x_notV, x_if, x_par, x_two, x_drop, x_BM, x_set0, x_setS, x_gcons, x_gnil, x_forL, x_forT, x_forR1, x_forR2, x_forE, x_ref, x_int1, x_oneI, x_oneB, x_noBI, x_twoI, false_or, x_sl, x_noP, x_part, true_and, List.append_nil, cxK]; try simp only [V.str.injEq, V.int.injEq, V.bl.injEq])
          refine ⟨fun h => absurd trivial h, fun _ => ?_⟩
          exact ⟨⟨_, _, _, rfl⟩, (RK.same s24).same s25, s25 _ _ (s24 _ _ hpk)⟩
        · obtain ⟨⟨y4', y6', y11', rfl⟩, RK, _⟩ := h
          exact ⟨⟨_, _, _, _, _, _, _, _, _, rfl⟩, RK.up (by omega)⟩
      · obtain ⟨⟨y2, y4, y5, y6, y7, y8, y9, y10, y11, rfl⟩, RJ⟩ := h
        exact ⟨⟨_, _, _, _, _, _, _, _, _, _, rfl⟩, RJ.up (by show lap * 100 + 7 + 4 * 10 ≤ _; omega)⟩
    · obtain ⟨⟨y2, y3, y4, y5, y6, y7, y8, y9, y10, y11, rfl⟩, RL⟩ := h
      (try simp only [x_asg, x_name, x_sub, x_ret, x_next, x_ifS, x_ite, x_iteN, x_T, x_F, x_tT, x_tF, x_op, x_un, x_var0, x_varS, x_c, x_I0, x_I, x_rU, x_nil, x_cons, x_test, x_B, x_bl, x_call, x_CB, x_tup, x_lst, x_not, x_Eq, x_Ne, x_eqII, x_eqSS, x_eqBB,  x_and, x_or, x_andV, x_orV, x_notV, x_if, x_par, x_two, x_drop, x_BM, x_set0, x_setS, x_gcons, x_gnil, x_forL, x_forT, x_forR1, x_forR2, x_forE, x_ref, x_int1, x_oneI, x_oneB, x_noBI, x_twoI, false_or, x_sl, x_noP, x_part, true_and, List.append_nil, cxK]; try simp only [V.str.injEq, V.int.injEq, V.bl.injEq])
      refine C2 (.inl rfl) (by omega) (by unfold big; omega) (.inr rfl) (by omega) (by unfold big; omega) fun H2 s2 => ?_
      rw [show castI (castI 200 "s" 8) "u" 16 = 65480 by decide +kernel]
      (try simp only [x_asg, x_name, x_sub, x_ret, x_next, x_ifS, x_ite, x_iteN, x_T, x_F, x_tT, x_tF, x_op, x_un, x_var0, x_varS, x_c, x_I0, x_I, x_rU, x_nil, x_cons, x_test, x_B, x_bl, x_call, x_CB, x_tup, x_lst, x_not, x_Eq, x_Ne, x_eqII, x_eqSS, x_eqBB,  x_and, x_or, x_andV, x_orV, x_notV, x_if, x_par, x_two, x_drop, x_BM, x_set0, x_setS, x_gcons, x_gnil, x_forL, x_forT, x_forR1, x_forR2, x_forE, x_ref, x_int1, x_oneI, x_oneB, x_noBI, x_twoI, false_or, x_sl, x_noP, x_part, true_and, List.append_nil, cxK]; try simp only [V.str.injEq, V.int.injEq, V.bl.injEq])
      exact q _
theorem all_pr (T_is_cast : Tx K mg "is_cast" s_is_cast) (T_check_chain : Tx K mg "check_chain" s_check_chain) (T_lowest_result : Tx K mg "lowest_result" s_lowest_result) (T_cast : Tx K mg "cast" s_cast) (T_after_step : Tx K mg "after_step" s_after_step)
    (T_converted : Tx K mg "converted" s_converted) (T_fits : Tx K mg "fits" s_fits) (T_rng : Tx K mg "_law_rng" s_law_rng) (T_draw : Tx K mg "_law_draw" s_law_draw) (T_two : Tx K mg "_law_two" s_law_two) (T_any : Tx K mg "_law_any" s_law_any)
    (T_digits : Tx K mg "_law_digits" s_law_digits) (T_value : Tx K mg "_law_value" s_law_value)
    (m_enumerate : mg "enumerate" = none) (m_abs : mg "abs" = none) (m_range : mg "range" = none) (m_min : mg "min" = none) (m_int : mg "int" = none) (m_len : mg "len" = none) (m_repr : mg "repr" = none) :
    PrAt P w K mg base CX0 5 "law" s_law ["script"] (spLaw K) := by
  have h_draw := p_draw (P := P) (w := w) (base := base) T_draw
  have h_two := p_two (P := P) (w := w) (base := base) T_two m_range
  have h_is := p_is_cast (P := P) (w := w) (base := base) T_is_cast
  have h_cast := p_cast T_cast (p_lowest_result (P := P) (w := w) (base := base) T_lowest_result)
  exact p_law m_range m_min m_len m_repr (p_rng T_rng m_abs) h_draw h_two (p_any T_any m_min h_two h_draw) (p_digits T_digits m_range) (p_value T_value m_enumerate m_int m_len)
    (p_converted0 T_converted (p_check_chain0 T_check_chain m_enumerate h_is) (p_after_step T_after_step h_cast)) (p_fits0 T_fits h_is h_cast)
end

theorem all_mk {l : PySem.W.OpenLaw} {w : World} {K : PySem.W.Frag} {h : Heap} {mg : Str → Option Value} {fa : Addr} (X : K.In h) (G : h.Ns mainGlobals mg) (hfa : mg "law" = some (.ref fa))
    {f0 : Addr} {oc0 kV0 dc0 pm0 cd0 ct0 : Value} {od0 an0 : Option Addr} {sl0 : Array (Option Value)}
    {f1 : Addr} {oc1 kV1 dc1 pm1 cd1 ct1 : Value} {od1 an1 : Option Addr} {sl1 : Array (Option Value)}
    {f2 : Addr} {oc2 kV2 dc2 pm2 cd2 ct2 : Value} {od2 an2 : Option Addr} {sl2 : Array (Option Value)}
    {f3 : Addr} {oc3 kV3 dc3 pm3 cd3 ct3 : Value} {od3 an3 : Option Addr} {sl3 : Array (Option Value)}
    {f4 : Addr} {oc4 kV4 dc4 pm4 cd4 ct4 : Value} {od4 an4 : Option Addr} {sl4 : Array (Option Value)}
    {f5 : Addr} {oc5 kV5 dc5 pm5 cd5 ct5 : Value} {od5 an5 : Option Addr} {sl5 : Array (Option Value)}
    {f6 : Addr} {oc6 kV6 dc6 pm6 cd6 ct6 : Value} {od6 an6 : Option Addr} {sl6 : Array (Option Value)}
    {f7 : Addr} {oc7 kV7 dc7 pm7 cd7 ct7 : Value} {od7 an7 : Option Addr} {sl7 : Array (Option Value)}
    {f8 : Addr} {oc8 kV8 dc8 pm8 cd8 ct8 : Value} {od8 an8 : Option Addr} {sl8 : Array (Option Value)}
    {f9 : Addr} {oc9 kV9 dc9 pm9 cd9 ct9 : Value} {od9 an9 : Option Addr} {sl9 : Array (Option Value)}
    {f10 : Addr} {oc10 kV10 dc10 pm10 cd10 ct10 : Value} {od10 an10 : Option Addr} {sl10 : Array (Option Value)}
    {f11 : Addr} {oc11 kV11 dc11 pm11 cd11 ct11 : Value} {od11 an11 : Option Addr} {sl11 : Array (Option Value)}
    {f12 : Addr} {oc12 kV12 dc12 pm12 cd12 ct12 : Value} {od12 an12 : Option Addr} {sl12 : Array (Option Value)}
    {f13 : Addr} {oc13 kV13 dc13 pm13 cd13 ct13 : Value} {od13 an13 : Option Addr} {sl13 : Array (Option Value)}
    (a0 : PySem.W.nsIn K mainGlobals "is_cast" = some (some (.ref f0))) (l0 : K.lookup f0 = some ⟨oc0, od0, .func (PySem.W.fnOf "is_cast" "is_cast" (defArgs s_is_cast) (defBody s_is_cast) (defScope s_is_cast) .none kV0 dc0 pm0 an0 cd0 ct0), sl0⟩) (c0 : PySem.W.codeIn K cd0 "is_cast" = true) (k0 : PySem.W.keepIn K (.ref f0) = true)
    (a1 : PySem.W.nsIn K mainGlobals "check_chain" = some (some (.ref f1))) (l1 : K.lookup f1 = some ⟨oc1, od1, .func (PySem.W.fnOf "check_chain" "check_chain" (defArgs s_check_chain) (defBody s_check_chain) (defScope s_check_chain) .none kV1 dc1 pm1 an1 cd1 ct1), sl1⟩) (c1 : PySem.W.codeIn K cd1 "check_chain" = true) (k1 : PySem.W.keepIn K (.ref f1) = true)
    (a2 : PySem.W.nsIn K mainGlobals "lowest_result" = some (some (.ref f2))) (l2 : K.lookup f2 = some ⟨oc2, od2, .func (PySem.W.fnOf "lowest_result" "lowest_result" (defArgs s_lowest_result) (defBody s_lowest_result) (defScope s_lowest_result) .none kV2 dc2 pm2 an2 cd2 ct2), sl2⟩) (c2 : PySem.W.codeIn K cd2 "lowest_result" = true) (k2 : PySem.W.keepIn K (.ref f2) = true)
    (a3 : PySem.W.nsIn K mainGlobals "cast" = some (some (.ref f3))) (l3 : K.lookup f3 = some ⟨oc3, od3, .func (PySem.W.fnOf "cast" "cast" (defArgs s_cast) (defBody s_cast) (defScope s_cast) .none kV3 dc3 pm3 an3 cd3 ct3), sl3⟩) (c3 : PySem.W.codeIn K cd3 "cast" = true) (k3 : PySem.W.keepIn K (.ref f3) = true)
    (a4 : PySem.W.nsIn K mainGlobals "after_step" = some (some (.ref f4))) (l4 : K.lookup f4 = some ⟨oc4, od4, .func (PySem.W.fnOf "after_step" "after_step" (defArgs s_after_step) (defBody s_after_step) (defScope s_after_step) .none kV4 dc4 pm4 an4 cd4 ct4), sl4⟩) (c4 : PySem.W.codeIn K cd4 "after_step" = true) (k4 : PySem.W.keepIn K (.ref f4) = true)
    (a5 : PySem.W.nsIn K mainGlobals "converted" = some (some (.ref f5))) (l5 : K.lookup f5 = some ⟨oc5, od5, .func (PySem.W.fnOf "converted" "converted" (defArgs s_converted) (defBody s_converted) (defScope s_converted) .none kV5 dc5 pm5 an5 cd5 ct5), sl5⟩) (c5 : PySem.W.codeIn K cd5 "converted" = true) (k5 : PySem.W.keepIn K (.ref f5) = true)
    (a6 : PySem.W.nsIn K mainGlobals "fits" = some (some (.ref f6))) (l6 : K.lookup f6 = some ⟨oc6, od6, .func (PySem.W.fnOf "fits" "fits" (defArgs s_fits) (defBody s_fits) (defScope s_fits) .none kV6 dc6 pm6 an6 cd6 ct6), sl6⟩) (c6 : PySem.W.codeIn K cd6 "fits" = true) (k6 : PySem.W.keepIn K (.ref f6) = true)
    (a7 : PySem.W.nsIn K mainGlobals "_law_rng" = some (some (.ref f7))) (l7 : K.lookup f7 = some ⟨oc7, od7, .func (PySem.W.fnOf "_law_rng" "_law_rng" (defArgs s_law_rng) (defBody s_law_rng) (defScope s_law_rng) .none kV7 dc7 pm7 an7 cd7 ct7), sl7⟩) (c7 : PySem.W.codeIn K cd7 "_law_rng" = true) (k7 : PySem.W.keepIn K (.ref f7) = true)
    (a8 : PySem.W.nsIn K mainGlobals "_law_draw" = some (some (.ref f8))) (l8 : K.lookup f8 = some ⟨oc8, od8, .func (PySem.W.fnOf "_law_draw" "_law_draw" (defArgs s_law_draw) (defBody s_law_draw) (defScope s_law_draw) .none kV8 dc8 pm8 an8 cd8 ct8), sl8⟩) (c8 : PySem.W.codeIn K cd8 "_law_draw" = true) (k8 : PySem.W.keepIn K (.ref f8) = true)
    (a9 : PySem.W.nsIn K mainGlobals "_law_two" = some (some (.ref f9))) (l9 : K.lookup f9 = some ⟨oc9, od9, .func (PySem.W.fnOf "_law_two" "_law_two" (defArgs s_law_two) (defBody s_law_two) (defScope s_law_two) .none kV9 dc9 pm9 an9 cd9 ct9), sl9⟩) (c9 : PySem.W.codeIn K cd9 "_law_two" = true) (k9 : PySem.W.keepIn K (.ref f9) = true)
    (a10 : PySem.W.nsIn K mainGlobals "_law_any" = some (some (.ref f10))) (l10 : K.lookup f10 = some ⟨oc10, od10, .func (PySem.W.fnOf "_law_any" "_law_any" (defArgs s_law_any) (defBody s_law_any) (defScope s_law_any) .none kV10 dc10 pm10 an10 cd10 ct10), sl10⟩) (c10 : PySem.W.codeIn K cd10 "_law_any" = true) (k10 : PySem.W.keepIn K (.ref f10) = true)
    (a11 : PySem.W.nsIn K mainGlobals "_law_digits" = some (some (.ref f11))) (l11 : K.lookup f11 = some ⟨oc11, od11, .func (PySem.W.fnOf "_law_digits" "_law_digits" (defArgs s_law_digits) (defBody s_law_digits) (defScope s_law_digits) .none kV11 dc11 pm11 an11 cd11 ct11), sl11⟩) (c11 : PySem.W.codeIn K cd11 "_law_digits" = true) (k11 : PySem.W.keepIn K (.ref f11) = true)
    (a12 : PySem.W.nsIn K mainGlobals "_law_value" = some (some (.ref f12))) (l12 : K.lookup f12 = some ⟨oc12, od12, .func (PySem.W.fnOf "_law_value" "_law_value" (defArgs s_law_value) (defBody s_law_value) (defScope s_law_value) .none kV12 dc12 pm12 an12 cd12 ct12), sl12⟩) (c12 : PySem.W.codeIn K cd12 "_law_value" = true) (k12 : PySem.W.keepIn K (.ref f12) = true)
    (a13 : PySem.W.nsIn K mainGlobals "law" = some (some (.ref f13))) (l13 : K.lookup f13 = some ⟨oc13, od13, .func (PySem.W.fnOf "law" "law" (defArgs s_law) (defBody s_law) (defScope s_law) .none kV13 dc13 pm13 an13 cd13 ct13), sl13⟩) (c13 : PySem.W.codeIn K cd13 "law" = true) (k13 : PySem.W.keepIn K (.ref f13) = true)
    (z_enumerate : PySem.W.nsIn K mainGlobals "enumerate" = some none)
    (z_abs : PySem.W.nsIn K mainGlobals "abs" = some none)
    (z_range : PySem.W.nsIn K mainGlobals "range" = some none)
    (z_min : PySem.W.nsIn K mainGlobals "min" = some none)
    (z_int : PySem.W.nsIn K mainGlobals "int" = some none)
    (z_len : PySem.W.nsIn K mainGlobals "len" = some none)
    (z_repr : PySem.W.nsIn K mainGlobals "repr" = some none) :
    ∃ fd : FuncData, (∀ (s : Shared) (v : Value), BindsTo s fd ⟨[v], []⟩ [("script", v)]) ∧ ∀ base : Heap, K.In base → base.Ns mainGlobals mg → FnG l.prog w K mg base CX0 5 fa fd ["script"] (spLaw K) := by
  have e := hfa.symm.trans (PySem.W.mg_of X G a13)
  cases e
  have T_is_cast : Tx K mg "is_cast" s_is_cast := tx_mk X G a0 l0 c0 k0
  have T_check_chain : Tx K mg "check_chain" s_check_chain := tx_mk X G a1 l1 c1 k1
  have T_lowest_result : Tx K mg "lowest_result" s_lowest_result := tx_mk X G a2 l2 c2 k2
  have T_cast : Tx K mg "cast" s_cast := tx_mk X G a3 l3 c3 k3
  have T_after_step : Tx K mg "after_step" s_after_step := tx_mk X G a4 l4 c4 k4
  have T_converted : Tx K mg "converted" s_converted := tx_mk X G a5 l5 c5 k5
  have T_fits : Tx K mg "fits" s_fits := tx_mk X G a6 l6 c6 k6
  have T__law_rng : Tx K mg "_law_rng" s_law_rng := tx_mk X G a7 l7 c7 k7
  have T__law_draw : Tx K mg "_law_draw" s_law_draw := tx_mk X G a8 l8 c8 k8
  have T__law_two : Tx K mg "_law_two" s_law_two := tx_mk X G a9 l9 c9 k9
  have T__law_any : Tx K mg "_law_any" s_law_any := tx_mk X G a10 l10 c10 k10
  have T__law_digits : Tx K mg "_law_digits" s_law_digits := tx_mk X G a11 l11 c11 k11
  have T__law_value : Tx K mg "_law_value" s_law_value := tx_mk X G a12 l12 c12 k12
  have m_enumerate : mg "enumerate" = none := PySem.W.mg_none_of X G z_enumerate
  have m_abs : mg "abs" = none := PySem.W.mg_none_of X G z_abs
  have m_range : mg "range" = none := PySem.W.mg_none_of X G z_range
  have m_min : mg "min" = none := PySem.W.mg_none_of X G z_min
  have m_int : mg "int" = none := PySem.W.mg_none_of X G z_int
  have m_len : mg "len" = none := PySem.W.mg_none_of X G z_len
  have m_repr : mg "repr" = none := PySem.W.mg_none_of X G z_repr
  exact ⟨_, fun s v => .of_eq rfl, fun base _ _ => all_pr T_is_cast T_check_chain T_lowest_result T_cast T_after_step T_converted T_fits T__law_rng T__law_draw T__law_two T__law_any T__law_digits T__law_value m_enumerate m_abs m_range m_min m_int m_len m_repr _ _ (fun_mk l13 c13 k13)⟩
end Cc
open PySem PySem.W PyProof.Rows
set_option maxHeartbeats 0 in
theorem PySem.Challenge.cw_castchains_k03_whole_casts_by_binary_dig_holds : PySem.Challenge.rw_castchains_k03_whole_casts_by_binary_dig.Holds := by
  w_on; o_law; k_head; (case hw => w_witness2)
  k_fill
  refine Cc.walkG (l := PySem.Challenge.rw_castchains_k03_whole_casts_by_binary_dig) (n := 63) (k := 5) (x := "script") (sp := fun K => Cc.spLaw K) rfl (by decide) rfl ⟨rfl, by decide, by decide⟩ (fun w h Y => PySem.W.kIn_of Y) ?F (fun _ _ a ns hl _ hS => ⟨a, ns, rfl, hS, hl, fun _ => rfl⟩)
  case F =>
    intro w mg fa h KX G hmg
    refine' Cc.all_mk KX G hmg ?a0 ?l0 ?c0 ?k0 ?a1 ?l1 ?c1 ?k1 ?a2 ?l2 ?c2 ?k2 ?a3 ?l3 ?c3 ?k3 ?a4 ?l4 ?c4 ?k4 ?a5 ?l5 ?c5 ?k5 ?a6 ?l6 ?c6 ?k6 ?a7 ?l7 ?c7 ?k7 ?a8 ?l8 ?c8 ?k8 ?a9 ?l9 ?c9 ?k9 ?a10 ?l10 ?c10 ?k10 ?a11 ?l11 ?c11 ?k11 ?a12 ?l12 ?c12 ?k12 ?a13 ?l13 ?c13 ?k13 ?z_enumerate ?z_abs ?z_range ?z_min ?z_int ?z_len ?z_repr
    (case a0 => k_is); (case l0 => k_is); (case c0 => k_is); (case k0 => k_is); (case a1 => k_is); (case l1 => k_is); (case c1 => k_is); (case k1 => k_is); (case a2 => k_is); (case l2 => k_is); (case c2 => k_is); (case k2 => k_is); (case a3 => k_is); (case l3 => k_is); (case c3 => k_is); (case k3 => k_is); (case a4 => k_is); (case l4 => k_is); (case c4 => k_is); (case k4 => k_is); (case a5 => k_is); (case l5 => k_is); (case c5 => k_is); (case k5 => k_is); (case a6 => k_is); (case l6 => k_is); (case c6 => k_is); (case k6 => k_is); (case a7 => k_is); (case l7 => k_is); (case c7 => k_is); (case k7 => k_is); (case a8 => k_is); (case l8 => k_is); (case c8 => k_is); (case k8 => k_is); (case a9 => k_is); (case l9 => k_is); (case c9 => k_is); (case k9 => k_is); (case a10 => k_is); (case l10 => k_is); (case c10 => k_is); (case k10 => k_is); (case a11 => k_is); (case l11 => k_is); (case c11 => k_is); (case k11 => k_is); (case a12 => k_is); (case l12 => k_is); (case c12 => k_is); (case k12 => k_is); (case a13 => k_is); (case l13 => k_is); (case c13 => k_is); (case k13 => k_is); (case z_enumerate => k_is); (case z_abs => k_is); (case z_range => k_is); (case z_min => k_is); (case z_int => k_is); (case z_len => k_is); (case z_repr => k_is)

