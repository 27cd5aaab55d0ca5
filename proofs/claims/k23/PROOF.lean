import PyProof.Rows.All
import Wide.All
import OpenK.AllK
import Wide.FinOn
import PyProof.ReprRoads
import HandS.Base
import HandS.Call
import HandS.List
import HandS.Comp
import HandS.Ends
import HandS.Words
import HandS.WordsList
import HandS.Defaults
import PyProof.ReprLen
import HandS.Iter
import HandS.Walk
import KE.GoesEnumKw
import KE.GoesRev
import HandS.MakeKwOnly
import HandS.Property
import PyProof.InstNe
import PyProof.FString2
import PyProof.FString5
import HandS.IsInst
import HandS.FStr
import KE.KExcInit
import KE.KExcIs
import HandS.Exc
import HandS.ExcInit
import HandS.ExcField
import HandS.ExcIs
import HandS.WordsExc
import HandS.ForMost
import HandS.Conv
import HandS.Style
import HandS.Deep
import HandS.TupLe
import HandS.ExcOwn
import HandS.TryOnly
import HandS.Dict
import HandS.More
import PySem.Challenge.RW_dueways_k23_whole_greedy_is_ahead
set_option Elab.async false
set_option linter.all false
set_option maxRecDepth 100000
set_option maxHeartbeats 4000000
/-! A def's promise where no repr runs around it (guards are known to be empty), so that repr of data may be asked inside. -/
namespace VG
open PySem PySem.Spec PyProof.Rows L2

/-- repr of data -/
def rRepr (K : PySem.W.Frag) : List V → Hp → VK → Prop := fun xs H Q =>
  ∃ v d, xs = [v] ∧ Dp K H v d ∧ d.showable = true ∧ d.depth ≤ 60 ∧ d.shown.length ≤ sizeLine ∧ Q (.str d.shown) H

theorem dp_noDict (K : PySem.W.Frag) (H : Hp) : (∀ d v, Dp K H v d → d.hasDict = false) ∧ (∀ ds vs, DpAll K H vs ds → PyData.hasDictAll ds = false) := by
  have one : ∀ n, (∀ d v, sizeOf d < n → Dp K H v d → d.hasDict = false) ∧
      (∀ ds vs, sizeOf ds < n → DpAll K H vs ds → PyData.hasDictAll ds = false) := by
    intro n
    induction n with
    | zero => exact ⟨fun _ _ h => absurd h (Nat.not_lt_zero _), fun _ _ h => absurd h (Nat.not_lt_zero _)⟩
    | succ n ih =>
      refine ⟨fun d v hz h => ?_, fun ds vs hz h => ?_⟩
      · cases h with
        | non => rfl
        | bl => rfl
        | int => rfl
        | str => rfl
        | lst _ ha =>
          simp only [PyData.hasDict]
          exact ih.2 _ _ (by simp at hz; omega) ha
        | tup _ ha =>
          simp only [PyData.hasDict]
          exact ih.2 _ _ (by simp at hz; omega) ha
      · cases h with
        | nil => rfl
        | cons h1 h2 =>
          simp only [PyData.hasDictAll]
          rw [ih.1 _ _ (by simp at hz; omega) h1, ih.2 _ _ (by simp at hz; omega) h2]
          rfl
  exact ⟨fun d v => (one (sizeOf d + 1)).1 d v (Nat.lt_succ_self _), fun ds vs => (one (sizeOf ds + 1)).2 ds vs (Nat.lt_succ_self _)⟩

theorem call_repr {X : Cx} (hg : X.A.guards = some []) (hu : X.A.units + 64 < cLine) : CallR X (.builtin "repr") (rRepr X.K) := by
  intro pins s σ H xs us Q I r h
  obtain ⟨v, d, rfl, hd, hs, hdep, hz, q⟩ := h
  obtain ⟨u, rfl, rv⟩ := vals1 r
  have keep : ∀ (h' : Heap) (t' : Nat), (∀ b o, s.heap.get? b = some o → h'.get? b = some o) → Inv X pins σ H { s with heap := h', toks := t' } :=
    fun h' t' k => I.kept (t' := t') k
  have nd := (dp_noDict X.K H).1 d v hd
  obtain ⟨as, rd⟩ := Dp.reads I d v u hd rv
  cases hd with
  | non =>
    cases rv
    exact PySem.P.repr_of_none ⟨.str _, H, I.tok _, ⟨_, rfl⟩, q⟩
  | bl b =>
    cases rv
    refine PySem.P.repr_of_bool ⟨.str _, H, I.tok _, ⟨_, rfl⟩, ?_⟩
    exact q
  | int i =>
    obtain ⟨t, rfl⟩ := rv
    exact PySem.P.repr_of_int (by simpa [PyData.showable] using hs) ⟨.str _, H, I.tok _, ⟨_, rfl⟩, q⟩
  | str x =>
    obtain ⟨t, rfl⟩ := rv
    exact PySem.P.repr_of_str ⟨.str _, H, I.tok _, ⟨_, rfl⟩, q⟩ hz
  | lst _ _ =>
    cases rv
    exact repr_of_reads' rd hs (fun e => by rw [nd] at e; cases e) hg (by omega) (fun _ _ e => e) (fun h' w tk k => ⟨.str _, H, keep h' tk k, ⟨_, rfl⟩, q⟩) hz
  | tup _ _ =>
    cases rv
    exact repr_of_reads' rd hs (fun e => by rw [nd] at e; cases e) hg (by omega) (fun _ _ e => e) (fun h' w tk k => ⟨.str _, H, keep h' tk k, ⟨_, rfl⟩, q⟩) hz

def rLen (K : PySem.W.Frag) : List V → Hp → VK → Prop := fun xs H Q =>
  ∃ p ys, xs = [.ref p] ∧ (SqL K H p ys ∨ SqT K H p ys) ∧ Q (.int ys.length) H
theorem call_len {X : Cx} : CallR X (.builtin "len") (rLen X.K) := call_len_seq
def rListOf (K : PySem.W.Frag) : List V → Hp → VK → Prop := fun xs H Q =>
  ∃ p ys, xs = [.ref p] ∧ (SqL K H p ys ∨ SqT K H p ys) ∧ ∀ l, H l = none → Q (.ref l) (upd H l (.lst ys))
theorem call_listOf {X : Cx} : CallR X (.type "list") (rListOf X.K) := call_list_of

/-- a def's promise, asked only where guards are empty -/
structure FnG (P : Program) (w : World) (K : PySem.W.Frag) (mg : Str → Option Value) (base : Heap) (CX : CXT)
    (k : Nat) (f : Addr) (fd : FuncData) (ps : List Str) (sp : Sp) : Prop where
  arity : ∀ as H Q E, sp as H Q E → as.length = ps.length
  go : ∀ (A : Around) (outer : List Env) (s : Shared) (H : Hp) (args : Args) (us : List Value) (as : List V) (Q : VK) (E : XK),
    A.guards = some [] → Room k A → Env0 P w K mg base A outer s H → BindsTo s fd args (ps.zip us) → Vals as us → sp as H Q E →
      codeAny (model P w) A (.call (.ref f) args) (CR CX outer P w H s Q E) s

section
variable {P : Program} {w : World} {K : PySem.W.Frag} {mg : Str → Option Value} {base : Heap} {CX : CXT}
theorem FnG.of {k : Nat} {f : Addr} {fd : FuncData} {ps : List Str} {sp : Sp} (F : FnOk P w K mg base CX k f fd ps sp) :
    FnG P w K mg base CX k f fd ps sp :=
  ⟨F.len, fun A outer s H args us as Q E _ => F.run A outer s H args us as Q E⟩

/-- a def by its body -/
theorem okG {x qual : Str} {st : Stmt} {f : Addr} {fd : FuncData} {N ps : List Str} {k : Nat} {sp : Sp}
    (F : Fun K x qual st f fd) (S : FnScope N ps (defScope st)) (len : ∀ as H Q E, sp as H Q E → as.length = ps.length)
    (body : ∀ (cdv : Value) (A : Around) (outer : List Env) (s : Shared) (H : Hp) (as : List V) (Q : VK) (E : XK),
      (A.deeper (envOfC qual (defScope st) s.heap.objs.size f cdv)).guards = some [] →
      Room k (A.deeper (envOfC qual (defScope st) s.heap.objs.size f cdv)) → sp as H Q E →
      ∃ t, PSs (cxOf CX P w K mg base N qual (defScope st) f cdv A outer s H E) (defBody st) t ∧
        t { nx := fun _ H' => Q .non H', rt := Q } (start N as) H) :
    FnG P w K mg base CX (k + 1) f fd ps sp := by
  obtain ⟨oc, od, kV, doc, pm, an, cdv, ct, osl, rfl, lk, hcd⟩ := F.ex
  refine ⟨len, fun A outer s H args us as Q E hA hr e0 hb r hsp => ?_⟩
  have hl := len _ _ _ _ hsp
  have KX : K.In s.heap := e0.mod.kin.keeps fun b o e => (e0.bs b o e).1
  have lim : s.heap.NoLimit := e0.mod.nolimit.keeps fun b o e => (e0.bs b o e).1
  have kinds : ∀ y ∈ ps.zip us, (defScope st).names.lookup y.1 = some .local ∨
      ((defScope st).names.lookup y.1 = some .cell ∧ ((cellsFrom (s.heap.objs.size + 1) (defScope st).names []).lookup y.1).isSome = true) := by
    rintro ⟨n, v⟩ hy
    rcases S.par n (List.of_mem_zip hy).1 with q | q
    · exact .inl q
    · exact .inr ⟨q, PySem.W.cellsFrom_some _ _ _ (.inl q)⟩
  refine codeAny_call_function hr.depth (KX _ _ lk) rfl S.co S.gen rfl (PySem.W.codeRec_of KX hcd) (hb _ _ _ _ ?_)
  refine wpAny_newFunctionEnv_cells S.kind kinds fun env he s1 z => ?_
  subst he
  refine ⟨lim.keeps z.toInCall.keep, codeAny_func ?_⟩
  obtain ⟨t, ht, hq⟩ := body cdv A outer s H as Q E hA (hr.deeper _) hsp
  have I0 : Inv (cxOf CX P w K mg base N qual (defScope st) f cdv A outer s H E) [] (start N as) H s1 :=
    inv_start S hr.hd e0 hl r z
  refine wpAny_mono (ht.run [] s1 (start N as) H _ I0 hq) ?_ fun e s' hs => hs
  intro fl s' hs
  have done : ∀ (σ' : L2.St) (H' : Hp) (v : V) (u : Value), Inv (cxOf CX P w K mg base N qual (defScope st) f cdv A outer s H E) [] σ' H' s' →
      RelV v u → Q v H' → CE outer P w H s Q u s' := fun σ' H' v u J rv q => ⟨v, H', J.os, J.bare, J.base, J.hok, rv, q⟩
  cases fl with
  | ret u =>
    obtain ⟨v, σ', H', J, rv, q⟩ := hs
    exact done σ' H' v u J rv q
  | next =>
    obtain ⟨σ', H', J, q⟩ := hs
    exact done σ' H' V.non Value.none J rfl q
  | brk => exact hs.elim fun _ h => h.elim fun _ h => False.elim h.2
  | cont => exact hs.elim fun _ h => h.elim fun _ h => False.elim h.2
end

section
variable {P : Program} {w : World} {K : PySem.W.Frag} {mg : Str → Option Value} {base : Heap}
/-- .. that lets nothing out -/
theorem okG0 {x qual : Str} {st : Stmt} {f : Addr} {fd : FuncData} {N ps : List Str} {k : Nat} {sp : Sp}
    (F : Fun K x qual st f fd) (S : FnScope N ps (defScope st)) (len : ∀ as H Q E, sp as H Q E → as.length = ps.length)
    (body : ∀ (cdv : Value) (A : Around) (outer : List Env) (s : Shared) (H : Hp) (as : List V) (Q : VK) (E : XK),
      (A.deeper (envOfC qual (defScope st) s.heap.objs.size f cdv)).guards = some [] →
      Room k (A.deeper (envOfC qual (defScope st) s.heap.objs.size f cdv)) → sp as H Q E →
      ∃ t, PSs (cxOf CX0 P w K mg base N qual (defScope st) f cdv A outer s H E).nox (defBody st) t ∧
        t { nx := fun _ H' => Q .non H', rt := Q } (start N as) H) :
    FnG P w K mg base CX0 (k + 1) f fd ps sp :=
  okG F S len fun cdv A outer s H as Q E hA hr h =>
    let ⟨t, h1, h2⟩ := body cdv A outer s H as Q E hA hr h
    ⟨t, h1.nox, h2⟩
end

section
variable {X : Cx} {CX : CXT} {k : Nat} {f : Addr} {fd : FuncData} {ps : List Str} {sp : Sp} {E : XK} {x : Str} {p pos : Pos} {e : Expr} {es : List Expr} {t : TA}
theorem runG {pins : List (Addr × Obj)} {σ : L2.St} {H : Hp} {s : Shared} {Q : VK} {us : List Value} {as : List V}
    (F : FnG X.prog X.w X.K X.mg X.base CX k f fd ps sp) (hA : X.A.guards = some []) (hr : Room k X.A) (hb : Binds X.K fd ps [])
    (hx : Passes CX X E) (I : Inv X pins σ H s) (r : Vals as us) (h : sp as H Q E) :
    wpAny (model X.prog X.w) X.A (call (.ref f) us) (EP X pins σ Q) X.xe s := by
  have hn : us.length = ps.length := r.length.symm.trans (F.arity _ _ _ _ h)
  have bind := hb s us I.kIn (by rw [List.append_nil]; exact hn)
  rw [List.append_nil] at bind
  refine wpAny_call (codeAny_mono (F.go X.A X.stack s H ⟨us, []⟩ us as Q E hA hr I.env0 bind r h) ?_)
  intro res s' hq
  match res, hq with
  | .error e, hq => exact hx pins σ H s e s' I hq
  | .ok (.ret u), hq => exact I.after hq
  | .ok .next, hq => exact False.elim hq
  | .ok .brk, hq => exact False.elim hq
  | .ok .cont, hq => exact False.elim hq
/-- f(e, ..) -/
theorem pe_callG (F : FnG X.prog X.w X.K X.mg X.base CX k f fd ps sp) (hA : X.A.guards = some []) (hr : Room k X.A) (hg : Gl X x)
    (hm : X.mg x = some (.ref f)) (hk : PySem.W.keepIn X.K (.ref f) = true) (hb : Binds X.K fd ps []) (hx : Passes CX X E) (ha : PA X (e :: es) t)
    (hdb : (x == ("__debug__" : Str)) = false := by decide) (he : starEach (e :: es) X.env = (false, eval e X.env) :: starEach es X.env := by rfl)
    (hpl : (backTo pos (starEach es X.env)).any (·.1) = false := by rfl) :
    PE X (.Call (.Name x p) (e :: es) [] pos) (tCall sp [] E t) := by
  constructor
  intro pins s σ H Q I h
  refine wpAny_Call_Name_kw (ld_glob I hg hm ?_ hdb)
  have args := ha.run pos pins s σ H _ I h
  refine PySem.W.callWith_K (h₀ := X.base) I.ok.mod.kin hk (thn args ?_) he hpl
  rintro us s1 ⟨as, H1, I1, r, q⟩
  rw [List.append_nil] at q
  exact ⟨I1.kIn, runG F hA hr hb hx I1 r q⟩
theorem pe_callG0 (F : FnG X.prog X.w X.K X.mg X.base CX k f fd ps sp) (hA : X.A.guards = some []) (hr : Room k X.A) (hg : Gl X x)
    (hm : X.mg x = some (.ref f)) (hk : PySem.W.keepIn X.K (.ref f) = true) (hb : Binds X.K fd ps []) (hx : Passes CX X E)
    (hdb : (x == ("__debug__" : Str)) = false := by decide) : PE X (.Call (.Name x p) [] [] pos) (tCall sp [] E tNil) := by
  constructor
  intro pins s σ H Q I h
  refine wpAny_Call_Name_kw (ld_glob I hg hm ?_ hdb)
  exact PySem.W.callWith_K0 I.kIn hk (runG (us := []) (as := []) F hA hr hb hx I .nil h)
end

/-- a statement, then the rest, joined by a word: the rest is read once -/
def tJoin (t u : TS) : TS := fun D σ H => ∃ M : L2.St → Hp → Prop, t { D with nx := M } σ H ∧ ∀ σ' H', M σ' H' → u D σ' H'
theorem pss_join {X : Cx} {st : Stmt} {more : List Stmt} {t u : TS} (h1 : PS X st t) (h2 : PSs X more u) : PSs X (st :: more) (tJoin t u) := by
  constructor
  intro pins s σ H D I h
  obtain ⟨M, hm, hu⟩ := h
  refine wpAny_execs_cons (thn (h1.run pins s σ H _ I hm) ?_)
  intro fl s1 q
  match fl, q with
  | .next, ⟨σ', H', I', q⟩ => exact h2.run pins s1 σ' H' D I' (hu σ' H' q)
  | .ret v, q => exact q
  | .brk, q => exact q
  | .cont, q => exact q
/-- f(k = v, ..), keywords alone -/
def tKw (m : Nat) (sp : Sp) (gV : List V → List V → List V) (E : XK) (tk : TA) : TE := fun σ H Q => tk σ H fun zs H2 => zs.length = m ∧ sp (gV [] zs) H2 Q E
theorem pe_callK0 {X : Cx} {CX : CXT} {k : Nat} {f : Addr} {fd : FuncData} {ps ks : List Str} {sp : Sp} {E : XK} {x : Str} {p pos : Pos} {kws : List Keyword} {tk : TA}
    {g : List Value → List Value → List Value} {gV : List V → List V → List V}
    (F : FnOk X.prog X.w X.K X.mg X.base CX k f fd ps sp) (hr : Room k X.A) (hg : Gl X x) (hm : X.mg x = some (.ref f)) (hk : PySem.W.keepIn X.K (.ref f) = true)
    (hb : KBn X.K fd ps 0 ks g gV) (hx : Passes CX X E) (hkw : PK X kws tk) (hall : (backToKw pos (keywordEach kws X.env)).all (·.1.isSome) = true := by rfl)
    (hks : (backToKw pos (keywordEach kws X.env)).filterMap (·.1) = ks := by rfl) (hdb : (x == ("__debug__" : Str)) = false := by decide)
    (hpl : ((backTo pos (starEach [] X.env)).any (·.1) || (backToKw pos (keywordEach kws X.env)).any (·.1.isNone)) = false := by rfl) :
    PE X (.Call (.Name x p) [] kws pos) (tKw ks.length sp gV E tk) := by
  constructor
  intro pins s σ H Q I h
  refine wpAny_Call_Name_kw (ld_glob I hg hm ?_ hdb)
  refine PySem.W.callWith_KW0 (h₀ := X.base) I.ok.mod.kin hk hall ?_ hpl
  refine thn (hkw.run pos pins s σ H _ I h) ?_
  rintro ws s2 ⟨zs, H2, I2, rz, len, q⟩
  refine ⟨I2.kIn, ?_⟩
  rw [hks]
  have rel := hb.rel (vs := []) (us := []) .nil rz
  have bind := hb.to s2 [] ws I2.kIn rfl (rz.length.symm.trans len)
  refine wpAny_call (codeAny_mono (F.run X.A X.stack s2 H2 ⟨[], ks.zip ws⟩ _ _ Q E hr I2.env0 bind rel q) ?_)
  intro res s' hq
  match res, hq with
  | .error e, hq => exact hx pins σ H2 s2 e s' I2 hq
  | .ok (.ret u), hq => exact I2.after hq
  | .ok .next, hq => exact False.elim hq
  | .ok .brk, hq => exact False.elim hq
  | .ok .cont, hq => exact False.elim hq
/-- how keywords bind for a def without defaults -/
theorem kb_of {K : PySem.W.Frag} {x qual : Str} {st : Stmt} {f : Addr} {fd : FuncData} {ps ks : List Str} {n : Nat} (F : Fun K x qual st f fd)
    (g : {α : Type} → List α → List α → List α) (rel : ∀ {vs zs : List V} {us ws : List Value}, Vals vs us → Vals zs ws → Vals (g vs zs) (g us ws))
    (h : ∀ (kV doc pm : Value) (an : Option Addr) (cdv ct : Value) (us ws : List Value), us.length = n → ws.length = ks.length →
      bindArgs (PySem.W.fnOf x qual (defArgs st) (defBody st) (defScope st) .none kV doc pm an cdv ct) ⟨us, ks.zip ws⟩ = pure (ps.zip (g us ws))) :
    KBn K fd ps n ks (fun us ws => g us ws) (fun vs zs => g vs zs) := by
  obtain ⟨oc, od, kV, doc, pm, an, cdv, ct, osl, rfl, lk, hcd⟩ := F.ex
  exact ⟨fun s us ws _ h1 h2 => .of_eq (h kV doc pm an cdv ct us ws h1 h2), fun a b => rel a b⟩

/-- a law's call: the script is all that may be tracked -/
theorem lawG {P : Program} {w : World} {K : PySem.W.Frag} {mg mb : Str → Option Value} {CX : CXT} {k : Nat} {fa a : Addr} {fd : FuncData} {x : Str}
    {sp : Sp} {s1 : Shared} {vs : List Value} {ns : List Int} (KX : K.In s1.heap) (hns : s1.heap.Ns mainGlobals mg) (hb : s1.heap.Ns builtinsNs mb)
    (hbb : ∀ y : Str, y ≠ "__name__" → mb y = bootBuiltins y) (hlim : s1.heap.NoLimit) (hg : s1.gens = #[])
    (ha : s1.heap.get? a = some { cls := .type "list", data := .seq vs.toArray }) (hi : IntsAre vs ns) (hl : ns.length ≤ sizeLine) (hr : Room k callerA)
    (F : ∀ base : Heap, K.In base → base.Ns mainGlobals mg → FnG P w K mg base CX k fa fd [x] sp)
    (hbind : ∀ (s : Shared) (u : Value), BindsTo s fd ⟨[u], []⟩ [(x, u)])
    (hsp : ∀ H : Hp, Only H → SqL K H a (ns.map V.int) → sp [.ref a] H (fun v _ => v = .bl true) fun _ _ _ => False)
    (hCX : ∀ H e s', CX [] H s1 (fun _ _ _ => False) e s' → False) :
    codeAny (model P w) callerA (.call (.ref fa) ⟨[.ref a], []⟩)
      (fun r s' => r = .ok (.ret (.bool true)) ∧ OldK s1.heap s'.heap ∧ s'.os = s1.os ∧ AllBare s'.gens) s1 := by
  have inner : ∀ H : Hp, Only H → SqL K H a (ns.map V.int) → HOk P w H s1.heap → (∀ b, H b ≠ none → b = a) → (H a ≠ none → K.lookup a = none) →
      codeAny (model P w) callerA (.call (.ref fa) ⟨[.ref a], []⟩)
        (fun r s' => r = .ok (.ret (.bool true)) ∧ OldK s1.heap s'.heap ∧ s'.os = s1.os ∧ AllBare s'.gens) s1 := by
    intro H hO hS hok only noK
    have nodict : ∀ {b : Addr} {o : Obj} {es : Array DictEntry} {ep : Nat}, s1.heap.get? b = some o → o.data = .dict es ep → H b = none := by
      intro b o es ep e d
      by_cases q : H b = none
      · exact q
      · have eb := only b q
        subst eb
        rw [ha] at e
        cases e
        cases d
    have names : ∀ {b : Addr} {m : Str → Option Value}, s1.heap.Ns b m → (hidT s1.heap H).Ns b m := by
      rintro b m ⟨o, es, ep, e, d, r⟩
      exact ⟨o, es, ep, hidT_get e (nodict e d), d, r⟩
    have kin : K.In (hidT s1.heap H) := by
      intro b o e
      refine hidT_get (KX b o e) ?_
      by_cases q : H b = none
      · exact q
      · have eb := only b q
        subst eb
        rw [noK q] at e
        cases e
    have modul : Mod K mg (hidT s1.heap H) := by
      obtain ⟨mc, l1, l2⟩ := hlim
      exact ⟨kin, names hns, ⟨mb, names hb, hbb⟩, ⟨mc, names l1, l2⟩⟩
    have nil : ∀ b : Addr, ¬ b ∈ ([] : List Addr) := fun b z => by cases z
    have env : Env0 P w K mg (hidT s1.heap H) callerA [] s1 H :=
      ⟨rfl, modul, fun b o e => of_hidT e, Nat.le_of_eq (hidT_size _ _), trivial, fun b z => absurd z (nil b), hok, .of_eq hg⟩
    have ran := (F _ kin (names hns)).go callerA [] s1 H ⟨[.ref a], []⟩ [.ref a] [.ref a] _ _ rfl hr env (hbind s1 (.ref a)) (.cons rfl .nil) (hsp H hO hS)
    refine codeAny_mono ran ?_
    intro res s' h
    match res, h with
    | .error e, h => exact (hCX H e s' h).elim
    | .ok .next, h => exact False.elim h
    | .ok .brk, h => exact False.elim h
    | .ok .cont, h => exact False.elim h
    | .ok (.ret u), h =>
      obtain ⟨v, H', os, bare, un, hok', rv, rfl⟩ := h
      obtain rfl : u = Value.bool true := rv
      refine ⟨rfl, OldK.of_keep fun b o e => ?_, os, bare⟩
      rcases hO b with z | ⟨ob, xs, z⟩
      · exact un.keep b o e z (nil b) (nil b)
      · obtain ⟨e1, _⟩ := hok b _ z
        obtain ⟨e2, _⟩ := hok' b _ (un.frzs b ob _ z)
        rw [e] at e1
        cases e1
        exact e2
  have rv := vals_ints hi
  have len := hi.length
  cases hk : K.lookup a with
  | some o =>
    have e := KX a o hk
    rw [ha] at e
    cases e
    have seen : SqL K (fun _ => none) a (ns.map V.int) :=
      .inr ⟨_, vs.toArray, _, hk, rfl, rfl, rfl, by rw [List.size_toArray, len]; exact hl, by simpa using rv⟩
    exact inner (fun _ => none) (fun _ => .inl rfl) seen (fun b u z => by cases z) (fun b z => absurd rfl z) fun z => absurd rfl z
  | none =>
    have at_a : (if a = a then some (HO.frz { cls := .type "list", data := .seq vs.toArray } (.lst (ns.map V.int))) else none) = some (HO.frz { cls := .type "list", data := .seq vs.toArray } (.lst (ns.map V.int))) := if_pos rfl
    refine inner (fun b => if b = a then some (.frz { cls := .type "list", data := .seq vs.toArray } (.lst (ns.map V.int))) else none) ?_ (.inl (.inr ⟨_, at_a⟩)) ?_ ?_ fun _ => hk
    · intro b
      by_cases hb : b = a
      · exact .inr ⟨_, _, if_pos hb⟩
      · exact .inl (if_neg hb)
    · intro b u z
      have z' : (if b = a then some (HO.frz { cls := .type "list", data := .seq vs.toArray } (.lst (ns.map V.int))) else none) = some u := z
      by_cases hb : b = a
      · rw [if_pos hb] at z'
        cases z'
        subst hb
        exact ⟨ha, by rw [List.length_map]; exact hl, vs, _, rv, ha⟩
      · rw [if_neg hb] at z'
        cases z'
    · intro b z
      by_cases hb : b = a
      · exact hb
      · exact absurd (if_neg hb) z

theorem walkG {l : PySem.W.OpenLaw} {n k : Nat} {q : Program} {loose : List Str} {XP : (Str → Option Value) → Heap → Prop} {YP : World → Heap → Prop}
    {d : DefRec} {K : Params → PySem.W.Frag} {CX : World → CXT} {sp : World → Sp} {x : Str}
    (hn : l.most = some n) (hn2 : n ≤ sizeLine) (hdf : d.params.defaults = []) (hr : Room k callerA) (hY : ∀ (w : World) (h : Heap), YP w h → (K w.params).In h)
    (F : ∀ (w : World) (mg : Str → Option Value) (fa : Addr) (h : Heap), (K w.params).In h → h.Ns mainGlobals mg → mg d.name = some (.ref fa) →
      ∃ fd : FuncData, (∀ (s : Shared) (u : Value), BindsTo s fd ⟨[u], []⟩ [(x, u)]) ∧ ∀ base : Heap, (K w.params).In base → base.Ns mainGlobals mg →
        FnG l.prog w (K w.params) mg base (CX w) k fa fd [x] (sp w))
    (hsp : ∀ (w : World) (H : Hp) (a : Addr) (ns : List Int), ns.length ≤ n → Only H → SqL (K w.params) H a (ns.map V.int) →
      sp w [.ref a] H (fun v _ => v = .bl true) fun _ _ _ => False)
    (hCX : ∀ (w : World) (H : Hp) (s : Shared) (e : Value) (s' : Shared), CX w [] H s (fun _ _ _ => False) e s' → False) :
    PySem.W.WalkO q loose XP YP l.row.toRowW d [] (fun f vs => PySem.call f vs) := by
  refine Att.attach_call hn hdf ?_
  intro w s0 s1 mg mb fa o pm cd doc a vs ns G Y ho hd hcd hmg hobj hints hlen hg
  obtain ⟨fd, hb, hF⟩ := F w mg fa _ (hY w _ Y) G.T.g hmg
  exact lawG (hY w _ Y) G.T.g G.T.b G.T.builtins G.T.nolimit hg hobj hints (Nat.le_trans hlen hn2) hr hF hb
    (fun H hO hS => hsp w H a ns hlen hO hS) fun H e s' => hCX w H s1 e s'
end VG

/-! Curves as they are written: values, a period, a gain; plain Lean. -/
namespace VM
/-- the value at t of the curve written so -/
def cvAt (vs : List Int) (p g t : Int) : Int :=
  if t = 0 then 0 else if t ≤ (vs.length : Int) then vs.getD (t - 1).toNat 0 else
    vs.getD (t - (t - vs.length + p - 1) / p * p - 1).toNat 0 + (t - vs.length + p - 1) / p * g

theorem cvAt_zero {vs : List Int} {p g : Int} : cvAt vs p g 0 = 0 := by simp [cvAt]
theorem cvAt_in {vs : List Int} {p g t : Int} (h : 0 < t) (h1 : t ≤ vs.length) : cvAt vs p g t = vs.getD (t - 1).toNat 0 := by
  unfold cvAt
  rw [if_neg (by omega), if_pos h1]

/-- the rounds: between them t lies in the last period -/
theorem rounds_spec {n p t : Int} (hp : 0 < p) (ht : n < t) :
    0 < (t - n + p - 1) / p ∧ n - p < t - (t - n + p - 1) / p * p ∧ t - (t - n + p - 1) / p * p ≤ n := by
  have e := Int.emod_add_mul_ediv (t - n + p - 1) p
  have l := Int.emod_nonneg (t - n + p - 1) (show p ≠ 0 by omega)
  have u := Int.emod_lt_of_pos (t - n + p - 1) hp
  have c : (t - n + p - 1) / p * p = p * ((t - n + p - 1) / p) := Int.mul_comm _ _
  have q1 : 1 ≤ (t - n + p - 1) / p := by
    have := (Int.le_ediv_iff_mul_le (c := p) hp (a := 1) (b := t - n + p - 1)).mpr (by omega)
    exact this
  exact ⟨by omega, by omega, by omega⟩
theorem rounds_step {n p t : Int} (hp : 0 < p) : (t - p - n + p - 1) / p = (t - n + p - 1) / p - 1 := by
  have : t - p - n + p - 1 = (t - n + p - 1) + (-1) * p := by omega
  rw [this, Int.add_mul_ediv_right _ _ (by omega)]
  omega
/-- behind the values: one period back, and the gain -/
theorem cvAt_back {vs : List Int} {p g t : Int} (hp : 0 < p) (hpn : p ≤ vs.length) (ht : (vs.length : Int) < t) : cvAt vs p g t = cvAt vs p g (t - p) + g := by
  obtain ⟨r1, r2, r3⟩ := rounds_spec hp ht
  have st := rounds_step (n := (vs.length : Int)) (p := p) (t := t) hp
  unfold cvAt
  rw [if_neg (by omega), if_neg (by omega), if_neg (show ¬ t - p = 0 by omega)]
  by_cases h : t - p ≤ (vs.length : Int)
  · rw [if_pos h]
    have r : (t - vs.length + p - 1) / p = 1 := by
      have a : (t - vs.length + p - 1) / p < 2 := Int.ediv_lt_of_lt_mul hp (by omega)
      omega
    rw [r, Int.one_mul, Int.one_mul]
  · rw [if_neg h, st]
    have e : t - p - ((t - vs.length + p - 1) / p - 1) * p - 1 = t - (t - vs.length + p - 1) / p * p - 1 := by
      rw [Int.sub_mul, Int.one_mul]; omega
    rw [e, Int.sub_mul, Int.one_mul]
    omega

/-- a function that repeats behind n: with period p and gain g -/
def Rep (f : Int → Int) (n p g : Int) : Prop := ∀ t, n < t → f t = f (t - p) + g
theorem Rep.cvAt {vs : List Int} {p g : Int} (hp : 0 < p) (hpn : p ≤ vs.length) : Rep (cvAt vs p g) vs.length p g := fun _ ht => cvAt_back hp hpn ht

/-- the steps over d, in one period behind n, are all the first one -/
def stepsEq (f : Int → Int) (n p d : Int) : Bool := (List.range p.toNat).all fun (i : Nat) => decide (f (n + 1 + i) - f (n + 1 + i - d) = f (n + 1) - f (n + 1 - d))
/-- the least period from d on that divides p, and its gain -/
def leastFrom (f : Int → Int) (n p : Int) : Nat → Int → Int × Int
  | 0, _ => (p, f (n + p) - f n)
  | k + 1, d => if p % d = 0 ∧ stepsEq f n p d = true then (d, f (n + 1) - f (n + 1 - d)) else leastFrom f n p k (d + 1)
def leastP (f : Int → Int) (n p : Int) : Int × Int := leastFrom f n p (p - 1).toNat 1
/-- how many values must be written -/
def shr (f : Int → Int) (d s : Int) : Nat → Nat
  | 0 => 0
  | m + 1 => if d < (m + 1 : Nat) ∧ f ((m + 1 : Nat) : Int) = f ((m + 1 : Nat) - d) + s then shr f d s m else m + 1
/-- f's values at 1 to m -/
def vals (f : Int → Int) (m : Nat) : List Int := (List.range m).map fun (i : Nat) => f (i + 1)
theorem vals_length {f : Int → Int} {m : Nat} : (vals f m).length = m := by simp [vals]
theorem vals_getD {f : Int → Int} {m i : Nat} (h : i < m) : (vals f m).getD i 0 = f (i + 1) := by
  unfold vals
  rw [List.getD_eq_getElem?_getD, List.getElem?_map, List.getElem?_range h]
  rfl

theorem stepsEq_at {f : Int → Int} {n p d : Int} (h : stepsEq f n p d = true) {t : Int} (h1 : n < t) (h2 : t ≤ n + p) : f t = f (t - d) + (f (n + 1) - f (n + 1 - d)) := by
  unfold stepsEq at h
  rw [List.all_eq_true] at h
  have := h (t - n - 1).toNat (List.mem_range.mpr (by omega))
  have e : n + 1 + ((t - n - 1).toNat : Int) = t := by omega
  rw [e] at this
  have := of_decide_eq_true this
  omega
/-- one round decides -/
theorem Rep.of_steps {f : Int → Int} {n p g d : Int} (R : Rep f n p g) (hd : 0 < d) (hdp : d ≤ p) (h : stepsEq f n p d = true) : Rep f n d (f (n + 1) - f (n + 1 - d)) := by
  have key : ∀ (k : Nat) (t : Int), n < t → t ≤ n + k → f t = f (t - d) + (f (n + 1) - f (n + 1 - d)) := by
    intro k
    induction k with
    | zero => intro t h1 h2; omega
    | succ k ih =>
      intro t h1 h2
      by_cases c : t ≤ n + p
      · exact stepsEq_at h h1 c
      · have a := R t h1
        have b := R (t - d) (by omega)
        have e := ih (t - p) (by omega) (by omega)
        have z : t - d - p = t - p - d := by omega
        rw [z] at b
        omega
  intro t ht
  exact key (t - n).toNat t ht (by omega)
theorem leastFrom_spec {f : Int → Int} {n p g : Int} (R : Rep f n p g) (hp : 0 < p) : ∀ (k : Nat) (d : Int), 0 < d → d + k = p →
    0 < (leastFrom f n p k d).1 ∧ (leastFrom f n p k d).1 ≤ p ∧ Rep f n (leastFrom f n p k d).1 (leastFrom f n p k d).2
  | 0, d, hd, e => by
    unfold leastFrom
    refine ⟨hp, Int.le_refl _, fun t ht => ?_⟩
    have a := R (n + p) (by omega)
    have z : n + p - p = n := by omega
    rw [z] at a
    have b := R t ht
    show f t = f (t - p) + (f (n + p) - f n)
    omega
  | k + 1, d, hd, e => by
    unfold leastFrom
    by_cases c : p % d = 0 ∧ stepsEq f n p d = true
    · rw [if_pos c]
      exact ⟨hd, by show d ≤ p; omega, R.of_steps hd (by omega) c.2⟩
    · rw [if_neg c]
      exact leastFrom_spec R hp k (d + 1) (by omega) (by omega)
theorem leastP_spec {f : Int → Int} {n p g : Int} (R : Rep f n p g) (hp : 0 < p) : 0 < (leastP f n p).1 ∧ (leastP f n p).1 ≤ p ∧ Rep f n (leastP f n p).1 (leastP f n p).2 :=
  leastFrom_spec R hp _ 1 (by omega) (by omega)
theorem shr_spec {f : Int → Int} {d s : Int} (hd : 0 < d) : ∀ (m : Nat), d ≤ m → Rep f m d s → d ≤ shr f d s m ∧ shr f d s m ≤ m ∧ Rep f (shr f d s m) d s
  | 0, h, _ => by omega
  | m + 1, h, R => by
    unfold shr
    by_cases c : d < (m + 1 : Nat) ∧ f ((m + 1 : Nat) : Int) = f ((m + 1 : Nat) - d) + s
    · rw [if_pos c]
      have R' : Rep f m d s := fun t ht => by
        by_cases e : t = ((m + 1 : Nat) : Int)
        · rw [e]; exact c.2
        · exact R t (by omega)
      obtain ⟨a, b, z⟩ := shr_spec hd m (by omega) R'
      exact ⟨a, by omega, z⟩
    · rw [if_neg c]
      exact ⟨h, Nat.le_refl _, R⟩
/-- what repeats behind m is the curve written by its first m values -/
theorem cvAt_vals {f : Int → Int} {m : Nat} {d s : Int} (hd : 0 < d) (hdm : d ≤ m) (h0 : f 0 = 0) (R : Rep f m d s) : ∀ t, 0 ≤ t → cvAt (vals f m) d s t = f t := by
  have key : ∀ (k : Nat) (t : Int), 0 ≤ t → t ≤ k → cvAt (vals f m) d s t = f t := by
    intro k
    induction k with
    | zero =>
      intro t h1 h2
      have : t = 0 := by omega
      rw [this, cvAt_zero, h0]
    | succ k ih =>
      intro t h1 h2
      by_cases z : t = 0
      · rw [z, cvAt_zero, h0]
      · by_cases c : t ≤ (m : Int)
        · rw [cvAt_in (by omega) (by rw [vals_length]; exact c), vals_getD (by omega)]
          congr 1; omega
        · rw [cvAt_back hd (by rw [vals_length]; exact hdm) (by rw [vals_length]; omega), R t (by omega), ih (t - d) (by omega) (by omega)]
  intro t ht
  exact key t.toNat t ht (by omega)
/-- the form: period, gain, values -/
def formP (vs : List Int) (p g : Int) : Int × Int := leastP (cvAt vs p g) vs.length p
def formM (vs : List Int) (p g : Int) : Nat := shr (cvAt vs p g) (formP vs p g).1 (formP vs p g).2 vs.length
def formV (vs : List Int) (p g : Int) : List Int := vals (cvAt vs p g) (formM vs p g)
theorem form_spec {vs : List Int} {p g : Int} (hp : 0 < p) (hpn : p ≤ vs.length) :
    0 < (formP vs p g).1 ∧ (formP vs p g).1 ≤ p ∧ (formP vs p g).1 ≤ (formV vs p g).length ∧ (formV vs p g).length ≤ vs.length ∧
      ∀ t, 0 ≤ t → cvAt (formV vs p g) (formP vs p g).1 (formP vs p g).2 t = cvAt vs p g t := by
  obtain ⟨a, b, R⟩ := leastP_spec (Rep.cvAt (g := g) hp hpn) hp
  obtain ⟨c, d, R'⟩ := shr_spec a vs.length (show (formP vs p g).1 ≤ _ from Int.le_trans b hpn) R
  refine ⟨a, b, ?_, ?_, ?_⟩
  · unfold formV; rw [vals_length]; exact c
  · unfold formV; rw [vals_length]; exact d
  · exact cvAt_vals a c cvAt_zero R'
end VM

/-! Records: sums of windows; plain Lean. -/
namespace VM
/-- the units ahead of tick i -/
def pre (us : List Int) (i : Int) : Int := (us.take i.toNat).sum
def win (us : List Int) (s k : Int) : Int := pre us (s + k) - pre us s
/-- the sum of a slice -/
theorem sum_cut (us : List Int) (s k : Nat) : ((us.drop s).take k).sum = win us s k := by
  unfold win pre
  have e : (((s : Int) + k).toNat) = s + k := by omega
  have e2 : ((s : Int).toNat) = s := by omega
  rw [e, e2, List.take_add, List.sum_append]
  omega
theorem pre_zero (us : List Int) : pre us 0 = 0 := by simp [pre]
theorem pre_all (us : List Int) : pre us us.length = us.sum := by
  unfold pre
  rw [show ((us.length : Nat) : Int).toNat = us.length by omega, List.take_length]
theorem pre_step {us : List Int} {i : Nat} (h : i < us.length) : pre us ((i : Int) + 1) = pre us i + us.getD i 0 := by
  unfold pre
  rw [show ((i : Int) + 1).toNat = i + 1 by omega, show ((i : Int)).toNat = i by omega, List.take_add_one, List.sum_append]
  rw [List.getD_eq_getElem?_getD, List.getElem?_eq_getElem h]
  simp
/-- the first i from a on, of k many, of which P -/
def firstN (p : Nat → Bool) : Nat → Nat → Option Nat
  | 0, _ => none
  | k + 1, i => if p i = true then some i else firstN p k (i + 1)
/-- windows by their length: the first with more than f allows -/
def brk (f : Int → Int) (us : List Int) : Nat → Nat → Option (Int × Int × Int)
  | 0, _ => none
  | k + 1, len => match firstN (fun s => decide (f len < win us s len)) (us.length + 1 - len) 0 with
    | some s => some (len, s, win us s len - f len)
    | none => brk f us k (len + 1)
def breachM (f : Int → Int) (us : List Int) : Option (Int × Int × Int) := brk f us us.length 1
theorem brk_congr {f g : Int → Int} {us : List Int} : ∀ (k len : Nat), (∀ t : Int, (len : Int) ≤ t → t < len + k → f t = g t) → brk f us k len = brk g us k len
  | 0, _, _ => rfl
  | k + 1, len, h => by
    unfold brk
    rw [h len (by omega) (by omega), brk_congr k (len + 1) fun t h1 h2 => h t (by omega) (by omega)]
theorem breachM_congr {f g : Int → Int} {us : List Int} (h : ∀ t : Int, 1 ≤ t → t ≤ us.length → f t = g t) : breachM f us = breachM g us :=
  brk_congr _ _ fun t h1 h2 => h t (by omega) (by omega)
def IsMax (l : List Int) (m : Int) : Prop := m ∈ l ∧ ∀ y ∈ l, y ≤ m
theorem IsMax.eq {l : List Int} {m n : Int} (a : IsMax l m) (b : IsMax l n) : m = n := by
  have h1 := a.2 n b.1
  have h2 := b.2 m a.1
  omega
end VM

/-! Records that enter as early as a curve allows; plain Lean. -/
namespace VM
theorem snoc_ind {P : List Int → Prop} (h0 : P []) (h1 : ∀ l x, P l → P (l ++ [x])) (l : List Int) : P l := by
  have a : ∀ r : List Int, P r.reverse := fun r => by
    induction r with
    | nil => exact h0
    | cons a r ih => rw [List.reverse_cons]; exact h1 _ _ ih
  have b := a l.reverse
  rwa [List.reverse_reverse] at b
/-- the last k units -/
def tl (us : List Int) (k : Nat) : Int := win us ((us.length : Int) - k) k
theorem tl_zero {us : List Int} : tl us 0 = 0 := by
  unfold tl win
  rw [show (us.length : Int) - ((0 : Nat) : Int) + ((0 : Nat) : Int) = (us.length : Int) - ((0 : Nat) : Int) by omega]
  omega
theorem pre_push {e : List Int} {x i : Int} (h : i ≤ e.length) : pre (e ++ [x]) i = pre e i := by
  unfold pre
  rw [List.take_append_of_le_length (by omega)]
theorem pre_last {e : List Int} {x i : Int} (h : i = (e.length : Int) + 1) : pre (e ++ [x]) i = pre e e.length + x := by
  unfold pre
  rw [List.take_of_length_le (by rw [List.length_append, List.length_singleton]; omega), List.take_of_length_le (by omega), List.sum_append]
  simp
theorem tl_push {e : List Int} {x : Int} {k : Nat} (h : k ≤ e.length) : tl (e ++ [x]) (k + 1) = tl e k + x := by
  unfold tl win
  rw [List.length_append, List.length_singleton, pre_last (by omega), pre_push (by omega)]
  rw [show ((e.length + 1 : Nat) : Int) - ((k + 1 : Nat) : Int) = (e.length : Int) - k by omega, show (e.length : Int) - (k : Int) + (k : Int) = e.length by omega]
  omega
/-- one tick further back -/
theorem tl_step {us : List Int} {k : Nat} (h : k < us.length) : tl us (k + 1) = tl us k + us.getD (us.length - 1 - k) 0 := by
  unfold tl win
  rw [show (us.length : Int) - ((k + 1 : Nat) : Int) + ((k + 1 : Nat) : Int) = us.length by omega, show (us.length : Int) - ((k : Nat) : Int) + ((k : Nat) : Int) = us.length by omega]
  have e := pre_step (us := us) (i := us.length - 1 - k) (by omega)
  rw [show ((us.length - 1 - k : Nat) : Int) + 1 = (us.length : Int) - (k : Nat) by omega] at e
  rw [show (us.length : Int) - ((k + 1 : Nat) : Int) = ((us.length - 1 - k : Nat) : Int) by omega]
  omega
/-- how many may enter behind us, as the windows up to k + 1 tell -/
def freeK (f : Int → Int) (us : List Int) : Nat → Int
  | 0 => f 1
  | k + 1 => min (freeK f us k) (f ((k : Int) + 2) - tl us (k + 1))
def freeM (f : Int → Int) (us : List Int) : Int := freeK f us us.length
theorem le_freeK {f : Int → Int} {us : List Int} {c : Int} : ∀ {n : Nat}, c ≤ freeK f us n ↔ ∀ k : Nat, k ≤ n → tl us k + c ≤ f ((k : Int) + 1)
  | 0 => by
    constructor
    · intro h k hk
      have : k = 0 := by omega
      subst this
      rw [tl_zero]
      have : c ≤ f 1 := h
      show 0 + c ≤ f 1
      omega
    · intro h
      have := h 0 (Nat.le_refl _)
      rw [tl_zero] at this
      have e : 0 + c ≤ f 1 := this
      show c ≤ f 1
      omega
  | n + 1 => by
    have ih := le_freeK (f := f) (us := us) (c := c) (n := n)
    constructor
    · intro h k hk
      unfold freeK at h
      by_cases z : k = n + 1
      · subst z
        rw [show ((n + 1 : Nat) : Int) + 1 = (n : Int) + 2 by omega]
        omega
      · exact ih.mp (by omega) k (by omega)
    · intro h
      have a := ih.mpr fun k hk => h k (by omega)
      have b := h (n + 1) (Nat.le_refl _)
      rw [show ((n + 1 : Nat) : Int) + 1 = (n : Int) + 2 by omega] at b
      unfold freeK
      omega
theorem le_free {f : Int → Int} {us : List Int} {c : Int} : c ≤ freeM f us ↔ ∀ k : Nat, k ≤ us.length → tl us k + c ≤ f ((k : Int) + 1) := le_freeK
/-- no window has too many -/
def Kept (f : Int → Int) (us : List Int) : Prop := ∀ s k : Nat, 1 ≤ k → s + k ≤ us.length → win us s k ≤ f k
theorem Kept.push {f : Int → Int} {e : List Int} {x : Int} (h : Kept f e) (hx : x ≤ freeM f e) : Kept f (e ++ [x]) := by
  intro s k h1 h2
  rw [List.length_append, List.length_singleton] at h2
  by_cases c : s + k ≤ e.length
  · have := h s k h1 c
    unfold win at this ⊢
    rw [pre_push (by omega), pre_push (by omega)]
    exact this
  · have a := le_free.mp hx (k - 1) (by omega)
    have b := tl_push (e := e) (x := x) (k := k - 1) (by omega)
    rw [show k - 1 + 1 = k by omega] at b
    unfold tl at b
    rw [List.length_append, List.length_singleton, show ((e.length + 1 : Nat) : Int) - (k : Int) = (s : Int) by omega] at b
    rw [show ((k - 1 : Nat) : Int) + 1 = (k : Int) by omega] at a
    rw [b]
    exact a
theorem Kept.front {f : Int → Int} {e : List Int} {x : Int} (h : Kept f (e ++ [x])) : Kept f e := by
  intro s k h1 h2
  have a := h s k h1 (by rw [List.length_append, List.length_singleton]; omega)
  unfold win at a ⊢
  rw [pre_push (by omega), pre_push (by omega)] at a
  exact a
theorem Kept.free {f : Int → Int} {e : List Int} {x : Int} (h : Kept f (e ++ [x])) : x ≤ freeM f e := by
  refine le_free.mpr fun k hk => ?_
  have a := h (e.length - k) (k + 1) (by omega) (by rw [List.length_append, List.length_singleton]; omega)
  have b := tl_push (e := e) (x := x) (k := k) hk
  unfold tl at b
  rw [List.length_append, List.length_singleton, show ((e.length + 1 : Nat) : Int) - ((k + 1 : Nat) : Int) = ((e.length - k : Nat) : Int) by omega] at b
  rw [b] at a
  have z : ((k + 1 : Nat) : Int) = (k : Int) + 1 := by omega
  rw [z] at a
  exact a
theorem Kept.nil {f : Int → Int} : Kept f [] := fun s k h1 h2 => by
  have : s + k ≤ 0 := h2
  omega
theorem firstN_none {p : Nat → Bool} : ∀ {k i : Nat}, firstN p k i = none ↔ ∀ j, i ≤ j → j < i + k → p j = false
  | 0, i => ⟨fun _ => fun j a b => absurd b (by omega), fun _ => rfl⟩
  | k + 1, i => by
    have ih := firstN_none (p := p) (k := k) (i := i + 1)
    unfold firstN
    by_cases c : p i = true
    · rw [if_pos c]
      refine ⟨fun h => (by cases h), fun h => ?_⟩
      rw [h i (Nat.le_refl _) (by omega)] at c
      cases c
    · rw [if_neg c, ih]
      refine ⟨fun h j a b => ?_, fun h j a b => h j (by omega) (by omega)⟩
      by_cases z : j = i
      · rw [z]; simpa using c
      · exact h j (by omega) (by omega)
theorem brk_none {f : Int → Int} {us : List Int} : ∀ {k len : Nat}, brk f us k len = none ↔ ∀ t : Nat, len ≤ t → t < len + k → ∀ s : Nat, s < us.length + 1 - t → win us s t ≤ f t
  | 0, len => ⟨fun _ => fun t a b => absurd b (by omega), fun _ => rfl⟩
  | k + 1, len => by
    have ih := brk_none (f := f) (us := us) (k := k) (len := len + 1)
    have fn := firstN_none (p := fun s => decide (f len < win us s len)) (k := us.length + 1 - len) (i := 0)
    unfold brk
    cases hh : firstN (fun s => decide (f len < win us s len)) (us.length + 1 - len) 0 with
    | some s =>
      refine ⟨fun h => (by cases h), fun h => ?_⟩
      have : firstN (fun s => decide (f len < win us s len)) (us.length + 1 - len) 0 = none := fn.mpr fun j _ b => by
        have := h len (Nat.le_refl _) (by omega) j (by omega)
        exact decide_eq_false (by omega)
      rw [hh] at this; cases this
    | none =>
      show brk f us k (len + 1) = none ↔ _
      rw [ih]
      refine ⟨fun h t a b s hs => ?_, fun h t a b s hs => h t (by omega) (by omega) s hs⟩
      by_cases z : t = len
      · subst z
        have := fn.mp hh s (Nat.zero_le _) (by omega)
        have := of_decide_eq_false this
        omega
      · exact h t (by omega) (by omega) s hs
theorem kept_iff {f : Int → Int} {us : List Int} : breachM f us = none ↔ Kept f us := by
  unfold breachM
  rw [brk_none]
  exact ⟨fun h s k h1 h2 => h k h1 (by omega) s (by omega), fun h t a b s hs => h s t a (by omega)⟩
/-! ### shaped -/
def shS (f : Int → Int) (st : List Int × Int) (u : Int) : List Int × Int := (st.1 ++ [min (st.2 + u) (freeM f st.1)], st.2 + u - min (st.2 + u) (freeM f st.1))
def shG (f : Int → Int) (us : List Int) : List Int × Int := us.foldl (shS f) ([], 0)
def shapedM (f : Int → Int) (us : List Int) : List Int := (shG f us).1
theorem shG_push {f : Int → Int} {us : List Int} {u : Int} : shG f (us ++ [u]) = shS f (shG f us) u := by
  unfold shG; rw [List.foldl_append]; rfl
theorem shG_take {f : Int → Int} {us : List Int} {i : Nat} (h : i < us.length) : shG f (us.take (i + 1)) = shS f (shG f (us.take i)) (us.getD i 0) := by
  rw [← shG_push, List.take_add_one, List.getElem?_eq_getElem h, List.getD_eq_getElem?_getD, List.getElem?_eq_getElem h]
  rfl
theorem shG_length {f : Int → Int} (us : List Int) : (shG f us).1.length = us.length := by
  refine snoc_ind (P := fun us => (shG f us).1.length = us.length) rfl (fun l x ih => ?_) us
  show (shG f (l ++ [x])).1.length = (l ++ [x]).length
  rw [shG_push]
  unfold shS
  rw [List.length_append, List.length_append, ih]
  rfl
theorem shaped_length {f : Int → Int} (us : List Int) : (shapedM f us).length = us.length := shG_length us
theorem shaped_kept {f : Int → Int} (us : List Int) : Kept f (shapedM f us) := by
  refine snoc_ind (P := fun us => Kept f (shapedM f us)) Kept.nil (fun l x ih => ?_) us
  show Kept f (shG f (l ++ [x])).1
  rw [shG_push]
  exact Kept.push ih (by show min _ _ ≤ _; unfold shapedM at *; omega)
theorem kept_shaped {f : Int → Int} {us : List Int} (h : Kept f us) : shG f us = (us, 0) := by
  revert h
  refine snoc_ind (P := fun us => Kept f us → shG f us = (us, 0)) (fun _ => rfl) (fun l x ih h => ?_) us
  have a := h.free
  rw [shG_push, ih h.front]
  unfold shS
  simp only
  rw [show min (0 + x) (freeM f l) = x by omega]
  congr 1
  omega
/-- rising values from 1 on -/
structure Up (f : Int → Int) : Prop where
  one : 0 ≤ f 1
  up : ∀ k : Nat, 1 ≤ k → f k ≤ f ((k : Int) + 1)
theorem Up.free {f : Int → Int} (U : Up f) {e : List Int} (h : Kept f e) : 0 ≤ freeM f e := by
  refine le_free.mpr fun k hk => ?_
  by_cases z : k = 0
  · subst z
    rw [tl_zero]
    have := U.one
    show 0 + 0 ≤ f 1
    omega
  · have a := h (e.length - k) k (by omega) (by omega)
    have b := U.up k (by omega)
    unfold tl
    rw [show (e.length : Int) - (k : Int) = ((e.length - k : Nat) : Int) by omega]
    omega
theorem sum_snoc {l : List Int} {x : Int} : (l ++ [x]).sum = l.sum + x := by rw [List.sum_append]; simp
/-- what entered and waits: counts, together what came -/
theorem shG_bound {f : Int → Int} (U : Up f) {us : List Int} (h : ∀ u ∈ us, 0 ≤ u) : 0 ≤ (shG f us).2 ∧ (shG f us).1.sum + (shG f us).2 = us.sum ∧ ∀ x ∈ (shG f us).1, 0 ≤ x ∧ x ≤ us.sum := by
  revert h
  refine snoc_ind (P := fun us => (∀ u ∈ us, 0 ≤ u) → 0 ≤ (shG f us).2 ∧ (shG f us).1.sum + (shG f us).2 = us.sum ∧ ∀ x ∈ (shG f us).1, 0 ≤ x ∧ x ≤ us.sum) (fun _ => ⟨Int.le_refl _, rfl, fun x hx => by cases hx⟩) (fun l u ih h => ?_) us
  have hu := h u (by simp)
  obtain ⟨a, b, c⟩ := ih fun y hy => h y (List.mem_append_left _ hy)
  have fr := U.free (shaped_kept (f := f) l)
  unfold shapedM at fr
  have ps : 0 ≤ (shG f l).1.sum := by
    have : ∀ r : List Int, (∀ x ∈ r, 0 ≤ x) → 0 ≤ r.sum := fun r => by
      induction r with
      | nil => intro _; decide
      | cons z r ih => intro q; rw [List.sum_cons]; have := q z List.mem_cons_self; have := ih fun y hy => q y (List.mem_cons_of_mem _ hy); omega
    exact this _ fun x hx => (c x hx).1
  rw [shG_push, sum_snoc]
  unfold shS
  simp only [sum_snoc]
  refine ⟨by omega, by omega, fun x hx => ?_⟩
  rcases List.mem_append.mp hx with q | q
  · have := c x q; omega
  · cases List.mem_singleton.mp q
    omega
theorem shaped_front {f : Int → Int} {us vs : List Int} : (shapedM f (us ++ vs)).take us.length = shapedM f us := by
  refine snoc_ind (P := fun vs => (shapedM f (us ++ vs)).take us.length = shapedM f us) ?_ (fun l x ih => ?_) vs
  · show (shapedM f (us ++ [])).take us.length = shapedM f us
    rw [List.append_nil, ← shaped_length (f := f) us, List.take_length]
  · show (shapedM f (us ++ (l ++ [x]))).take us.length = shapedM f us
    rw [← List.append_assoc]
    unfold shapedM at ih ⊢
    rw [shG_push]
    unfold shS
    rw [List.take_append_of_le_length (by rw [shG_length, List.length_append]; omega)]
    exact ih
theorem freeK_congr {f g : Int → Int} {e : List Int} : ∀ {n : Nat}, (∀ t : Int, 1 ≤ t → t ≤ (n : Int) + 1 → f t = g t) → freeK f e n = freeK g e n
  | 0, h => h 1 (by omega) (by omega)
  | n + 1, h => by
    unfold freeK
    rw [freeK_congr (n := n) fun t a b => h t a (by omega), h ((n : Int) + 2) (by omega) (by omega)]
theorem shG_congr {f g : Int → Int} {us : List Int} (h : ∀ t : Int, 1 ≤ t → t ≤ us.length → f t = g t) : shG f us = shG g us := by
  revert h
  refine snoc_ind (P := fun us => (∀ t : Int, 1 ≤ t → t ≤ us.length → f t = g t) → shG f us = shG g us) (fun _ => rfl) (fun l x ih h => ?_) us
  rw [List.length_append, List.length_singleton] at h
  rw [shG_push, shG_push, ih fun t a b => h t a (by omega)]
  unfold shS freeM
  rw [freeK_congr fun t a b => h t a (by rw [shG_length] at b; omega)]
/-- a curve that rises where it is written rises -/
theorem up_cv {vs : List Int} {p g : Int} (hp : 0 < p) (hpn : p ≤ vs.length) (h0 : 0 ≤ vs.getD 0 0) (up : ∀ i, i + 1 < vs.length → vs.getD i 0 ≤ vs.getD (i + 1) 0) (last : vs.getD (vs.length - 1) 0 ≤ vs.getD (vs.length - p.toNat) 0 + g) : Up (cvAt vs p g) := by
  refine ⟨by rw [cvAt_in (by decide) (by omega)]; exact h0, fun k => ?_⟩
  induction k using Nat.strongRecOn with
  | ind k ih =>
    intro h1
    by_cases c : k < vs.length
    · rw [cvAt_in (by omega) (by omega), cvAt_in (by omega) (by omega), show ((k : Int) - 1).toNat = k - 1 by omega, show ((k : Int) + 1 - 1).toNat = k - 1 + 1 by omega]
      exact up (k - 1) (by omega)
    · by_cases d : k = vs.length
      · rw [cvAt_back (t := (k : Int) + 1) hp hpn (by omega), cvAt_in (by omega) (by omega), cvAt_in (by omega) (by omega), show ((k : Int) - 1).toNat = vs.length - 1 by omega, show ((k : Int) + 1 - p - 1).toNat = vs.length - p.toNat by omega]
        exact last
      · rw [cvAt_back (t := (k : Int) + 1) hp hpn (by omega), cvAt_back (t := (k : Int)) hp hpn (by omega)]
        have := ih (k - p.toNat) (by omega) (by omega)
        rw [show ((k - p.toNat : Nat) : Int) = (k : Int) - p by omega] at this
        rw [show (k : Int) + 1 - p = (k : Int) - p + 1 by omega]
        omega
/-- no pair of lengths up to n shows a break -/
def goodB (f : Int → Int) (n : Nat) : Bool := (List.range n).all fun a => (List.range (a + 1)).all fun b => decide (f ((a : Int) + 1 + ((b : Int) + 1)) ≤ f ((a : Int) + 1) + f ((b : Int) + 1))
theorem good_at {f : Int → Int} {n : Nat} (h : goodB f n = true) {a b : Int} (h1 : 1 ≤ b) (h2 : b ≤ a) (h3 : a ≤ n) : f (a + b) ≤ f a + f b := by
  unfold goodB at h
  rw [List.all_eq_true] at h
  have x := h (a - 1).toNat (List.mem_range.mpr (by omega))
  rw [List.all_eq_true] at x
  have y := of_decide_eq_true (x (b - 1).toNat (List.mem_range.mpr (by omega)))
  rw [show (((a - 1).toNat : Nat) : Int) + 1 = a by omega, show (((b - 1).toNat : Nat) : Int) + 1 = b by omega] at y
  exact y
end VM

/-! shaped is the greatest; curves that are good at all lengths; greedy records; plain Lean. -/
namespace VM
/-- no unit of vs enters ahead of its coming in us -/
def Behind (us vs : List Int) : Prop := vs.length = us.length ∧ ∀ i : Nat, i ≤ us.length → pre vs i ≤ pre us i
theorem pre_take {us : List Int} {i : Nat} : pre us i = (us.take i).sum := by
  unfold pre; rw [Int.toNat_natCast]
theorem pre_len {us : List Int} {i : Int} (h : (us.length : Int) ≤ i) : pre us i = us.sum := by
  unfold pre; rw [List.take_of_length_le (by omega)]
theorem tl_pre {us : List Int} {k : Nat} (h : k ≤ us.length) : tl us k = us.sum - pre us ((us.length : Int) - k) := by
  unfold tl win
  rw [show (us.length : Int) - (k : Int) + (k : Int) = us.length by omega, pre_all]
/-- free is one of the windows -/
theorem freeK_some {f : Int → Int} {us : List Int} : ∀ n : Nat, ∃ k : Nat, k ≤ n ∧ freeK f us n = f ((k : Int) + 1) - tl us k
  | 0 => ⟨0, Nat.le_refl _, by rw [tl_zero]; show f 1 = f ((0 : Int) + 1) - 0; rw [Int.zero_add]; omega⟩
  | n + 1 => by
    obtain ⟨k, hk, e⟩ := freeK_some (f := f) (us := us) n
    unfold freeK
    by_cases c : freeK f us n ≤ f ((n : Int) + 2) - tl us (n + 1)
    · exact ⟨k, by omega, by omega⟩
    · refine ⟨n + 1, Nat.le_refl _, ?_⟩
      rw [show ((n + 1 : Nat) : Int) + 1 = (n : Int) + 2 by omega]
      omega
theorem shG_front {f : Int → Int} {us : List Int} {i : Nat} (h : i ≤ us.length) : (shG f (us.take i)).1 = (shapedM f us).take i := by
  have e : us.take i ++ us.drop i = us := List.take_append_drop i us
  have s := shaped_front (f := f) (us := us.take i) (vs := us.drop i)
  rw [e, List.length_take, Nat.min_eq_left h] at s
  exact s.symm
theorem shG_sum {f : Int → Int} (us : List Int) : (shG f us).1.sum + (shG f us).2 = us.sum := by
  refine snoc_ind (P := fun us => (shG f us).1.sum + (shG f us).2 = us.sum) rfl (fun l u ih => ?_) us
  show (shG f (l ++ [u])).1.sum + (shG f (l ++ [u])).2 = (l ++ [u]).sum
  rw [shG_push, sum_snoc]
  unfold shS
  simp only [sum_snoc]
  omega
/-- the units so far of the shaped record -/
theorem shaped_pre {f : Int → Int} {us : List Int} {i : Nat} (h : i ≤ us.length) : pre (shapedM f us) i = (shG f (us.take i)).1.sum := by
  rw [shG_front h, pre_take]
theorem shaped_greatest {f : Int → Int} {us vs : List Int} (B : Behind us vs) (K : Kept f vs) : ∀ i : Nat, i ≤ us.length → pre vs i ≤ pre (shapedM f us) i := by
  intro i
  induction i using Nat.strongRecOn with
  | ind i ih =>
    intro hi
    match i with
    | 0 => rw [show ((0 : Nat) : Int) = 0 from rfl, pre_zero, pre_zero]; exact Int.le_refl _
    | i + 1 =>
      have st := shG_take (f := f) (us := us) (i := i) (by omega)
      have sm := shG_sum (f := f) (us.take i)
      have p1 := shaped_pre (f := f) (us := us) (i := i + 1) hi
      have p0 := shaped_pre (f := f) (us := us) (i := i) (by omega)
      have lg : (shG f (us.take i)).1.length = i := by rw [shG_length, List.length_take]; omega
      rw [p1, st]
      have us1 := pre_step (us := us) (i := i) (by omega)
      have ut : (us.take i).sum = pre us i := pre_take.symm
      have bi := B.2 (i + 1) hi
      rw [show ((i + 1 : Nat) : Int) = (i : Int) + 1 by omega] at bi ⊢
      unfold shS
      simp only [sum_snoc]
      by_cases c : (shG f (us.take i)).2 + us.getD i 0 ≤ freeM f (shG f (us.take i)).1
      · omega
      · obtain ⟨k, hk, e⟩ := freeK_some (f := f) (us := (shG f (us.take i)).1) (shG f (us.take i)).1.length
        rw [lg] at hk
        have tp := tl_pre (us := (shG f (us.take i)).1) (k := k) (by omega)
        rw [lg] at tp
        have pk : pre (shG f (us.take i)).1 ((i : Int) - k) = pre (shapedM f us) ((i - k : Nat) : Int) := by
          rw [shG_front (by omega), show (i : Int) - (k : Int) = ((i - k : Nat) : Int) by omega, pre_take, pre_take, List.take_take, Nat.min_eq_left (by omega)]
        have q := ih (i - k) (by omega) (by omega)
        have w := K (i - k) (k + 1) (by omega) (by rw [B.1]; omega)
        unfold win at w
        rw [show ((i - k : Nat) : Int) + ((k + 1 : Nat) : Int) = (i : Int) + 1 by omega, show ((k + 1 : Nat) : Int) = (k : Int) + 1 by omega] at w
        have fm : freeM f (shG f (us.take i)).1 = f ((k : Int) + 1) - tl (shG f (us.take i)).1 k := e
        omega
/-- the shaped record is behind what comes -/
theorem shaped_behind {f : Int → Int} {us : List Int} (U : Up f) (h : ∀ u ∈ us, 0 ≤ u) : Behind us (shapedM f us) := by
  refine ⟨shaped_length us, fun i hi => ?_⟩
  have a := shG_bound (f := f) U (us := us.take i) fun u hu => h u (List.mem_of_mem_take hu)
  rw [shaped_pre hi, pre_take]
  omega
/-- good at the lengths of the form: good at all lengths -/
theorem good_all {f : Int → Int} {n p g : Int} (R : Rep f n p g) (hp : 0 < p) (hpn : p ≤ n) (h0 : f 0 = 0) (G : ∀ a b : Int, 1 ≤ b → b ≤ a → a ≤ n → f (a + b) ≤ f a + f b) : ∀ a b : Int, 0 ≤ a → 0 ≤ b → f (a + b) ≤ f a + f b := by
  have half : ∀ (k : Nat) (a b : Int), 0 ≤ b → b ≤ a → a + b = k → f (a + b) ≤ f a + f b := by
    intro k
    induction k using Nat.strongRecOn with
    | ind k ih =>
      intro a b hb hba e
      by_cases z : b = 0
      · subst z; rw [h0, Int.add_zero]; omega
      · by_cases c : a ≤ n
        · exact G a b (by omega) hba c
        · have r1 := R a (by omega)
          have r2 := R (a + b) (by omega)
          rw [show a + b - p = a - p + b by omega] at r2
          have : f (a - p + b) ≤ f (a - p) + f b := by
            by_cases d : b ≤ a - p
            · exact ih (a - p + b).toNat (by omega) (a - p) b hb d (by omega)
            · have := ih (a - p + b).toNat (by omega) b (a - p) (by omega) (by omega) (by omega)
              rw [show b + (a - p) = a - p + b by omega] at this
              omega
          omega
  intro a b ha hb
  by_cases c : b ≤ a
  · exact half (a + b).toNat a b hb c (by omega)
  · have := half (a + b).toNat b a ha (by omega) (by omega)
    rw [show b + a = a + b by omega] at this
    omega
/-- the greedy record of n ticks -/
def greedyM (f : Int → Int) (n : Nat) : List Int := (List.range n).map fun t : Nat => f ((t : Int) + 1) - f t
theorem greedy_length {f : Int → Int} {n : Nat} : (greedyM f n).length = n := by simp [greedyM]
theorem greedy_succ {f : Int → Int} {n : Nat} : greedyM f (n + 1) = greedyM f n ++ [f ((n : Int) + 1) - f n] := by
  unfold greedyM; rw [List.range_succ, List.map_append]; rfl
theorem greedy_sum {f : Int → Int} (h0 : f 0 = 0) : ∀ n : Nat, (greedyM f n).sum = f n
  | 0 => by show (0 : Int) = f 0; omega
  | n + 1 => by
    rw [greedy_succ, sum_snoc, greedy_sum h0 n, show ((n + 1 : Nat) : Int) = (n : Int) + 1 by omega]
    omega
theorem greedy_take {f : Int → Int} {n i : Nat} (h : i ≤ n) : (greedyM f n).take i = greedyM f i := by
  unfold greedyM; rw [← List.map_take, List.take_range, Nat.min_eq_left h]
theorem greedy_pre {f : Int → Int} (h0 : f 0 = 0) {n i : Nat} (h : i ≤ n) : pre (greedyM f n) i = f i := by
  rw [pre_take, greedy_take h, greedy_sum h0]
theorem greedy_kept {f : Int → Int} (h0 : f 0 = 0) (G : ∀ a b : Int, 0 ≤ a → 0 ≤ b → f (a + b) ≤ f a + f b) (n : Nat) : Kept f (greedyM f n) := by
  intro s k h1 h2
  rw [greedy_length] at h2
  unfold win
  rw [show (s : Int) + (k : Int) = ((s + k : Nat) : Int) by omega, greedy_pre h0 h2, greedy_pre h0 (by omega)]
  have := G s k (by omega) (by omega)
  rw [show ((s + k : Nat) : Int) = (s : Int) + (k : Int) by omega]
  omega
/-- ahead of every record that keeps the curve -/
theorem greedy_ahead {f : Int → Int} (h0 : f 0 = 0) {vs : List Int} (K : Kept f vs) {n i : Nat} (hn : vs.length = n) (hi : i ≤ n) : pre vs i ≤ pre (greedyM f n) i := by
  rw [greedy_pre h0 hi]
  by_cases z : i = 0
  · subst z
    rw [show ((0 : Nat) : Int) = 0 from rfl, pre_zero, h0]
    exact Int.le_refl _
  · have := K 0 i (by omega) (by omega)
    unfold win at this
    rw [show ((0 : Nat) : Int) + (i : Int) = i by omega, show ((0 : Nat) : Int) = 0 from rfl, pre_zero] at this
    omega
end VM

/-! What repr may be asked of: shown, not deep, not long. -/
namespace VR
open PySem
structure Sz (k L : Nat) (d : PyData) : Prop where
  sh : d.showable = true
  dp : d.depth ≤ k
  ln : d.shown.length ≤ L
theorem Sz.mono {k L k' L' : Nat} {d : PyData} (h : Sz k L d) (a : k ≤ k') (b : L ≤ L') : Sz k' L' d := ⟨h.sh, Nat.le_trans h.dp a, Nat.le_trans h.ln b⟩
theorem Sz.none : Sz 0 5 .none := ⟨rfl, Nat.zero_le _, by decide⟩
theorem Sz.bool (b : Bool) : Sz 0 5 (.bool b) := ⟨rfl, Nat.zero_le _, by cases b <;> decide⟩
theorem log_small {n : Nat} (h : n < 10 ^ 100) : n.log2 < 1920 := by
  by_cases z : n = 0
  · subst z; decide
  · exact (Nat.log2_lt z).mpr (Nat.lt_trans h (by decide +kernel))
theorem Sz.int {i : Int} (h : i.natAbs < 10 ^ 100) : Sz 0 101 (.int i) := by
  refine ⟨by simp only [PyData.showable]; exact decide_eq_true (log_small h), Nat.zero_le _, ?_⟩
  have e := int_text_length_le10 (k := 100) (by decide) h
  show (Str.ofString (toString i)).length ≤ 101
  rw [ofString_length]; exact e
theorem all_show {k L : Nat} : ∀ {ds : List PyData}, (∀ d ∈ ds, Sz k L d) → PyData.showableAll ds = true
  | [], _ => rfl
  | d :: ds, h => by
    simp only [PyData.showableAll]
    rw [(h d List.mem_cons_self).sh, all_show fun e he => h e (List.mem_cons_of_mem _ he)]
    rfl
theorem all_depth {k L : Nat} : ∀ {ds : List PyData}, (∀ d ∈ ds, Sz k L d) → PyData.depthAll ds ≤ k
  | [], _ => Nat.zero_le _
  | d :: ds, h => by
    simp only [PyData.depthAll]
    exact Nat.max_le.mpr ⟨(h d List.mem_cons_self).dp, all_depth fun e he => h e (List.mem_cons_of_mem _ he)⟩
theorem all_len {k L : Nat} : ∀ {ds : List PyData}, (∀ d ∈ ds, Sz k L d) → ((PyData.shownAll ds).map (·.length)).sum ≤ L * ds.length ∧ (PyData.shownAll ds).length = ds.length
  | [], _ => ⟨Nat.zero_le _, rfl⟩
  | d :: ds, h => by
    have a := (h d List.mem_cons_self).ln
    obtain ⟨b, c⟩ := all_len (ds := ds) fun e he => h e (List.mem_cons_of_mem _ he)
    simp only [PyData.shownAll, List.map_cons, List.sum_cons, List.length_cons]
    refine ⟨?_, by omega⟩
    rw [Nat.mul_add, Nat.mul_one]
    omega
theorem Sz.list {k L n : Nat} {ds : List PyData} (h : ∀ d ∈ ds, Sz k L d) (hn : ds.length ≤ n) : Sz (k + 1) ((L + 2) * n + 3) (.list ds) := by
  refine ⟨by simp only [PyData.showable]; exact all_show h, by simp only [PyData.depth]; have := all_depth h; omega, ?_⟩
  obtain ⟨a, b⟩ := all_len h
  have c := listText_len_le (PyData.shownAll ds)
  simp only [PyData.shown]
  rw [b] at c
  have m : (L + 2) * ds.length ≤ (L + 2) * n := Nat.mul_le_mul_left _ hn
  rw [Nat.add_mul] at m
  omega
theorem Sz.tuple {k L n : Nat} {ds : List PyData} (h : ∀ d ∈ ds, Sz k L d) (hn : ds.length ≤ n) : Sz (k + 1) ((L + 2) * n + 3) (.tuple ds) := by
  refine ⟨by simp only [PyData.showable]; exact all_show h, by simp only [PyData.depth]; have := all_depth h; omega, ?_⟩
  obtain ⟨a, b⟩ := all_len h
  have c := tupleText_len_le (PyData.shownAll ds)
  simp only [PyData.shown]
  rw [b] at c
  have m : (L + 2) * ds.length ≤ (L + 2) * n := Nat.mul_le_mul_left _ hn
  rw [Nat.add_mul] at m
  omega
theorem Sz.ints {n : Nat} {us : List Int} (h : ∀ u ∈ us, u.natAbs < 10 ^ 100) (hn : us.length ≤ n) : Sz 1 (103 * n + 3) (.list (us.map PyData.int)) := by
  refine Sz.list (k := 0) (L := 101) (fun d hd => ?_) (by rw [List.length_map]; exact hn)
  obtain ⟨u, hu, rfl⟩ := List.mem_map.mp hd
  exact .int (h u hu)
end VR

/-! for i, x in enumerate(xs, start=k), and over reversed(xs). -/
namespace VE
open PySem PySem.Spec PyProof.Rows L2
section
variable {prog : Program} {w : World} {A : Around} {E : Value → Shared → Prop} {s : Shared}
theorem next_rev {it l : Addr} {i : Nat} {items : Array Value} {x : Value} {Q : Value → Shared → Prop} (hit : s.heap.IsRevIter it l (i : Int)) (hl : s.heap.IsList l items)
    (hx : items[i]? = some x) (hQ : ∀ h', h'.IsRevIter it l ((i : Int) - 1) → Heap.SameBut it s.heap h' → Q x { s with heap := h' }) :
    wpAny (model prog w) A (Builtin.SmallTypes.nextOf (.ref it)) Q E s := by
  obtain ⟨ob, g1, g2, g3⟩ := id hit
  obtain ⟨ol, k1, _, nl, k2⟩ := hl
  have slot := F.slot_lri_next
  unfold Builtin.SmallTypes.nextOf
  refine wpAny_bind (wpAny_callSpecial?_slot (name := Str.ofString "__next__") hit.typeIs slot (wpAny_call_entry slot hit.typeIs F.entry_lri_next ?_ (F.args_lri_next_1 _)))
  unfold Builtin.«list_reverseiterator.__next__» ; refine wpAny_bind (wpAny_of_eq (a := (Value.ref it, [])) rfl ?_)
  try dsimp only
  refine wpAny_bind (wpAny_field g1 g3 (x := rawInt (i : Int)) rfl ?_)
  show wpAny _ A.in1 (if (i : Int) < 0 then _ else _) _ _ s
  rw [if_neg (show ¬ (i : Int) < 0 by omega)]
  show wpAny _ A.in1 (field (.ref it) 0 >>= _) _ _ s
  refine wpAny_bind (wpAny_field g1 g3 (x := .ref l) rfl ?_)
  show wpAny _ A.in1 (seqItems? (.ref l) >>= _) _ _ s
  refine wpAny_bind (wpAny_seqItems k1 k2 ?_)
  simp only [Int.toNat_natCast, hx]
  refine wpAny_bind (wpAny_setField g1 g3 (by simp) ?_)
  have here : (s.heap.update it fun o => o.mapFields fun vs => vs.setIfInBounds 1 (rawInt ((i : Int) - 1))).IsRevIter it l ((i : Int) - 1) := by
    refine ⟨_, Heap.get?_update_self _ g1 (Obj.isFreed_of_fields (Obj.data_mapFields g3 _)), (Obj.cls_mapFields ..).trans g2, ?_⟩
    rw [Obj.data_mapFields g3]
    simp
  first
  | exact wpAny_pure ⟨x, rfl, wpAny_pure (hQ _ here (Heap.SameBut.update ..))⟩
  | exact wpAny_bind (wpAny_pure (wpAny_pure ⟨x, rfl, wpAny_pure (hQ _ here (Heap.SameBut.update ..))⟩))
theorem next_rev_end {it l : Addr} {Q : Value → Shared → Prop} (hh : A.handled = none) (hit : s.heap.IsRevIter it l (-1))
    (hE : ∀ h' e, Heap.ExtBut it s.heap h' → (∃ o, h'.get? e = some o ∧ o.cls = .type "StopIteration") → E (.ref e) { s with heap := h' }) :
    wpAny (model prog w) A (Builtin.SmallTypes.nextOf (.ref it)) Q E s := by
  obtain ⟨ob, g1, g2, g3⟩ := id hit
  have slot := F.slot_lri_next
  unfold Builtin.SmallTypes.nextOf
  refine wpAny_bind (wpAny_callSpecial?_slot (name := Str.ofString "__next__") hit.typeIs slot (wpAny_call_entry slot hit.typeIs F.entry_lri_next ?_ (F.args_lri_next_1 _)))
  unfold Builtin.«list_reverseiterator.__next__» ; refine wpAny_bind (wpAny_of_eq (a := (Value.ref it, [])) rfl ?_)
  try dsimp only
  refine wpAny_bind (wpAny_field g1 g3 (x := rawInt (-1)) rfl ?_)
  show wpAny _ A.in1 (if (-1 : Int) < 0 then _ else _) _ _ s
  rw [if_pos (show (-1 : Int) < 0 by decide)]
  refine wpAny_bind (wpAny_rule ?_)
  first
  | show wpAny _ A.in1 (newExc (.type "StopIteration") [] >>= _) _ _ _
  | (refine wpAny_bind ?_; show wpAny _ A.in1 (newExc (.type "StopIteration") [] >>= _) _ _ _)
  refine wpAny_bind ?_
  simp only [newExc, newTuple]
  refine wpAny_bind (wpAny_newObj_type ?_ (by size_fits)) ; refine wpAny_bind (m := firstArgMember _ _) (wpAny_of_eq (a := Value.none) (by first | rfl | (simp only [firstArgMember]; rfl)) ?_)
  refine wpAny_newObj_type ?_ (by size_fits)
  simp only [raiseNew]
  refine wpAny_bind (wpAny_handled ?_)
  first | rw [show A.in1.handled = none from hh] | rw [hh]
  refine wpAny_bind (wpAny_pure (wpAny_throw ?_))
  exact hE _ _ (((Heap.ExtBut.refl _ _).push _).push _) ⟨_, Heap.get?_push_size _ rfl, rfl⟩
end
theorem draws_rev {prog : Program} {w : World} {A : Around} (hh : A.handled = none) (it l : Addr) (hne : l ≠ it) (items : Array Value) :
    Draws prog w A it [it, l] items.size (fun i v => items[items.size - 1 - i]? = some v)
      (fun i h => i ≤ items.size ∧ h.IsRevIter it l ((items.size : Int) - 1 - (i : Int)) ∧ h.IsList l items) where
  live := fun _ _ st => let ⟨o, ho, _⟩ := st.2.1; ⟨o, ho⟩
  frame := fun _ _ _ st k => ⟨st.1, st.2.1.at fun o e => k it (by simp) o e, st.2.2.at fun o e => k l (by simp) o e⟩
  item := fun i s Q E hi st hQ => by
    obtain ⟨_, hit, hl⟩ := st
    rw [show (items.size : Int) - 1 - (i : Int) = ((items.size - 1 - i : Nat) : Int) by omega] at hit
    have hx : items[items.size - 1 - i]? = some (items[items.size - 1 - i]'(by omega)) := Array.getElem?_eq_getElem (by omega)
    refine next_rev hit hl hx fun h' hit' sb => hQ _ h' s.toks hx ⟨hi, ?_, hl.extBut sb.extBut hne⟩ sb
    rw [show (items.size : Int) - 1 - ((i + 1 : Nat) : Int) = ((items.size - 1 - i : Nat) : Int) - 1 by omega]
    exact hit'
  done := fun s Q E st hE => by
    obtain ⟨_, hit, _⟩ := st
    rw [show (items.size : Int) - 1 - (items.size : Int) = -1 by omega] at hit
    exact next_rev_end hh hit hE

/-- what may be iterated as it is: iter(v) is v -/
structure Self (v : Value) (H : Heap → Prop) : Prop where
  iter : ∀ (prog : Program) (w : World) (A : Around) (E : Value → Shared → Prop) (s : Shared) (Q : Value → Shared → Prop), H s.heap → Q v s → wpAny (model prog w) A (pyIter v) Q E s
theorem self_rev (it l : Addr) (i : Int) : Self (.ref it) fun h => h.IsRevIter it l i := ⟨fun _ _ _ _ _ _ h q => wpAny_pyIter_revIter h q⟩
set_option maxHeartbeats 4000000 in
theorem new_enum {v : Value} {H : Heap → Prop} (B : Self v H) (k : Int) (t : Tok) (hfit : Builtin.SmallTypes.fitsIndex k = true) :
    Meets (Builtin.«enumerate.__new__» ⟨[.type "enumerate", v], [(Str.ofString "start", .int k t)]⟩) (fun _ R s => H s.heap ∧
      R (.ok (.ret (.ref s.heap.objs.size))) { s with heap := s.heap.push { cls := .type "enumerate", data := .fields #[.none, .bool false, v, rawInt k, .none, .none] } }) := by
  refine .of_wp fun prog w A R s h => ?_
  obtain ⟨hp, g, d, tk, os⟩ := s
  obtain ⟨h1, h⟩ := h
  have hsub := sub_enumerate
  have hnf : (!Builtin.SmallTypes.fitsIndex k) = false := by rw [hfit] ; rfl
  have q1 : ∀ {A' : Around} {E : Value → Shared → Prop} {Q : Value → Shared → Prop}, Q v ⟨hp, g, d, tk, os⟩ → wpAny (model prog w) A' (pyIter v) Q E ⟨hp, g, d, tk, os⟩ := fun q => B.iter prog w _ _ _ _ h1 q
  have a1 : (Str.ofString "start" == ("start" : Str)) = true := by decide +kernel
  have a2 : (Str.ofString "start" != ("start" : Str)) = false := by decide +kernel
  have a3 : (Str.ofString "start" != ("iterable" : Str)) = true := by decide +kernel
  have a4 : (("start" : Str) == Str.ofString "start") = true := by decide +kernel
  have a5 : (("iterable" : Str) == Str.ofString "start") = false := by decide +kernel
  wp_walk using q1
  refine wpAny_stack_any fun st => wpAny_pure ?_
  split
  · rename_i c _ _ _ _ _
    cases (c == Value.type "enumerate")
    · wp_walk using q1
      exact ⟨_, rfl, h⟩
    · wp_walk using q1
      exact ⟨_, rfl, h⟩
  · wp_walk using q1
    exact ⟨_, rfl, h⟩
theorem call_enum {prog : Program} {w : World} {A : Around} {E : Value → Shared → Prop} {s : Shared} {v : Value} {H : Heap → Prop} {k : Int} {t : Tok} {Q : Value → Shared → Prop} (B : Self v H) (h1 : H s.heap)
    (b0 : -(2 ^ 63) ≤ k) (b1 : k < 2 ^ 63) (h : Q (.ref s.heap.objs.size) { s with heap := s.heap.push { cls := .type "enumerate", data := .fields #[.none, .bool false, v, rawInt k, .none, .none] } }) :
    wpAny (model prog w) A (call (.type "enumerate") [v] [(Str.ofString "start", .int k t)]) Q E s := by
  refine callType_newKw F.called_enumerate (by decide) (F.typeCall_enumerate_start _ _) (F.newCall_enumerate_start _ _) (fun obj => F.args_object_init_start obj _ _) F.entry_enumerate_new (new_enum B k t (fits_start b0 b1)) ⟨h1, ?_⟩
  exact ⟨⟨_, Heap.get?_push_size _ rfl, rfl⟩, h⟩
end VE
namespace VE
open PySem PySem.Spec PyProof.Rows L2
/-- k, k + 1, .. with the list at a (n items, which the loop leaves there) from its end, in new pairs -/
def Iter' (K : PySem.W.Frag) (a : Addr) (n : Nat) (k : Int) : It :=
  ⟨fun i H => i < n ∧ ∃ xs : List V, SqL K H a xs ∧ xs.length = n, fun i H v H' => ∃ T x, v = .ref T ∧ H T = none ∧ H' = upd H T (.tup [.int (k + (i : Nat)), x]) ∧ ∀ xs, SqL K H a xs → xs[n - 1 - i]? = some x,
    fun i H => n ≤ i ∧ ∃ xs : List V, SqL K H a xs ∧ xs.length = n⟩
theorem turn_enumRev {P : Program} {w : World} {K : PySem.W.Frag} {elts : List Expr} {kk : Nat} {tpos : Pos} (a e it : Addr) (n : Nat) (k : Int) (hai : a ≠ it) (hei : e ≠ it) (hea : e ≠ a) :
    Turn P w K (.Tuple elts kk tpos) (Iter' K a n k) [e, it] e (fun i h => (∃ old, IsEnum h e it (k + (i : Nat)) old) ∧ i ≤ n ∧ h.IsRevIter it a ((n : Int) - 1 - (i : Nat))) where
  mem := by simp
  obj := fun i h st b hb => by
    obtain ⟨⟨old, he⟩, _, o, ho, hc, hd⟩ := st
    have e' : b = e ∨ b = it := by simpa using hb
    rcases e' with z | z
    · rw [z]; exact ⟨_, he, fun v q => nomatch q⟩
    · rw [z]; exact ⟨o, ho, fun v q => by rw [hd] at q; cases q⟩
  keep := fun i h h' st kp => let ⟨⟨old, he⟩, hn, hi⟩ := st; ⟨⟨old, kp e (by simp) _ he⟩, hn, hi.at fun o q => kp it (by simp) o q⟩
  item := by
    intro X hP hw hK hc i pins s σ H E I hf st hg
    subst hP hw hK
    obtain ⟨⟨old, he⟩, hin, hit⟩ := st
    obtain ⟨hlt, xs, hq, hl⟩ := hg
    obtain ⟨its, rv, p, hz⟩ := I.list hq
    have hn : its.toArray.size = n := by rw [List.size_toArray, ← rv.length]; exact hl
    have hh : X.A.in1.handled = none := I.ok.hd hc
    have hel : e < s.heap.objs.size := Heap.lt_size he
    have hil : it < s.heap.objs.size := by obtain ⟨_, q, _⟩ := hit; exact Heap.lt_size q
    have D := draws_rev (prog := X.prog) (w := X.w) (A := X.A.in1) hh it a hai its.toArray
    rw [hn] at D
    refine wpAny_pyNext_enum_itemC D he ⟨hin, hit, p.isList⟩ hlt hei (by simp [hei, hea]) fun u h' tk hP ho hs' hT hsz hkp => ?_
    obtain ⟨_, hit', _⟩ := hs'
    have hx : xs[n - 1 - i]? = some (xs[n - 1 - i]'(by omega)) := List.getElem?_eq_getElem (by omega)
    obtain ⟨u', hu', ru⟩ := rv.get hx
    have hP' : its[n - 1 - i]? = some u := by simpa using hP
    have euu : u' = u := by rw [hP'] at hu'; exact (Option.some.inj hu').symm
    subst euu
    refine ⟨_, rfl, wpAny_letOwnedTupleGo_enum (s := { s with heap := h', toks := tk + 1 }) ho fun h'' he' sb => ?_⟩
    have hT2 : h''.get? s.heap.objs.size = some { cls := .type "tuple", data := .seq #[.int (k + (i : Nat)) tk, u'] } := (sb.2 _ (Nat.ne_of_gt hel)).trans hT
    have new : ObjOk X.prog X.w (upd H s.heap.objs.size (.tup [.int (k + (i : Nat)), xs[n - 1 - i]'(by omega)])) h'' s.heap.objs.size (.tup [.int (k + (i : Nat)), xs[n - 1 - i]'(by omega)]) :=
      ⟨by show 2 ≤ sizeLine; decide, [.int (k + (i : Nat)) tk, u'], .cons ⟨_, rfl⟩ (.cons ru .nil), ⟨_, hT2, rfl, _, rfl⟩⟩
    have I1 : Inv X pins σ (upd H s.heap.objs.size (.tup [.int (k + (i : Nat)), xs[n - 1 - i]'(by omega)])) { s with heap := h'', toks := tk + 1 } :=
      I.turnedNew (ch := [e, it]) (fun b ob hb q => (sb.2 b (fun z => hb (by simp [z]))).trans (hkp b ob (fun z => hb (by simp [z])) (fun z => hb (by simp [z])) q)) hf (Nat.le_refl _) new
    refine ⟨.ref s.heap.objs.size, _, I1, rfl, ⟨_, _, rfl, I.hok.fresh (Nat.le_refl _), rfl, fun ys hy => by rw [I.list_inj hy hq]; exact hx⟩, ⟨⟨u', ?_⟩, hlt, hit'.at fun o q => (sb.2 it (Ne.symm hei)).trans q⟩, fun b hb => ?_⟩
    · have e1 : k + ((i + 1 : Nat) : Int) = k + (i : Int) + 1 := by omega
      rw [e1]; exact he'
    · have hb' : b < s.heap.objs.size := by
        have e' : b = e ∨ b = it := by simpa using hb
        rcases e' with z | z
        · rw [z]; exact hel
        · rw [z]; exact hil
      rw [upd_ne (Nat.ne_of_lt hb')]
      exact (hf b hb).1
  done := by
    intro X hP hw hK hc i pins s σ H E I hf st hg
    subst hP hw hK
    obtain ⟨⟨old, he⟩, hin, hit⟩ := st
    obtain ⟨hge, xs, hq, hl⟩ := hg
    obtain ⟨its, rv, p, hz⟩ := I.list hq
    have hn : its.toArray.size = n := by rw [List.size_toArray, ← rv.length]; exact hl
    have hh : X.A.in1.handled = none := I.ok.hd hc
    obtain ⟨f0, f1, f2, f3, f4, f5⟩ := hf it (by simp)
    have D := draws_rev (prog := X.prog) (w := X.w) (A := X.A.in1) hh it a hai its.toArray
    rw [hn] at D
    have ei : i = n := by omega
    subst ei
    exact wpAny_pyNext_enum_endD D he ⟨Nat.le_refl _, hit, p.isList⟩ fun h' eb => ⟨rfl, I.turned (t' := s.toks) (fun b o hb q => eb b o hb q) f0 f1 f3 f4 f5⟩
  self := fun A i s Q E st h => let ⟨⟨_, he⟩, _⟩ := st; wpAny_pyIter_enum he h
theorem walk_enumRev {K : PySem.W.Frag} {a : Addr} {xs : List V} {k : Int} : Walk (Iter' K a xs.length k) xs.length (fun H => SqL K H a xs) (YPair (fun i => some (.int (k + (i : Nat)))) (fun i => xs[xs.length - 1 - i]?)) := by
  refine ⟨fun i _ hi q => ⟨hi, xs, q, rfl⟩, fun _ q => ⟨Nat.le_refl _, xs, q, rfl⟩, fun i H v H' _ q y => ?_⟩
  obtain ⟨T, x, h1, h2, h3, h4⟩ := y
  exact ⟨T, .int (k + (i : Nat)), x, h1, h2, h3, rfl, h4 xs q⟩
def iEnumRev (K : PySem.W.Frag) (ta : TA) (k : Int) : TI := fun σ H R => ta σ H fun vs H1 => ∃ (a : Addr) (xs : List V), vs = [.ref a] ∧ SqL K H1 a xs ∧ R (Iter' K a xs.length k) H1
section
variable {M : Model} {A : Around} {E : Value → Shared → Prop} {s : Shared} {env : Env}
theorem callWith_typeKw {pos : Pos} {T : String} {e : Expr} {rest : List Expr} {kws : List Keyword} {Q : Value → Shared → Prop} (hall : (backToKw pos (keywordEach kws env)).all (·.1.isSome) = true)
    (h : wpAny M A (spliced (backTo pos (starEach (e :: rest) env))) (fun vs s₁ => wpAny M A (evalAll ((backToKw pos (keywordEach kws env)).map (·.2)))
      (fun ks s₂ => wpAny M A (call (.type T) vs (((backToKw pos (keywordEach kws env)).filterMap (·.1)).zip ks)) Q E s₂) E s₁) E s)
    (hplain : ((backTo pos (starEach (e :: rest) env)).any (·.1) || (backToKw pos (keywordEach kws env)).any (·.1.isNone)) = false) (he : starEach (e :: rest) env = (false, eval e env) :: starEach rest env) :
    wpAny M A (callWith pos (.type T) [] (backTo pos (starEach (e :: rest) env)) (backToKw pos (keywordEach kws env))) Q E s := by
  unfold callWith
  refine wpAny_bind (wpAny_holding (wpAny_mono (evalArgs_kw2 (f := .type T) (Q := fun a s₁ => wpAny M A (call (.type T) a.pos a.kw) Q E s₁) hall h he) (fun a s₁ h₁ => wpAny_bind (wpAny_standAt ?_)) fun _ _ x => x))
  simp only [hplain]
  refine wpAny_bind (wpAny_pure ?_)
  exact wpAny_bind (wpAny_mono h₁ (fun r s₂ hr => wpAny_bind (wpAny_holding (wpAny_point (wpAny_pure hr)))) fun _ _ x => x)
theorem Call_kws {func : Expr} {args : List Expr} {kws : List Keyword} {pos : Pos} {Q : Value → Shared → Prop}
    (h : wpAny M A (eval func env) (fun f s₁ => wpAny M A (callWith pos f [] (backTo pos (starEach args env)) (backToKw pos (keywordEach kws env))) Q E s₁) E s)
    (he : eval (.Call func args kws pos) env = (do callWith pos (← eval func env) [] (backTo pos (starEach args env)) (backToKw pos (keywordEach kws env))) := by rfl) :
    wpAny M A (eval (.Call func args kws pos) env) Q E s := by
  rw [he]; exact wpAny_bind h
end
theorem pi_enumRev {X : Cx} {e : Expr} {ta : TA} {p p2 pos pos2 kp jp tpos : Pos} {j : Nat} {k : Int} {elts : List Expr} {kk : Nat} (hk0 : -(2 ^ 63) ≤ k) (hk1 : k < 2 ^ 63) (hg : Gl X "enumerate") (hm : X.mg "enumerate" = none) (hg2 : Gl X "reversed") (hm2 : X.mg "reversed" = none) (ha : PA X [e] ta)
    (hs : starEach [e] X.env = [(false, eval e X.env)] := by rfl)
    (hs2 : starEach [.Call (.Name "reversed" p2) [e] [] pos2] X.env = (false, eval (.Call (.Name "reversed" p2) [e] [] pos2) X.env) :: starEach [] X.env := by rfl)
    (hst : ∀ q, (backTo q (starEach [.Call (.Name "reversed" p2) [e] [] pos2] X.env)).any (·.1) = false := by exact fun _ => rfl)
    (hbs : eval (.Call (.Name "reversed" p2) [e] [] pos2) X.env = (do callWith pos2 (← eval (.Name "reversed" p2) X.env) [] (backTo pos2 (starEach [e] X.env)) (backToKw pos2 (keywordEach [] X.env))) := by rfl) :
    PI X (.Tuple elts kk tpos) (.Call (.Name "enumerate" p) [.Call (.Name "reversed" p2) [e] [] pos2] [⟨some "start", .Constant (.int k) j jp, kp⟩] pos) (iEnumRev X.K ta k) := by
  refine ⟨fun pins s σ H R I h => ?_⟩
  refine Call_kws (ld_blt I hg hm boot_enumerate (callWith_typeKw rfl (args_cons ?_ hs2) (by rw [hst]; rfl) hs2))
  refine Call_ (ld_blt I hg2 hm2 PyProof.Rows.boot_reversed (PyProof.Rows.callWith_type1 (thn (ha.run pos2 pins s σ H _ I h) fun us s1 ⟨vs, H1, I1, r1, q1⟩ => ?_) hs rfl)) hbs
  obtain ⟨a, xs, ex, hq, q⟩ := q1
  subst ex
  cases r1 with
  | cons r rr =>
    cases rr
    cases r
    obtain ⟨its, rv, p', hz⟩ := I1.list hq
    have hl := rv.length
    have hal : a < s1.heap.objs.size := by obtain ⟨_, _, z, _⟩ := p'; exact Heap.lt_size z
    refine call_reversed_list p'.isList (args_nil (kws_cons (wpAny_Constant_int (kws_nil ?_))))
    have sz1 : (s1.heap.push { cls := .type "list_reverseiterator", data := .fields #[.ref a, rawInt (((its.toArray.size : Nat) : Int) - 1)] }).objs.size = s1.heap.objs.size + 1 := Heap.size_push ..
    have hit0 : (s1.heap.push { cls := .type "list_reverseiterator", data := .fields #[.ref a, rawInt (((its.toArray.size : Nat) : Int) - 1)] }).IsRevIter s1.heap.objs.size a (((its.toArray.size : Nat) : Int) - 1) := ⟨_, Heap.get?_push_size _ rfl, rfl, rfl⟩
    refine call_enum (self_rev s1.heap.objs.size a (((its.toArray.size : Nat) : Int) - 1)) hit0 hk0 hk1 ?_
    have he : IsEnum ((s1.heap.push { cls := .type "list_reverseiterator", data := .fields #[.ref a, rawInt (((its.toArray.size : Nat) : Int) - 1)] }).push { cls := .type "enumerate", data := .fields #[.none, .bool false, .ref s1.heap.objs.size, rawInt k, .none, .none] }) (s1.heap.objs.size + 1) s1.heap.objs.size k .none := by
      have := Heap.get?_push_size (s1.heap.push { cls := .type "list_reverseiterator", data := .fields #[.ref a, rawInt (((its.toArray.size : Nat) : Int) - 1)] }) (o := { cls := .type "enumerate", data := .fields #[.none, .bool false, .ref s1.heap.objs.size, rawInt k, .none, .none] }) rfl
      rw [sz1] at this; exact this
    show wpAny _ _ (pyIter (.ref (s1.heap.push { cls := .type "list_reverseiterator", data := .fields #[.ref a, rawInt (((its.toArray.size : Nat) : Int) - 1)] }).objs.size)) _ _ _
    rw [sz1]
    refine wpAny_pyIter_enum he ?_
    have hit1 := hit0.at (h' := (s1.heap.push { cls := .type "list_reverseiterator", data := .fields #[.ref a, rawInt (((its.toArray.size : Nat) : Int) - 1)] }).push { cls := .type "enumerate", data := .fields #[.none, .bool false, .ref s1.heap.objs.size, rawInt k, .none, .none] }) fun o q => Heap.get?_push_of_some _ q
    refine ⟨s1.heap.objs.size + 1, [s1.heap.objs.size + 1, s1.heap.objs.size], _, _, H1, rfl, ?_, turn_enumRev a (s1.heap.objs.size + 1) s1.heap.objs.size xs.length k (Nat.ne_of_lt hal) (Nat.succ_ne_self _) (Nat.ne_of_gt (Nat.lt_succ_of_lt hal)), ⟨⟨.none, ?_⟩, Nat.zero_le _, ?_⟩, fun b hb => ?_, q⟩
    · exact I1.kept fun b ob q => Heap.get?_push_of_some _ (Heap.get?_push_of_some _ q)
    · rw [show k + ((0 : Nat) : Int) = k by omega]; exact he
    · rw [show (xs.length : Int) - 1 - ((0 : Nat) : Int) = ((its.toArray.size : Nat) : Int) - 1 by rw [List.size_toArray]; omega]; exact hit1
    · have e' : b = s1.heap.objs.size + 1 ∨ b = s1.heap.objs.size := by simpa using hb
      have hle : s1.heap.objs.size ≤ b := by
        rcases e' with z | z
        · rw [z]; exact Nat.le_add_right _ _
        · rw [z]; exact Nat.le_refl _
      exact I1.fpOk hle (I1.hok.fresh hle)
end VE

/-! A method called with keywords. -/
namespace VP
open PySem PySem.Spec PyProof.Rows L2
/-- o.m(e, .., k = v, ..) -/
def tMethKw (C : Addr) (m : Str) (n j : Nat) (sp : Sp) (gV : List V → List V → List V) (E : XK) (ta : TE) (t tk : TA) : TE := fun σ H Q =>
  ta σ H fun x H1 => ∃ a dx fs, x = .ref a ∧ H1 a = some (.ins C dx fs) ∧ fs.lookup m = none ∧
    t σ H1 fun vs H2 => tk σ H2 fun zs H3 => vs.length = n ∧ zs.length = j ∧ sp (gV (x :: vs) zs) H3 Q E
theorem pe_methKw {X : Cx} {CX : CXT} {k n : Nat} {f C : Addr} {fd : FuncData} {ps ks : List Str} {sp : Sp} {E : XK} {m : Str} {pos apos : Pos} {o e : Expr} {es : List Expr} {kws : List Keyword} {ta : TE} {t tk : TA}
    {g : List Value → List Value → List Value} {gV : List V → List V → List V} {pl : Sem Bool}
    (he : PE X o ta) (c : Cls X.K C) (hm : Meth X.K C m f) (F : FnOk X.prog X.w X.K X.mg X.base CX k f fd ps sp) (hr : Room k X.A)
    (hb : KBn X.K fd ps (n + 1) ks g gV) (hx : Passes CX X E) (ha : PA X (e :: es) t) (hkw : PK X kws tk)
    (hall : (backToKw pos (keywordEach kws X.env)).all (·.1.isSome) = true := by rfl) (hks : (backToKw pos (keywordEach kws X.env)).filterMap (·.1) = ks := by rfl)
    (hst : starEach (e :: es) X.env = (false, eval e X.env) :: starEach es X.env := by rfl)
    (hpl : ((backTo pos (starEach (e :: es) X.env)).any (·.1) || (backToKw pos (keywordEach kws X.env)).any (·.1.isNone)) = false := by rfl)
    (ht : eval (.Call (.Attribute o m apos) (e :: es) kws pos) X.env = (do
      let ov ← eval o X.env
      standAt apos.atName
      let (f, first) ← holding [ov] (getMethod ov m pl)
      callWith pos f first (backTo pos (starEach (e :: es) X.env)) (backToKw pos (keywordEach kws X.env))) := by rfl) :
    PE X (.Call (.Attribute o m apos) (e :: es) kws pos) (tMethKw C m n ks.length sp gV E ta t tk) := by
  constructor
  intro pins s σ H Q I h
  refine PySem.W.methodCall_KW (pl := pl) (thn (he.run pins s σ H _ I h) ?_) ht
  rintro u s1 ⟨x, H1, I1, rx, a, dx, fs, ex, ea, l, q⟩
  subst ex
  obtain rfl : u = Value.ref a := rx
  refine getmeth_ok I1 ea c hm l ?_
  refine PySem.W.callWith_KW (first := [.ref a]) (h₀ := X.base) I.ok.mod.kin hm.kp hall (thn (ha.run pos pins s1 σ H1 _ I1 q) ?_) hpl hst
  rintro us s2 ⟨vs, H2, I2, r, q2⟩
  refine thn (hkw.run pos pins s2 σ H2 _ I2 q2) ?_
  rintro ws s3 ⟨zs, H3, I3, rz, l1, l2, q3⟩
  refine ⟨I3.kIn, ?_⟩
  rw [hks]
  have r1 : Vals (V.ref a :: vs) (Value.ref a :: us) := .cons rfl r
  have rel := hb.rel r1 rz
  have len : (Value.ref a :: us).length = n + 1 := by rw [List.length_cons, ← r.length, l1]
  have bind := hb.to s3 (Value.ref a :: us) ws I3.kIn len (rz.length.symm.trans l2)
  show wpAny _ _ (call (.ref f) (Value.ref a :: us) (ks.zip ws)) _ _ _
  refine wpAny_call (codeAny_mono (F.run X.A X.stack s3 H3 ⟨Value.ref a :: us, ks.zip ws⟩ _ _ Q E hr I3.env0 bind rel q3) ?_)
  intro res s' hq
  match res, hq with
  | .error e, hq => exact hx pins σ H3 s3 e s' I3 hq
  | .ok (.ret u), hq => exact I3.after hq
  | .ok .next, hq => exact False.elim hq
  | .ok .brk, hq => exact False.elim hq
  | .ok .cont, hq => exact False.elim hq
end VP

/-! == and != by an own __eq__ whatever stands on the right, repr by an own __repr__, None in an f-string. -/
namespace VN
open PySem PySem.Spec PyProof.Rows L2

section
variable {prog : Program} {w : World} {A : Around} {E : Value → Shared → Prop} {s : Shared} {K : PySem.W.Frag} {x C L f : Addr} {h₀ : Heap} {m : Str → Option Value} {ox : Obj} {od : Option Obj} {b tb : Value}
theorem bound_builtin {M : Model} {name : Str} {id : String} {args : List Value} {Q : Option Value → Shared → Prop} (X : K.In s.heap) (I : PySem.W.InstAt s.heap x ox C od) (hs : PySem.W.findIn K (.ref C) name = some (some (.builtin id)))
    (hb : ∀ self, bindSpecial (.builtin id) self = pure (.builtin id, [self]))
    (h : wpAny M A (call (.builtin id) (.ref x :: args)) (fun v => Q (some v)) E s) : wpAny M A (callSpecialIfBound? (.ref x) name args) Q E s := by
  simp only [callSpecialIfBound?, bindSpecialIfBound?]
  refine wpAny_holding (wpAny_bind (wpAny_bind (wpAny_bind (I.type.here ((PySem.W.looks_findIn X hs).here ?_)))))
  refine wpAny_bind (wpAny_askSetting (wpAny_ite ?_))
  have fin : wpAny M A (call (.builtin id) ([.ref x] ++ args) >>= fun v => pure (some v)) Q E s := wpAny_bind (wpAny_mono h (fun v s' h' => wpAny_pure h') fun _ _ h' => h')
  split
  · exact wpAny_bind ((PySem.W.Looks.of_pure (hb _)).here (wpAny_pure (by exact fin)))
  · exact wpAny_tryCatch (wpAny_bind ((PySem.W.Looks.of_pure (hb _)).here (wpAny_pure (by exact fin))))
open Builtin in
theorem obj_ne {Q : Value → Shared → Prop} (hu : A.in1.units < cLine) (X : K.In s.heap) (I : PySem.W.InstAt s.heap x ox C od) (hm : PySem.W.mroIn K C (.type "object") = some true)
    (hs : PySem.W.findIn K (.ref C) "__eq__" = some (some (.ref f))) (hf : PySem.W.isFn K (.ref f) = true)
    (h : wpAny (model prog w) A.in1 (call (.ref f) [.ref x, b]) (fun v s' => ∃ r, v = .bool r ∧ Q (.bool (!r)) s') E s) : wpAny (model prog w) A (call (.builtin "object.__ne__") [.ref x, b]) Q E s := by
  refine wpAny_call (codeAny_call_builtin PySem.F.slot_zip_ne.plain PySem.F.cmpEntry_ne (PySem.W.check_slot (i := "object.__ne__") (owner := "object") (n := "__ne__") PySem.F.cmpKind_ne PySem.F.cmpSplit_ne (I.type.andThen (PySem.W.looks_mroIn X hm)) (PySem.F.cmpArgs_ne _ _) ?_))
  unfold Builtin.«object.__ne__»
  refine wpAny_bind (m := slotArgs "__ne__" 1 _) (wpAny_pure ?_)
  refine wpAny_bind (m := cRoomFor _ _) (wpAny_cRoomFor hu ?_)
  refine wpAny_bind (m := callSpecialIfBound? (.ref x) (Str.ofString "__eq__") _) (PySem.W.ifBound_K X I hs hf (wpAny_mono h (fun r s' hq => ?_) fun _ _ y => y))
  obtain ⟨r, rfl, hq⟩ := hq
  exact wpAny_bind (wpAny_truthy_bool (wpAny_pure hq))
theorem ne_K {Q : Value → Shared → Prop} (hu : A.units + 1 < cLine) (F : PyProof.Rows.Fr h₀ L s.heap m) (X₀ : K.In h₀) (I : PySem.W.InstAt s.heap x ox C od) (hb : PySem.W.Looks (model prog w) s.heap (typeOf b) tb) (hn : PySem.W.notFirst K C tb = true)
    (hne : PySem.W.findIn K (.ref C) "__ne__" = some (some (.builtin "object.__ne__"))) (hm : PySem.W.mroIn K C (.type "object") = some true)
    (hs : PySem.W.findIn K (.ref C) "__eq__" = some (some (.ref f))) (hf : PySem.W.isFn K (.ref f) = true)
    (h : wpAny (model prog w) A.in1 (call (.ref f) [.ref x, b]) (fun v s' => ∃ r, v = .bool r ∧ Q (.bool (!r)) s') E s) : wpAny (model prog w) A (richCompare .NotEq (.ref x) b) Q E s := by
  have X := X₀.keeps F.keep
  have hu1 : A.in1.units < cLine := by show A.units + 1 < _; exact hu
  have one : wpAny (model prog w) A (tryCompare (.ref x) (cmpInfo .NotEq).2.1 b) (fun r s' => ∃ v, r = some v ∧ Q v s') E s := by
    unfold tryCompare
    refine wpAny_bind (bound_builtin X I hne PySem.F.slot_zip_ne.bind (obj_ne hu1 X I hm hs hf (wpAny_mono h (fun v s' hv => ?_) fun _ _ e => e)))
    obtain ⟨r, rfl, q⟩ := hv
    exact ⟨r, rfl, wpAny_pure ⟨_, rfl, q⟩⟩
  unfold richCompare
  simp only [oneThing_ref]
  refine wpAny_holding (wpAny_bind (wpAny_cRoomFor (by omega) ?_))
  refine wpAny_bind (I.type.here (wpAny_bind (hb.here ?_)))
  split
  · rename_i q
    have e : PySem.W.subIn K tb (.ref C) = some false := by
      rcases Bool.or_eq_true_iff.mp hn with e | e
      · rw [beq_iff_eq.mp e] at q; simp at q
      · exact beq_iff_eq.mp e
    refine wpAny_bind ((PySem.W.looks_subIn X e).here ?_)
    simp only [Bool.false_eq_true, if_false]
    refine wpAny_bind (wpAny_mono one (fun r s' z => ?_) fun _ _ e => e)
    obtain ⟨v, rfl, hq⟩ := z
    exact wpAny_pure hq
  · refine wpAny_bind (wpAny_pure ?_)
    simp only [Bool.false_eq_true, if_false]
    refine wpAny_bind (wpAny_mono one (fun r s' z => ?_) fun _ _ e => e)
    obtain ⟨v, rfl, hq⟩ := z
    exact wpAny_pure hq
end

/-- what of the text is true of an own class that is only a class: its instances' type, isinstance, != -/
structure IsC (K : PySem.W.Frag) (C : Addr) : Prop where
  ic : PySem.W.isClsIn K C = true
  ty : PySem.W.typeIn K (.ref C) = some (.type "type")
  gc : PySem.W.findIn K (.ref C) "__class__" = some (some (.builtin "object.__class__"))
  gn : PySem.W.specialIn K (.builtin "object.__class__") "__get__" = some (some (.builtin "getset_descriptor.__get__"))
  tk : PySem.W.takesIn K (.builtin "object.__class__") = some true
  ob : PySem.W.mroIn K C (.type "object") = some true
  ne : PySem.W.findIn K (.ref C) "__ne__" = some (some (.builtin "object.__ne__"))
/-- the built-in classes of the values that occur -/
def kinds : List String := ["NoneType", "bool", "int", "str", "list", "tuple", "dict"]
def allTy (l : List Value) : Bool := l.all fun v => match v with | .type _ => true | _ => false
theorem kinds_mro : kinds.all (fun n => (PySem.fastBuiltinMro n).any allTy) = true := by decide +kernel
theorem sub_ty {K : PySem.W.Frag} {C : Addr} {n : String} (h : n ∈ kinds) : PySem.W.subIn K (.type n) (.ref C) = some false := by
  have k := List.all_eq_true.mp kinds_mro n h
  show Option.map (fun x => List.contains x (Value.ref C)) (PySem.fastBuiltinMro n) = some false
  cases e : PySem.fastBuiltinMro n with
  | none => rw [e] at k; cases k
  | some l =>
    rw [e] at k
    have k : allTy l = true := k
    show some (List.contains l (Value.ref C)) = some false
    congr 1
    rw [List.contains_eq_any_beq, List.any_eq_false]
    intro y hy c
    have e2 := eq_of_beq c
    have := List.all_eq_true.mp k y hy
    rw [← e2] at this
    cases this
theorem notFirst_ty {K : PySem.W.Frag} {C : Addr} {n : String} (h : n ∈ kinds) : PySem.W.notFirst K C (.type n) = true := by
  unfold PySem.W.notFirst
  rw [sub_ty h]
  simp
theorem notFirst_own {K : PySem.W.Frag} {C : Addr} : PySem.W.notFirst K C (.ref C) = true := by
  unfold PySem.W.notFirst
  simp
theorem kit_self {K : PySem.W.Frag} {C : Addr} : PySem.W.kitOne K (.ref C) (.ref C) = some true := by
  unfold PySem.W.kitOne
  rw [if_pos (by simp)]
theorem kit_no {K : PySem.W.Frag} {C : Addr} {n : String} (c : IsC K C) (h : n ∈ kinds) : PySem.W.kitOne K (.type n) (.ref C) = some false := by
  have hc : (PySem.W.clsIn K C).isSome = true := c.ic
  unfold PySem.W.kitOne
  rw [if_neg (by simp)]
  unfold PySem.W.kitCls
  show (if ((PySem.W.clsIn K C).isSome && PySem.W.typeIn K (.ref C) == some (.type "type")) = true then PySem.W.subIn K (.type n) (.ref C) else none) = some false
  rw [hc, c.ty, if_pos (by simp), sub_ty h]
theorem IsC.typ {K : PySem.W.Frag} {C a dx : Addr} {H : Hp} {fs : List (Str × V)} (c : IsC K C) (cl : Cls K C) (e : H a = some (.ins C dx fs)) : TyX K H (.ref a) (.ref C) := .base (.ins e cl c.gc c.gn c.tk c.ob)
def rOwn (K : PySem.W.Frag) (C : Addr) (sp : Sp) (E : XK) : R2 := fun x y H Q => ∃ a dx fs t, x = .ref a ∧ H a = some (.ins C dx fs) ∧ TyX K H y t ∧ PySem.W.notFirst K C t = true ∧ sp [x, y] H (fun v H' => ∃ b, v = .bl b ∧ Q (.bl b) H') E
def rOwnN (K : PySem.W.Frag) (C : Addr) (sp : Sp) (E : XK) : R2 := fun x y H Q => ∃ a dx fs t, x = .ref a ∧ H a = some (.ins C dx fs) ∧ TyX K H y t ∧ PySem.W.notFirst K C t = true ∧ sp [x, y] H (fun v H' => ∃ b, v = .bl b ∧ Q (.bl (!b)) H') E
def rReprOwn (C : Addr) (sp : Sp) (E : XK) : List V → Hp → VK → Prop := fun xs H Q => ∃ a dx fs, xs = [.ref a] ∧ H a = some (.ins C dx fs) ∧ sp [.ref a] H (fun v H' => ∃ y, v = .str y ∧ Q (.str y) H') E
section
variable {X : Cx} {CX : CXT} {k : Nat} {f C : Addr} {fd : FuncData} {ps : List Str} {sp : Sp} {E : XK}
theorem op_eqOwn (F : FnOk X.prog X.w X.K X.mg X.base CX k f fd ps sp) (hr : Room k X.A) (o : Meth X.K C "__eq__" f) (c : IsC X.K C) (hb : Binds X.K fd ps []) (hx : Passes CX X E) : OpR X (compareOp .Eq) (rOwn X.K C sp E) := by
  intro pins s σ H x y v u Q I rx ry h
  obtain ⟨a, dx, fs, t, rfl, ea, ty, nf, hsp⟩ := h
  obtain rfl : v = Value.ref a := rx
  obtain ⟨mA, J, _⟩ := ins_get I.hok ea
  obtain ⟨od, J, _⟩ := J.look
  obtain ⟨m, hF⟩ := I.fr
  obtain ⟨P, Z, p, _⟩ := kit_of I ry ty
  show wpAny (model X.prog X.w) X.A (richCompare .Eq (.ref a) u) (EP X pins σ Q) X.xe s
  refine PySem.W.cmp_K (op := .Eq) (tb := t) hr.units0 hF I.ok.mod.kin J (Z.ty _ _ I.kIn p) nf o.at_ o.fn ?_
  have hl := F.len _ _ _ _ hsp
  have r2 : Vals [V.ref a, y] [Value.ref a, u] := .cons rfl (.cons ry .nil)
  refine wpAny_call (codeAny_mono (F.run X.A X.stack s H ⟨[.ref a, u], []⟩ [.ref a, u] [.ref a, y] _ E hr I.env0 (by
    have := hb s [.ref a, u] I.kIn (by simpa using hl)
    simpa using this) r2 hsp) fun r s' hq => ?_)
  cases r with
  | error e => exact hx pins σ H s e s' I hq
  | ok fl =>
    cases fl with
    | ret w =>
      obtain ⟨z, H', I', rz, b, ez, q⟩ := I.after hq
      subst ez
      cases rz
      exact ⟨.bl b, H', I', rfl, q⟩
    | next => exact False.elim hq
    | brk => exact False.elim hq
    | cont => exact False.elim hq
theorem op_neOwn (F : FnOk X.prog X.w X.K X.mg X.base CX k f fd ps sp) (hr : Room (k + 1) X.A) (o : Meth X.K C "__eq__" f) (c : IsC X.K C) (hb : Binds X.K fd ps []) (hx : Passes CX X E) : OpR X (compareOp .NotEq) (rOwnN X.K C sp E) := by
  intro pins s σ H x y v u Q I rx ry h
  obtain ⟨a, dx, fs, t, rfl, ea, ty, nf, hsp⟩ := h
  obtain rfl : v = Value.ref a := rx
  obtain ⟨mA, J, _⟩ := ins_get I.hok ea
  obtain ⟨od, J, _⟩ := J.look
  obtain ⟨m, hF⟩ := I.fr
  obtain ⟨P, Z, p, _⟩ := kit_of I ry ty
  show wpAny (model X.prog X.w) X.A (richCompare .NotEq (.ref a) u) (EP X pins σ Q) X.xe s
  refine ne_K (tb := t) (by have := hr.un; omega) hF I.ok.mod.kin J (Z.ty _ _ I.kIn p) nf c.ne c.ob o.at_ o.fn ?_
  have hl := F.len _ _ _ _ hsp
  have r2 : Vals [V.ref a, y] [Value.ref a, u] := .cons rfl (.cons ry .nil)
  refine wpAny_call (codeAny_mono (F.run X.A.in1 X.stack s H ⟨[.ref a, u], []⟩ [.ref a, u] [.ref a, y] _ E hr.in1 I.env0.in1 (by
    have := hb s [.ref a, u] I.kIn (by simpa using hl)
    simpa using this) r2 hsp) fun r s' hq => ?_)
  cases r with
  | error e => exact hx pins σ H s e s' I hq
  | ok fl =>
    cases fl with
    | ret w =>
      obtain ⟨z, H', I', rz, b, ez, q⟩ := I.after hq
      subst ez
      cases rz
      exact ⟨b, rfl, .bl (!b), H', I', rfl, q⟩
    | next => exact False.elim hq
    | brk => exact False.elim hq
    | cont => exact False.elim hq
theorem call_reprOwn (F : FnOk X.prog X.w X.K X.mg X.base CX k f fd ps sp) (hr : Room (k + 1) X.A) (o : Meth X.K C "__repr__" f) (hb : Binds X.K fd ps []) (hx : Passes CX X E) :
    CallR X (.builtin "repr") (rReprOwn C sp E) := by
  intro pins s σ H xs us Q I r h
  obtain ⟨a, dx, fs, rfl, ea, hsp⟩ := h
  obtain ⟨u, rfl, ru⟩ := vals1 r
  obtain rfl : u = Value.ref a := ru
  obtain ⟨mA, J, _⟩ := ins_get I.hok ea
  obtain ⟨od, J, _⟩ := J.look
  obtain ⟨m, hF⟩ := I.fr
  refine PySem.W.repr_K hr.in1.units0 hF I.ok.mod.kin J o.at_ o.fn ?_
  have hl := F.len _ _ _ _ hsp
  refine wpAny_call (codeAny_mono (F.run X.A.in1 X.stack s H ⟨[.ref a], []⟩ [.ref a] [.ref a] _ E hr.in1 I.env0.in1 (by
    have := hb s [.ref a] I.kIn (by simpa using hl)
    simpa using this) (.cons rfl .nil) hsp) fun r s' hq => ?_)
  cases r with
  | error e => exact hx pins σ H s e s' I hq
  | ok fl =>
    cases fl with
    | ret w =>
      obtain ⟨z, H', I', rz, y, ez, q⟩ := I.after hq
      subst ez
      obtain ⟨t, rfl⟩ := rz
      exact ⟨.str y, H', I', ⟨t, rfl⟩, q⟩
    | next => exact False.elim hq
    | brk => exact False.elim hq
    | cont => exact False.elim hq
theorem units1 {k : Nat} {A : Around} (hr : Room k A) : A.units + 1 < cLine := by
  have := hr.un
  omega
/-- {x}: a text, an int or None -/
def tFmtN (te : TE) : TE := fun σ H Q => te σ H fun x H1 => (∃ y : Str, x = .str y ∧ y.length ≤ sizeLine ∧ Q (.str y) H1) ∨ (∃ i : Int, x = .int i ∧ i.natAbs.log2 < 1920 ∧ Q (.str (toString i)) H1) ∨ (x = .non ∧ Q (.str "None") H1)
theorem pe_fmtN {e : Expr} {te : TE} {pos : Pos} (he : PE X e te) : PE X (.FormattedValue e (-1) none pos) (tFmtN te) := by
  refine ⟨fun pins s σ H Q I h => ?_⟩
  refine wpAny_FormattedValue_plain (thn (he.run pins s σ H _ I h) fun v s1 hv => ?_)
  obtain ⟨x, H1, I1, r1, q⟩ := hv
  rcases q with ⟨y, rfl, hz, q⟩ | ⟨i, rfl, hz, q⟩ | ⟨rfl, q⟩
  · obtain ⟨t, rfl⟩ := r1
    exact wpAny_formatField_str ⟨.str y, H1, I1, ⟨t, rfl⟩, q⟩ ⟨.str y, H1, I1.tok _, ⟨_, rfl⟩, q⟩ hz
  · obtain ⟨t, rfl⟩ := r1
    exact wpAny_formatField_int hz ⟨.str (toString i), H1, I1.tok _, ⟨_, rfl⟩, q⟩
  · cases r1
    exact wpAny_formatField_none ⟨.str "None", H1, I1.tok _, ⟨_, rfl⟩, q⟩
/-- str(None), str(int) -/
def rStrIN : List V → Hp → VK → Prop := fun xs H Q => (∃ i : Int, xs = [.int i] ∧ i.natAbs.log2 < 1920 ∧ Q (.str (toString i)) H) ∨ (xs = [.non] ∧ Q (.str "None") H)
theorem call_strIN : CallR X (.type "str") rStrIN := by
  intro pins s σ H xs us Q I r h
  rcases h with ⟨i, rfl, hz, q⟩ | ⟨rfl, q⟩
  · obtain ⟨u, rfl, t, rfl⟩ := vals1 r
    exact PySem.P.str_of_int hz ⟨.str _, H, I.tok _, ⟨_, rfl⟩, q⟩
  · obtain ⟨u, rfl, ru⟩ := vals1 r
    cases ru
    exact PySem.P.str_of_none ⟨.str _, H, I.tok _, ⟨_, rfl⟩, q⟩
end
end VN

/-! Own errors over any built-in base, with an __init__ that is walked as a def: made, raised, asked. -/
namespace VX
open PySem PySem.Spec PyProof.Rows L2
/-- a built-in base of errors -/
structure Bs (B newId initId : String) (bmB : List Value) : Prop where
  bs : ExcBaseFacts B newId initId bmB
  st : StoreFacts B bmB "object.__setattr__" "object"
theorem bsV : Bs "ValueError" "ValueError.__new__" "ValueError.__init__" [.type "ValueError", .type "Exception", .type "BaseException", .type "object"] := ⟨F.excBase_ValueError, F.store_ValueError⟩
theorem bsR : Bs "RuntimeError" "RuntimeError.__new__" "RuntimeError.__init__" [.type "RuntimeError", .type "Exception", .type "BaseException", .type "object"] := ⟨F.excBase_RuntimeError, F.store_RuntimeError⟩
theorem bsL : Bs "LookupError" "LookupError.__new__" "LookupError.__init__" [.type "LookupError", .type "Exception", .type "BaseException", .type "object"] := ⟨F.excBase_LookupError, F.store_LookupError⟩
theorem bsA : Bs "ArithmeticError" "ArithmeticError.__new__" "ArithmeticError.__init__" [.type "ArithmeticError", .type "Exception", .type "BaseException", .type "object"] := ⟨F.excBase_ArithmeticError, F.store_ArithmeticError⟩
/-- what the written part says of an own class of errors -/
structure Own (K : PySem.W.Frag) (C : Addr) : Prop where
  base : ∃ B newId initId bmB, Bs B newId initId bmB ∧ PySem.W.excInitIn K C bmB newId = true ∧ PySem.W.excOver K C bmB = true
  hasD : PySem.W.hasDictIn K C = true
  setA : PySem.W.findIn K (.ref C) "__setattr__" = some (some (.builtin "object.__setattr__"))
  isE : PySem.W.subIn K (.ref C) (.type "BaseException") = some true
  isT : PySem.W.typeIn K (.ref C) = some (.type "type")
  keep : PySem.W.keepIn K (.ref C) = true

section
variable {prog : Program} {w : World} {A : Around} {R : Result → Shared → Prop} {hp : Heap} {g : Array GenState} {d : Drawn} {t : Nat} {os : OsState} {K : PySem.W.Frag} {x C : Addr} {f : Str} {tk : Tok} {v : Value} {fv : Array Value}
open Builtin Builtin.ObjectAttr PySem.W PySem.Calls
theorem own_cls (O : Own K C) : ∃ cd, clsIn K C = some cd ∧ cd.hasDict = true := any_some O.hasD
/-- the first field: the dict is laid -/
theorem st_first (O : Own K C) (X : K.In hp) (hx : hp.get? x = some { cls := .ref C, data := .fields fv }) (no : findIn K (.ref C) f = some none)
    (q : ∀ h2 tk2 dj, (∀ b o, b ≠ x → hp.get? b = some o → h2.get? b = some o) → hp.objs.size ≤ dj → dj ≠ x → h2.get? x = some { cls := .ref C, dict := some dj, data := .fields fv } →
      h2.Ns1 dj (fun y => if y = f then some v else none) → R (.ok (.ret .none)) ⟨h2, g, d, tk2, os⟩) :
    codeAny (model prog w) A (.call (.builtin "object.__setattr__") ⟨[.ref x, .str f tk, v], []⟩) R ⟨hp, g, d, t, os⟩ := by
  obtain ⟨B, nI, iI, bmB, S, _, ov⟩ := O.base
  obtain ⟨cd, hc, hh⟩ := own_cls O
  have J : InstAt hp x { cls := .ref C, data := .fields fv } C none := ⟨hx, rfl, rfl, trivial⟩
  have far : x ≠ hp.objs.size := Nat.ne_of_lt (Heap.lt_size hx)
  have look : Looks (model prog w) hp (classData C) cd := looks_clsIn X hc
  refine osa_openX (r := none) S.st X J ov (by unfold takerIn; rw [no]; rfl) fun b => ?_
  obtain ⟨nm, bs, mro, ns, qn, hd, sn, sb, ab, col, del⟩ := cd
  dsimp only at hh
  subst hh
  show wpAny _ _ (storeInOwnDict (.ref x) (.ref C) (.str f tk) f v b) _ _ _
  unfold storeInOwnDict ownDictForStores
  repeat (first | with_reducible refine HandSPX.store_in_new ?_ ?_ | with_reducible refine wpAny_loadPart_at hx ?_ | with_reducible refine look.at ?_ | wp_step)
  · exact ⟨_, #[], _, (Heap.get?_update_ne _ _ _ _ far.symm).trans (Heap.get?_push_at rfl rfl), rfl, fun e he => absurd he (by simp), fun _ => rfl⟩
  · intro h2 tk2 ns2 same
    have there : (hp.push { cls := .type "dict", data := .dict #[] }).get? x = some { cls := .ref C, data := .fields fv } := Heap.get?_push_of_some _ hx
    exact q h2 tk2 hp.objs.size
      (fun b o nb e => (same.2 b (Nat.ne_of_lt (Heap.lt_size e))).trans ((Heap.get?_update_ne _ _ _ _ nb).trans (Heap.get?_push_of_some _ e)))
      (Nat.le_refl _) far.symm ((same.2 x far).trans (Heap.get?_update_self _ there rfl)) ns2
/-- a further field -/
theorem st_more {dj : Addr} {m0 : Str → Option Value} {nl : List Str} (O : Own K C) (X : K.In hp) (hx : hp.get? x = some { cls := .ref C, dict := some dj, data := .fields fv }) (hn : hp.Ns1 dj m0) (hw : Within m0 nl) (hz : nl.length ≤ 1000)
    (no : findIn K (.ref C) f = some none)
    (q : ∀ h2 tk2, (∀ b o, b ≠ dj → hp.get? b = some o → h2.get? b = some o) → h2.Ns1 dj (fun y => if y = f then some v else m0 y) → R (.ok (.ret .none)) ⟨h2, g, d, tk2, os⟩) :
    codeAny (model prog w) A (.call (.builtin "object.__setattr__") ⟨[.ref x, .str f tk, v], []⟩) R ⟨hp, g, d, t, os⟩ := by
  obtain ⟨B, nI, iI, bmB, S, _, ov⟩ := O.base
  obtain ⟨cd, hc, hh⟩ := own_cls O
  obtain ⟨od, _, _, hod, _, _⟩ := hn.count hw
  have J : InstAt hp x { cls := .ref C, dict := some dj, data := .fields fv } C (some od) := ⟨hx, rfl, rfl, hod⟩
  have look : Looks (model prog w) hp (classData C) cd := looks_clsIn X hc
  refine osa_openX (r := none) S.st X J ov (by unfold takerIn; rw [no]; rfl) fun b => ?_
  obtain ⟨nm, bs, mro, ns, qn, hd, sn, sb, ab, col, del⟩ := cd
  dsimp only at hh
  subst hh
  show wpAny _ _ (storeInOwnDict (.ref x) (.ref C) (.str f tk) f v b) _ _ _
  unfold storeInOwnDict ownDictForStores
  repeat (first | with_reducible refine OEX.store_in_old hn hw hz ?_ | with_reducible refine wpAny_loadPart_at hx ?_ | with_reducible refine look.at ?_ | wp_step)
  exact fun h2 tk2 ns2 same => q h2 tk2 (fun b o nb e => (same.2 b nb).trans e) ns2
end

section
variable {X : Cx} {pins : List (Addr × Obj)} {σ : L2.St} {H : Hp} {s : Shared} {a C dj : Addr} {f : Str} {y : V} {u : Value} {fs : List (Str × V)} {Q : Unit → Shared → Prop} {E : Value → Shared → Prop} {A : Around}
/-- self.f = y on a new error -/
theorem put_first (O : Own X.K C) (I : Inv X pins σ H s) (e : H a = some (exo a C none)) (no : PySem.W.findIn X.K (.ref C) f = some none) (ry : RelV y u)
    (k : ∀ dj s2, H dj = none → dj ≠ a → Inv X pins σ (upd (upd H dj (exd dj [(f, y)])) a (exo a C (some dj))) s2 → Q () s2) : wpAny (model X.prog X.w) A (setAttr (.ref a) f u) Q E s := by
  obtain ⟨t1, ho⟩ := exo_at I.hok e
  obtain ⟨hp, g, d, t, os⟩ := s
  refine PySem.W.set_plain I.kIn (od := none) ⟨ho, rfl, rfl, trivial⟩ O.setA (st_first O I.kIn ho no fun h2 tk2 dj kp big nda hx hn => ?_)
  have free : H dj = none := I.hok.fresh big
  have far : ∀ {b : Addr} {o : Obj}, hp.get? b = some o → b ≠ dj := fun q => Nat.ne_of_lt (Nat.lt_of_lt_of_le (Heap.lt_size q) big)
  have nota : ∀ {b : Addr}, H b = none → b ≠ a := fun n z => by rw [z, e] at n; cases n
  have same : ∀ b u0, b ≠ a → H b = some u0 → upd (upd H dj (exd dj [(f, y)])) a (exo a C (some dj)) b = some u0 := fun b u0 nb q => by rw [upd_ne nb, upd_ne (ne_of_none q free)]; exact q
  refine k dj _ free nda (I.un (t' := tk2) ⟨fun b o q n _ _ => kp b o (nota n) q, fun b o q n _ _ => ⟨o.slots, kp b o (nota n) q⟩,
    fun b o q n _ => by rw [upd_ne (nota n), upd_ne (far q)]; exact n,
    fun b o q _ => if z : b = a then ⟨_, z ▸ hx⟩ else ⟨o, kp b o z q⟩,
    fun b xs q => same b _ (at_ne e q exo_tup) q, fun b o v q => same b _ (at_ne e q exo_frz) q, fun b ps q => ⟨#[], by rw [same b _ (at_ne e q exo_tbl) q]; simp⟩⟩ fun b o q => ?_)
  by_cases z : b = a
  · subst z; rw [upd_same] at q; cases q; exact exo_ok hx
  · rw [upd_ne z] at q
    by_cases z2 : b = dj
    · subst z2; rw [upd_same] at q; cases q
      exact exd_ok hn (relO_put (fs := []) ry fun _ => True.intro)
    · rw [upd_ne z2] at q
      refine (I.hok b o q).stay (fun c v hc w => kp c v ?_ w) (fun c hc => same c _ (at_ne e hc exo_own) hc) fun c xs hc => same c _ (at_ne e hc exo_tup) hc
      rcases hc with hc | hc
      · rw [hc]; exact z
      · exact at_ne e hc exo_own
/-- self.f = y, a further field -/
theorem put_more (O : Own X.K C) (I : Inv X pins σ H s) (e : H a = some (exo a C (some dj))) (ed : H dj = some (exd dj fs)) (hl : fs.length ≤ 900) (no : PySem.W.findIn X.K (.ref C) f = some none) (ry : RelV y u)
    (k : ∀ s2, Inv X pins σ (upd H dj (exd dj ((f, y) :: fs))) s2 → Q () s2) : wpAny (model X.prog X.w) A (setAttr (.ref a) f u) Q E s := by
  obtain ⟨t1, ho⟩ := exo_at I.hok e
  obtain ⟨mA, hn, rel⟩ := exd_at I.hok ed
  have hw := within_of rel
  obtain ⟨hp, g, d, t, os⟩ := s
  obtain ⟨od, _, _, hod, _, _⟩ := hn.count hw
  refine PySem.W.set_plain I.kIn (od := some od) ⟨ho, rfl, rfl, hod⟩ O.setA (st_more O I.kIn ho hn hw (by rw [List.length_map]; omega) no fun h2 tk2 kp hn2 => ?_)
  have hd : ∃ o, h2.get? dj = some o := by obtain ⟨o, _, _, z, _⟩ := hn2; exact ⟨o, z⟩
  exact k _ (I.write (t' := tk2) (x := dj) (e := dj) (by rw [ed]; exact True.intro) (.inl rfl) kp hd (exd_ok hn2 (relO_put ry rel)))
end

/-- self.f = e in an error's __init__ -/
def tPut (K : PySem.W.Frag) (f : Str) (to te : TE) : TS := fun D σ H => te σ H fun y H1 => to σ H1 fun x H2 => ∃ a C : Addr, x = .ref a ∧ Own K C ∧ PySem.W.findIn K (.ref C) f = some none ∧
  ((H2 a = some (exo a C none) ∧ ∀ dj, H2 dj = none → dj ≠ a → D.nx σ (upd (upd H2 dj (exd dj [(f, y)])) a (exo a C (some dj)))) ∨
    ∃ (dj : Addr) (fs : List (Str × V)), H2 a = some (exo a C (some dj)) ∧ H2 dj = some (exd dj fs) ∧ fs.length ≤ 900 ∧ D.nx σ (upd H2 dj (exd dj ((f, y) :: fs))))
/-- C(e, ..), by C's own __init__ -/
def tNew (C : Addr) (sp : Sp) (ta : TA) : L2.St → Hp → XK → Prop := fun σ H Q => ta σ H fun vs H1 => vs.length ≤ 1000 ∧ ∀ a, H1 a = none → sp (.ref a :: vs) (upd H1 a (exo a C none))
  (fun v H2 => v = .non ∧ ∃ (d : Addr) (fs : List (Str × V)), H2 a = some (exo a C (some d)) ∧ H2 d = some (exd d fs) ∧ H1 d = none ∧ Q (.ref C) (some d) (upd (del H2 a) d (.xd fs))) (fun _ _ _ => False)
section
variable {X : Cx} {o e : Expr} {es : List Expr} {to te : TE} {ta : TA} {f : Str} {p p' pos : Pos}
theorem ps_put (ho : PE X o to) (he : PE X e te) (hs : swapsWith e (some (.Attribute o f p')) pos.line X.env = pure false := by rfl) : PS X (.Assign [.Attribute o f p'] e pos) (tPut X.K f to te) := by
  refine ⟨fun pins s σ H D I h => plainObj_wpAny_Assign_Attribute (thn (he.run pins s σ H _ I h) ?_) hs⟩
  rintro v s1 ⟨y, H1, I1, r1, q1⟩
  refine thn (ho.run pins s1 σ H1 _ I1 q1) ?_
  rintro u s2 ⟨x, H2, I2, r2, a, C, rfl, O, no, q⟩
  obtain rfl : u = Value.ref a := r2
  rcases q with ⟨ea, q⟩ | ⟨dj, fs, ea, ed, hl, q⟩
  · exact put_first O I2 ea no r1 fun dj s3 n ne J => ⟨σ, _, J, q dj n ne⟩
  · exact put_more O I2 ea ed hl no r1 fun s3 J => ⟨σ, _, J, q⟩
theorem pmk_new {CX : CXT} {x : Str} {C fI : Addr} {k : Nat} {fd : FuncData} {ps : List Str} {sp : Sp} (O : Own X.K C) (iC : PySem.W.findIn X.K (.ref C) "__init__" = some (some (.ref fI))) (tI : PySem.W.typeIn X.K (.ref fI) = some (.type "function"))
    (Fi : FnOk X.prog X.w X.K X.mg X.base CX k fI fd ps sp) (hr : Room (k + 1) X.A) (hb : Binds X.K fd ps []) (hx : Passes CX X (fun _ _ _ => False)) (hg : Gl X x) (hm : X.mg x = some (.ref C)) (ha : PA X (e :: es) ta)
    (hdb : (x == ("__debug__" : Str)) = false := by decide) (he : starEach (e :: es) X.env = (false, eval e X.env) :: starEach es X.env := by rfl) (hpl : (backTo pos (starEach es X.env)).any (·.1) = false := by rfl) :
    PMk X (.Call (.Name x p) (e :: es) [] pos) (tNew C sp ta) := by
  intro pins s σ H Q I h
  obtain ⟨B, nI, iI, bmB, S, ini, _⟩ := O.base
  refine wpAny_Call_Name_kw (ld_glob I hg hm ?_ hdb)
  refine PySem.W.callWith_K (h₀ := X.base) I.ok.mod.kin O.keep (thn (ha.run pos pins s σ H _ I h) ?_) he hpl
  rintro us ⟨hp, g, dr, tk, os⟩ ⟨vs, H1, I1, r1, hz, q1⟩
  refine ⟨I1.kIn, ?_⟩
  show wpAny _ _ (call (.ref C) us) _ _ _
  obtain ⟨nm, N, qn, bs, bm, hdct, sn, sub, ab, col, dd, k0, k1, k2, k3, k5, hC, tail⟩ := PySem.W.excInit_of I1.kIn ini
  have up : hp.objs.size ≤ hp.objs.size + 1 := Nat.le_succ _
  have want := q1 (hp.objs.size + 1) (I1.hok.fresh up)
  have kept : ∀ b o, hp.get? b = some o → ((hp.push (PySem.W.kdv_tup us)).push (HandSPX.excO C hp.objs.size)).get? b = some o := fun b o z => Heap.get?_push_of_some _ (Heap.get?_push_of_some _ z)
  have new : ((hp.push (PySem.W.kdv_tup us)).push (HandSPX.excO C hp.objs.size)).get? (hp.objs.size + 1) = some (HandSPX.excO C hp.objs.size) := by heap_get
  have J : Inv X pins σ (upd H1 (hp.objs.size + 1) (exo (hp.objs.size + 1) C none)) ⟨(hp.push (PySem.W.kdv_tup us)).push (HandSPX.excO C hp.objs.size), g, dr, tk, os⟩ := I1.laid (t' := tk) kept up (exo_ok new)
  have rel : Vals (V.ref (hp.objs.size + 1) :: vs) (Value.ref (hp.objs.size + 1) :: us) := .cons rfl r1
  have len : (Value.ref (hp.objs.size + 1) :: us).length = ps.length := rel.length.symm.trans (Fi.len _ _ _ _ want)
  have bind := hb _ (Value.ref (hp.objs.size + 1) :: us) J.kIn (by rw [List.append_nil]; exact len)
  rw [List.append_nil] at bind
  refine wpAny_call (HandSPX.call_own S.bs tail hC (PySem.W.looks_findIn I1.kIn iC) (fun self => PySem.W.bind_fn I1.kIn self tI) (by rw [← Paired.length r1, sizeLine_eq]; omega)
    (codeAny_mono (Fi.run _ X.stack _ _ ⟨Value.ref (hp.objs.size + 1) :: us, []⟩ _ _ _ (fun _ _ _ => False) (hr.make C us []) (J.env0.make C us []) bind rel want) ?_))
  intro r s' w
  match r, w with
  | .error er, w => exact hx pins σ _ _ er s' J w
  | .ok .next, w => exact False.elim w
  | .ok .brk, w => exact False.elim w
  | .ok .cont, w => exact False.elim w
  | .ok (.ret u), w =>
    obtain ⟨v, H2, os2, bare2, un2, hok2, rv, rfl, d, fs, ea, ed, free, q2⟩ := w
    obtain ⟨h2, g2, d2, t2, os'⟩ := s'
    exact ⟨rv, mk_end (raises_own O.isE O.isT) I1 up kept un2 hok2 os2 bare2 ea ed free q2⟩
end

/-! ### what is asked of a caught error -/
structure Asked (K : PySem.W.Frag) (D : Addr) : Prop where
  cl : (PySem.W.clsIn K D).isSome = true
  ga : PySem.W.findIn K (.ref D) "__getattribute__" = some (some (.builtin "BaseException.__getattribute__"))
  gt : PySem.W.findIn K (.ref D) "__getattr__" = some none
  sb : PySem.W.subIn K (.ref D) (.type "BaseException") = some true
  cc : PySem.W.findIn K (.ref D) "__class__" = some (some (.builtin "object.__class__"))
  gn : PySem.W.specialIn K (.builtin "object.__class__") "__get__" = some (some (.builtin "getset_descriptor.__get__"))
  tk : PySem.W.takesIn K (.builtin "object.__class__") = some true
  mr : PySem.W.mroIn K D (.type "object") = some true
theorem isC {K : PySem.W.Frag} {C : Addr} (h : PySem.W.hasDictIn K C = true) : (PySem.W.clsIn K C).isSome = true := by
  obtain ⟨cd, e, _⟩ := PySem.W.any_some h
  rw [e]
  rfl
/-- isinstance(e, c), isinstance(e, (c, ..)) -/
def rAsk (K : PySem.W.Frag) (a : Addr) (cls : Value) (d : Option Addr) (D : Addr) : List V → Hp → VK → Prop := fun xs H Q => cls = .ref D ∧ ∃ (dj : Addr) (fs : List (Str × V)) (c : V) (b : Bool), d = some dj ∧ H dj = some (.xd fs) ∧ xs = [.ref a, c] ∧
  ((∃ cv, (∀ u, RelV c u → u = cv) ∧ PySem.W.kitOne K (.ref D) cv = some b) ∨ ∃ (tp : Addr) (cs : List V) (us : List Value), c = .ref tp ∧ H tp = some (.tup cs) ∧ (∀ ws, Vals cs ws → ws = us) ∧ PySem.W.kitAny K (.ref D) us = some b) ∧ Q (.bl b) H
theorem call_ask {X : Cx} {a D : Addr} {oe : Obj} {cls : Value} {d : Option Addr} {pn : List (Addr × Obj)} (C : Asked X.K D) (hz : Zc cls d oe) (hf : ∃ vs, oe.data = .fields vs) : CallR (X.suite a ((a, oe) :: pn)) (.builtin "isinstance") (rAsk X.K a cls d D) := by
  intro pins s σ H xs us Q I r h
  obtain ⟨rfl, dj, fs, c, b, rfl, hd, rfl, ask, q⟩ := h
  obtain ⟨u1, u2, rfl, r1, r2⟩ := vals2 r
  obtain rfl : u1 = Value.ref a := r1
  obtain ⟨there, _⟩ := I.pin (a, oe) (List.mem_append.mpr (.inl List.mem_cons_self))
  obtain ⟨vs, hv⟩ := hf
  have low : ObjOk X.prog X.w H s.heap dj (.xd fs) := I.hok dj _ hd
  obtain ⟨mA, ⟨od, es, ep, ho, _⟩, _⟩ := low
  have J : PySem.W.InstAt s.heap a oe D (some od) := ⟨there, hz.1, by unfold PySem.W.notCls; rw [hv] <;> rfl, by rw [hz.2]; exact ho⟩
  have Z := PySem.W.kitx_exc (x := a) (ox := oe) (od := some od) C.cl C.ga C.gt C.sb C.cc C.gn C.tk C.mr
  have fin : ∀ tk : Nat, EP (X.suite a ((a, oe) :: pn)) pins σ Q (.bool b) { s with toks := tk } := fun tk => ⟨.bl b, H, I.kept (t' := tk) fun _ _ z => z, rfl, q⟩
  rcases ask with ⟨cv, hc, e⟩ | ⟨tp, cs, ws, rfl, ht, hc, e⟩
  · rw [hc u2 r2]
    exact PySem.W.kia_one Z I.kIn J e (fun z => nomatch z) fin
  · obtain rfl : u2 = Value.ref tp := r2
    have tup : ObjOk X.prog X.w H s.heap tp (.tup cs) := I.hok tp _ ht
    obtain ⟨_, its, rv, o, h1, h2, n, h3⟩ := tup
    rw [← hc its rv] at e
    obtain ⟨oc, oda, dt, sl⟩ := o
    simp only at h2 h3
    subst h2 h3
    exact PySem.W.kia_tup Z I.kIn J h1 e (fun z => nomatch z) fin
end VX

namespace VK
open PySem PySem.Spec PyProof.Rows L2 VM
def top (i : Nat) : Stmt := PySem.Challenge.pw_dueways_k23_whole_greedy_is_ahead.main.body.getD i (.Pass ⟨0, 0, 0, 0⟩)
abbrev s_NotGood_init : Stmt := inClass (top 8) 0
theorem sc_NotGood_init : FnScope ["self", "first", "second"] ["self", "first", "second"] (defScope s_NotGood_init) := ⟨rfl, rfl, rfl, by decide +kernel, rfl, by decide +kernel, by decide +kernel⟩
abbrev s_is_integer : Stmt := top 10
theorem sc_is_integer : FnScope ["value"] ["value"] (defScope s_is_integer) := ⟨rfl, rfl, rfl, by decide +kernel, rfl, by decide +kernel, by decide +kernel⟩
abbrev s_is_count : Stmt := top 11
theorem sc_is_count : FnScope ["value"] ["value"] (defScope s_is_count) := ⟨rfl, rfl, rfl, by decide +kernel, rfl, by decide +kernel, by decide +kernel⟩
abbrev s_is_count_to : Stmt := top 12
theorem sc_is_count_to : FnScope ["value", "most"] ["value", "most"] (defScope s_is_count_to) := ⟨rfl, rfl, rfl, by decide +kernel, rfl, by decide +kernel, by decide +kernel⟩
abbrev s_require_count : Stmt := top 13
theorem sc_require_count : FnScope ["value"] ["value"] (defScope s_require_count) := ⟨rfl, rfl, rfl, by decide +kernel, rfl, by decide +kernel, by decide +kernel⟩
abbrev s_require_count_to : Stmt := top 14
theorem sc_require_count_to : FnScope ["value", "most"] ["value", "most"] (defScope s_require_count_to) := ⟨rfl, rfl, rfl, by decide +kernel, rfl, by decide +kernel, by decide +kernel⟩
abbrev s_rounded_up : Stmt := top 15
theorem sc_rounded_up : FnScope ["units", "parts"] ["units", "parts"] (defScope s_rounded_up) := ⟨rfl, rfl, rfl, by decide +kernel, rfl, by decide +kernel, by decide +kernel⟩
abbrev s_value_at : Stmt := top 17
theorem sc_value_at : FnScope ["values", "period", "gain", "length", "rounds"] ["values", "period", "gain", "length"] (defScope s_value_at) := ⟨rfl, rfl, rfl, by decide +kernel, rfl, by decide +kernel, by decide +kernel⟩
abbrev s_least_form : Stmt := top 18
theorem sc_least_form : FnScope ["values", "period", "gain", "many", "row", "least", "step", "length"] ["values", "period", "gain"] (defScope s_least_form) := ⟨rfl, rfl, rfl, by decide +kernel, rfl, by decide +kernel, by decide +kernel⟩
abbrev s_least_period : Stmt := top 19
theorem sc_least_period : FnScope ["row", "many", "period", "least", "steps", "length"] ["row", "many", "period"] (defScope s_least_period) := ⟨rfl, rfl, rfl, by decide +kernel, rfl, by decide +kernel, by decide +kernel⟩
abbrev s_C_init : Stmt := inClass (top 24) 0
theorem sc_C_init : FnScope ["self", "values", "period", "gain", "wrong", "form", "least", "step"] ["self", "values", "period", "gain"] (defScope s_C_init) := ⟨rfl, rfl, rfl, by decide +kernel, rfl, by decide +kernel, by decide +kernel⟩
abbrev s_C_at : Stmt := inClass (top 24) 10
theorem sc_C_at : FnScope ["self", "length"] ["self", "length"] (defScope s_C_at) := ⟨rfl, rfl, rfl, by decide +kernel, rfl, by decide +kernel, by decide +kernel⟩
abbrev s_C_first_values : Stmt := inClass (top 24) 9
theorem sc_C_first_values : FnScope ["self"] ["self"] (defScope s_C_first_values) := ⟨rfl, rfl, rfl, by decide +kernel, rfl, by decide +kernel, by decide +kernel⟩
abbrev s_first_break : Stmt := top 26
theorem sc_first_break : FnScope ["curve", "many", "row", "total", "first", "length"] ["curve"] (defScope s_first_break) := ⟨rfl, rfl, rfl, by decide +kernel, rfl, by decide +kernel, by decide +kernel⟩
abbrev s_C_find_break : Stmt := inClass (top 24) 12
theorem sc_C_find_break : FnScope ["self"] ["self"] (defScope s_C_find_break) := ⟨rfl, rfl, rfl, by decide +kernel, rfl, by decide +kernel, by decide +kernel⟩
abbrev s_require_good : Stmt := top 27
theorem sc_require_good : FnScope ["curve", "found"] ["curve"] (defScope s_require_good) := ⟨rfl, rfl, rfl, by decide +kernel, rfl, by decide +kernel, by decide +kernel⟩
abbrev s_find_problem : Stmt := top 28
theorem sc_find_problem : FnScope ["values", "period", "gain", "before", "position", "value"] ["values", "period", "gain"] (defScope s_find_problem) := ⟨rfl, rfl, rfl, by decide +kernel, rfl, by decide +kernel, by decide +kernel⟩
abbrev s_keeps : Stmt := top 33
theorem sc_keeps : FnScope ["record", "curve"] ["record", "curve"] (defScope s_keeps) := ⟨rfl, rfl, rfl, by decide +kernel, rfl, by decide +kernel, by decide +kernel⟩
abbrev s_breach : Stmt := top 34
theorem sc_breach : FnScope ["record", "curve", "sums", "length", "most", "start", "units"] ["record", "curve"] (defScope s_breach) := ⟨rfl, rfl, rfl, by decide +kernel, rfl, by decide +kernel, by decide +kernel⟩
abbrev s_greedy : Stmt := top 35
theorem sc_greedy : FnScope ["curve", "ticks", "tick"] ["curve", "ticks"] (defScope s_greedy) := ⟨rfl, rfl, rfl, by decide +kernel, rfl, by decide +kernel, by decide +kernel⟩
abbrev s_shaped : Stmt := top 36
theorem sc_shaped : FnScope ["record", "curve", "limits", "entered", "waiting", "units", "entering", "length"] ["record", "curve"] (defScope s_shaped) := ⟨rfl, rfl, rfl, by decide +kernel, rfl, by decide +kernel, by decide +kernel⟩
abbrev s_require_record : Stmt := top 37
theorem sc_require_record : FnScope ["record", "position", "units"] ["record"] (defScope s_require_record) := ⟨rfl, rfl, rfl, by decide +kernel, rfl, by decide +kernel, by decide +kernel⟩
abbrev s_sums_before : Stmt := top 38
theorem sc_sums_before : FnScope ["record", "sums", "units"] ["record"] (defScope s_sums_before) := ⟨rfl, rfl, rfl, by decide +kernel, rfl, by decide +kernel, by decide +kernel⟩
abbrev s_window_sums : Stmt := top 39
theorem sc_window_sums : FnScope ["sums", "length", "start"] ["sums", "length"] (defScope s_window_sums) := ⟨rfl, rfl, rfl, by decide +kernel, rfl, by decide +kernel, by decide +kernel⟩
abbrev s_free_after : Stmt := top 40
theorem sc_free_after : FnScope ["record", "limits", "free", "units", "length", "entered"] ["record", "limits"] (defScope s_free_after) := ⟨rfl, rfl, rfl, by decide +kernel, rfl, by decide +kernel, by decide +kernel⟩
abbrev s_P_init : Stmt := inClass (top 42) 0
theorem sc_P_init : FnScope ["self", "curve", "queue"] ["self", "curve", "queue"] (defScope s_P_init) := ⟨rfl, rfl, rfl, by decide +kernel, rfl, by decide +kernel, by decide +kernel⟩
abbrev s_P_step : Stmt := inClass (top 42) 4
theorem sc_P_step : FnScope ["self", "units", "leak", "closed", "there", "entered", "allowed", "left", "returned"] ["self", "units", "leak", "closed"] (defScope s_P_step) := ⟨rfl, rfl, rfl, by decide +kernel, rfl, by decide +kernel, by decide +kernel⟩
abbrev s_P_record : Stmt := inClass (top 42) 5
theorem sc_P_record : FnScope ["self"] ["self"] (defScope s_P_record) := ⟨rfl, rfl, rfl, by decide +kernel, rfl, by decide +kernel, by decide +kernel⟩
abbrev s_l_rng : Stmt := top 44
theorem sc_l_rng : FnScope ["_law_script", "_law_k", "_law_cell"] ["_law_script", "_law_k"] (defScope s_l_rng) := ⟨rfl, rfl, rfl, by decide +kernel, rfl, by decide +kernel, by decide +kernel⟩
abbrev s_l_draw : Stmt := top 45
theorem sc_l_draw : FnScope ["_law_rng_here", "_law_many", "_law_digit"] ["_law_rng_here", "_law_many"] (defScope s_l_draw) := ⟨rfl, rfl, rfl, by decide +kernel, rfl, by decide +kernel, by decide +kernel⟩
abbrev s_l_choice : Stmt := top 46
theorem sc_l_choice : FnScope ["_law_rng_here", "_law_some"] ["_law_rng_here", "_law_some"] (defScope s_l_choice) := ⟨rfl, rfl, rfl, by decide +kernel, rfl, by decide +kernel, by decide +kernel⟩
abbrev s_l_at : Stmt := top 47
theorem sc_l_at : FnScope ["_law_row_here", "_law_size", "_law_steps", "_law_cycle", "_law_rise", "_law_times"] ["_law_row_here", "_law_size"] (defScope s_l_at) := ⟨rfl, rfl, rfl, by decide +kernel, rfl, by decide +kernel, by decide +kernel⟩
abbrev s_l_is_good : Stmt := top 48
theorem sc_l_is_good : FnScope ["_law_row_here", "_law_many", "_law_one", "_law_other"] ["_law_row_here"] (defScope s_l_is_good) := ⟨rfl, rfl, rfl, by decide +kernel, rfl, by decide +kernel, by decide +kernel⟩
abbrev s_l_rows : Stmt := top 49
theorem sc_l_rows : FnScope ["_law_rows_here"] [] (defScope s_l_rows) := ⟨rfl, rfl, rfl, by decide +kernel, rfl, by decide +kernel, by decide +kernel⟩
abbrev s_l_row : Stmt := top 50
theorem sc_l_row : FnScope ["_law_rng_here", "_law_steps", "_law_turn", "_law_cycle", "_law_low", "_law_row_here", "_law_one"] ["_law_rng_here"] (defScope s_l_row) := ⟨rfl, rfl, rfl, by decide +kernel, rfl, by decide +kernel, by decide +kernel⟩
abbrev s_l_room : Stmt := top 51
theorem sc_l_room : FnScope ["_law_row_here", "_law_units", "_law_found", "_law_size"] ["_law_row_here", "_law_units"] (defScope s_l_room) := ⟨rfl, rfl, rfl, by decide +kernel, rfl, by decide +kernel, by decide +kernel⟩
abbrev s_l_kept : Stmt := top 52
theorem sc_l_kept : FnScope ["_law_rng_here", "_law_row_here", "_law_span", "_law_found", "_law_often", "_law_k", "_law_room_here"] ["_law_rng_here", "_law_row_here", "_law_span"] (defScope s_l_kept) := ⟨rfl, rfl, rfl, by decide +kernel, rfl, by decide +kernel, by decide +kernel⟩
abbrev s_l_sums : Stmt := top 53
theorem sc_l_sums : FnScope ["_law_units", "_law_k"] ["_law_units"] (defScope s_l_sums) := ⟨rfl, rfl, rfl, by decide +kernel, rfl, by decide +kernel, by decide +kernel⟩
abbrev s_l_bad : Stmt := top 54
theorem sc_l_bad : FnScope ["_law_rng_here", "_law_first", "_law_more", "_law_steps", "_law_breaks", "_law_total", "_law_s"] ["_law_rng_here"] (defScope s_l_bad) := ⟨rfl, rfl, rfl, by decide +kernel, rfl, by decide +kernel, by decide +kernel⟩
abbrev s_l_refused : Stmt := top 55
theorem sc_l_refused : FnScope ["_law_steps", "_law_span", "_law_told", "e"] ["_law_steps", "_law_span"] (defScope s_l_refused) := ⟨rfl, rfl, rfl, by decide +kernel, rfl, by decide +kernel, by decide +kernel⟩
abbrev s_l_policed : Stmt := top 56
theorem sc_l_policed : FnScope ["_law_line", "_law_span", "_law_flood", "_law_police", "_law_tick"] ["_law_line", "_law_span", "_law_flood"] (defScope s_l_policed) := ⟨rfl, rfl, rfl, by decide +kernel, rfl, by decide +kernel, by decide +kernel⟩
abbrev s_l_long_right : Stmt := top 57
theorem sc_l_long_right : FnScope ["_law_rng_here", "_law_row_here", "_law_span", "_law_line", "_law_found", "_law_due", "_law_flood", "_law_told", "_law_size", "_law_tick"] ["_law_rng_here"] (defScope s_l_long_right) := ⟨rfl, rfl, rfl, by decide +kernel, rfl, by decide +kernel, by decide +kernel⟩
abbrev s_l_right : Stmt := top 58
theorem sc_l_right : FnScope ["_law_rng_here", "_law_row_here", "_law_span", "_law_line", "_law_due", "_law_told", "_law_turn", "_law_other", "_law_flood", "_law_steps", "_law_at_here", "_law_tick", "_law_one", "_law_most"] ["_law_rng_here"] (defScope s_l_right) := ⟨rfl, rfl, rfl, by decide +kernel, rfl, by decide +kernel, by decide +kernel⟩
abbrev s_law : Stmt := top 59
theorem sc_law : FnScope ["_law_script", "_law_k"] ["_law_script"] (defScope s_law) := ⟨rfl, rfl, rfl, by decide +kernel, rfl, by decide +kernel, by decide +kernel⟩
structure Ad where
  NotGood : Addr
  DueError : Addr
  InvalidCount : Addr
  InvalidRecord : Addr
  f_NotGood_init : Addr
  d_NotGood_init : FuncData
  f_is_integer : Addr
  d_is_integer : FuncData
  f_is_count : Addr
  d_is_count : FuncData
  f_is_count_to : Addr
  d_is_count_to : FuncData
  f_require_count : Addr
  d_require_count : FuncData
  f_require_count_to : Addr
  d_require_count_to : FuncData
  f_rounded_up : Addr
  d_rounded_up : FuncData
  f_value_at : Addr
  d_value_at : FuncData
  f_least_form : Addr
  d_least_form : FuncData
  f_least_period : Addr
  d_least_period : FuncData
  f_C_init : Addr
  d_C_init : FuncData
  f_C_at : Addr
  d_C_at : FuncData
  f_C_first_values : Addr
  d_C_first_values : FuncData
  f_first_break : Addr
  d_first_break : FuncData
  f_C_find_break : Addr
  d_C_find_break : FuncData
  f_require_good : Addr
  d_require_good : FuncData
  f_find_problem : Addr
  d_find_problem : FuncData
  f_keeps : Addr
  d_keeps : FuncData
  f_breach : Addr
  d_breach : FuncData
  f_greedy : Addr
  d_greedy : FuncData
  f_shaped : Addr
  d_shaped : FuncData
  f_require_record : Addr
  d_require_record : FuncData
  f_sums_before : Addr
  d_sums_before : FuncData
  f_window_sums : Addr
  d_window_sums : FuncData
  f_free_after : Addr
  d_free_after : FuncData
  f_P_init : Addr
  d_P_init : FuncData
  f_P_step : Addr
  d_P_step : FuncData
  f_P_record : Addr
  d_P_record : FuncData
  f_l_rng : Addr
  d_l_rng : FuncData
  f_l_draw : Addr
  d_l_draw : FuncData
  f_l_choice : Addr
  d_l_choice : FuncData
  f_l_at : Addr
  d_l_at : FuncData
  f_l_is_good : Addr
  d_l_is_good : FuncData
  f_l_rows : Addr
  d_l_rows : FuncData
  f_l_row : Addr
  d_l_row : FuncData
  f_l_room : Addr
  d_l_room : FuncData
  f_l_kept : Addr
  d_l_kept : FuncData
  f_l_sums : Addr
  d_l_sums : FuncData
  f_l_bad : Addr
  d_l_bad : FuncData
  f_l_refused : Addr
  d_l_refused : FuncData
  f_l_policed : Addr
  d_l_policed : FuncData
  f_l_long_right : Addr
  d_l_long_right : FuncData
  f_l_right : Addr
  d_l_right : FuncData
  f_law : Addr
  d_law : FuncData
  Curve : Addr
  Police : Addr
  t_MAX_VALUES : Tok
  t_MAX_VALUE : Tok
  t_MAX_TICKS : Tok
  a_PERIODS : Addr
structure Txt (K : PySem.W.Frag) (mg : Str → Option Value) (A : Ad) : Prop where
  m_DueError : mg "DueError" = some (.ref A.DueError)
  m_InvalidCount : mg "InvalidCount" = some (.ref A.InvalidCount)
  m_InvalidRecord : mg "InvalidRecord" = some (.ref A.InvalidRecord)
  m_NotGood : mg "NotGood" = some (.ref A.NotGood)
  O_NotGood : VX.Own K A.NotGood
  xf_NotGood : XfC K A.NotGood
  as_NotGood : VX.Asked K A.NotGood
  ex_NotGood : PySem.W.exmOne K (.ref A.NotGood) (.ref A.NotGood) = some true
  iC_NotGood : PySem.W.findIn K (.ref A.NotGood) "__init__" = some (some (.ref A.f_NotGood_init))
  tI_NotGood : PySem.W.typeIn K (.ref A.f_NotGood_init) = some (.type "function")
  n_NotGood_first : PySem.W.findIn K (.ref A.NotGood) "first" = some none
  n_NotGood_second : PySem.W.findIn K (.ref A.NotGood) "second" = some none
  kt_NotGood_RuntimeError : PySem.W.kitOne K (.ref A.NotGood) (.type "RuntimeError") = some true
  kt_NotGood_DueError_InvalidCount_InvalidRecord : PySem.W.kitAny K (.ref A.NotGood) [.ref A.DueError, .ref A.InvalidCount, .ref A.InvalidRecord] = some false
  F_NotGood_init : Fun K "__init__" "NotGood.__init__" s_NotGood_init A.f_NotGood_init A.d_NotGood_init
  b_NotGood_init : Binds K A.d_NotGood_init ["self", "first", "second"] []
  F_is_integer : Fun K "is_integer" "is_integer" s_is_integer A.f_is_integer A.d_is_integer
  m_is_integer : mg "is_integer" = some (.ref A.f_is_integer)
  k_is_integer : PySem.W.keepIn K (.ref A.f_is_integer) = true
  b_is_integer : Binds K A.d_is_integer ["value"] []
  F_is_count : Fun K "is_count" "is_count" s_is_count A.f_is_count A.d_is_count
  m_is_count : mg "is_count" = some (.ref A.f_is_count)
  k_is_count : PySem.W.keepIn K (.ref A.f_is_count) = true
  b_is_count : Binds K A.d_is_count ["value"] []
  F_is_count_to : Fun K "is_count_to" "is_count_to" s_is_count_to A.f_is_count_to A.d_is_count_to
  m_is_count_to : mg "is_count_to" = some (.ref A.f_is_count_to)
  k_is_count_to : PySem.W.keepIn K (.ref A.f_is_count_to) = true
  b_is_count_to : Binds K A.d_is_count_to ["value", "most"] []
  F_require_count : Fun K "require_count" "require_count" s_require_count A.f_require_count A.d_require_count
  m_require_count : mg "require_count" = some (.ref A.f_require_count)
  k_require_count : PySem.W.keepIn K (.ref A.f_require_count) = true
  b_require_count : Binds K A.d_require_count ["value"] []
  F_require_count_to : Fun K "require_count_to" "require_count_to" s_require_count_to A.f_require_count_to A.d_require_count_to
  m_require_count_to : mg "require_count_to" = some (.ref A.f_require_count_to)
  k_require_count_to : PySem.W.keepIn K (.ref A.f_require_count_to) = true
  b_require_count_to : Binds K A.d_require_count_to ["value", "most"] []
  F_rounded_up : Fun K "rounded_up" "rounded_up" s_rounded_up A.f_rounded_up A.d_rounded_up
  m_rounded_up : mg "rounded_up" = some (.ref A.f_rounded_up)
  k_rounded_up : PySem.W.keepIn K (.ref A.f_rounded_up) = true
  b_rounded_up : Binds K A.d_rounded_up ["units", "parts"] []
  F_value_at : Fun K "value_at" "value_at" s_value_at A.f_value_at A.d_value_at
  m_value_at : mg "value_at" = some (.ref A.f_value_at)
  k_value_at : PySem.W.keepIn K (.ref A.f_value_at) = true
  b_value_at : Binds K A.d_value_at ["values", "period", "gain", "length"] []
  F_least_form : Fun K "least_form" "least_form" s_least_form A.f_least_form A.d_least_form
  m_least_form : mg "least_form" = some (.ref A.f_least_form)
  k_least_form : PySem.W.keepIn K (.ref A.f_least_form) = true
  b_least_form : Binds K A.d_least_form ["values", "period", "gain"] []
  F_least_period : Fun K "least_period" "least_period" s_least_period A.f_least_period A.d_least_period
  m_least_period : mg "least_period" = some (.ref A.f_least_period)
  k_least_period : PySem.W.keepIn K (.ref A.f_least_period) = true
  b_least_period : Binds K A.d_least_period ["row", "many", "period"] []
  F_C_at : Fun K "at" "Curve.at" s_C_at A.f_C_at A.d_C_at
  b_C_at : Binds K A.d_C_at ["self", "length"] []
  me_at : Meth K A.Curve "at" A.f_C_at
  F_C_first_values : Fun K "first_values" "Curve.first_values" s_C_first_values A.f_C_first_values A.d_C_first_values
  b_C_first_values : Binds K A.d_C_first_values ["self"] []
  me_first_values : Meth K A.Curve "first_values" A.f_C_first_values
  F_first_break : Fun K "first_break" "first_break" s_first_break A.f_first_break A.d_first_break
  m_first_break : mg "first_break" = some (.ref A.f_first_break)
  k_first_break : PySem.W.keepIn K (.ref A.f_first_break) = true
  b_first_break : Binds K A.d_first_break ["curve"] []
  F_C_find_break : Fun K "find_break" "Curve.find_break" s_C_find_break A.f_C_find_break A.d_C_find_break
  b_C_find_break : Binds K A.d_C_find_break ["self"] []
  me_find_break : Meth K A.Curve "find_break" A.f_C_find_break
  F_require_good : Fun K "require_good" "require_good" s_require_good A.f_require_good A.d_require_good
  m_require_good : mg "require_good" = some (.ref A.f_require_good)
  k_require_good : PySem.W.keepIn K (.ref A.f_require_good) = true
  b_require_good : Binds K A.d_require_good ["curve"] []
  F_find_problem : Fun K "find_problem" "find_problem" s_find_problem A.f_find_problem A.d_find_problem
  m_find_problem : mg "find_problem" = some (.ref A.f_find_problem)
  k_find_problem : PySem.W.keepIn K (.ref A.f_find_problem) = true
  b_find_problem : Binds K A.d_find_problem ["values", "period", "gain"] []
  F_keeps : Fun K "keeps" "keeps" s_keeps A.f_keeps A.d_keeps
  m_keeps : mg "keeps" = some (.ref A.f_keeps)
  k_keeps : PySem.W.keepIn K (.ref A.f_keeps) = true
  b_keeps : Binds K A.d_keeps ["record", "curve"] []
  F_breach : Fun K "breach" "breach" s_breach A.f_breach A.d_breach
  m_breach : mg "breach" = some (.ref A.f_breach)
  k_breach : PySem.W.keepIn K (.ref A.f_breach) = true
  b_breach : Binds K A.d_breach ["record", "curve"] []
  F_greedy : Fun K "greedy" "greedy" s_greedy A.f_greedy A.d_greedy
  m_greedy : mg "greedy" = some (.ref A.f_greedy)
  k_greedy : PySem.W.keepIn K (.ref A.f_greedy) = true
  b_greedy : Binds K A.d_greedy ["curve", "ticks"] []
  F_shaped : Fun K "shaped" "shaped" s_shaped A.f_shaped A.d_shaped
  m_shaped : mg "shaped" = some (.ref A.f_shaped)
  k_shaped : PySem.W.keepIn K (.ref A.f_shaped) = true
  b_shaped : Binds K A.d_shaped ["record", "curve"] []
  F_require_record : Fun K "require_record" "require_record" s_require_record A.f_require_record A.d_require_record
  m_require_record : mg "require_record" = some (.ref A.f_require_record)
  k_require_record : PySem.W.keepIn K (.ref A.f_require_record) = true
  b_require_record : Binds K A.d_require_record ["record"] []
  F_sums_before : Fun K "sums_before" "sums_before" s_sums_before A.f_sums_before A.d_sums_before
  m_sums_before : mg "sums_before" = some (.ref A.f_sums_before)
  k_sums_before : PySem.W.keepIn K (.ref A.f_sums_before) = true
  b_sums_before : Binds K A.d_sums_before ["record"] []
  F_window_sums : Fun K "window_sums" "window_sums" s_window_sums A.f_window_sums A.d_window_sums
  m_window_sums : mg "window_sums" = some (.ref A.f_window_sums)
  k_window_sums : PySem.W.keepIn K (.ref A.f_window_sums) = true
  b_window_sums : Binds K A.d_window_sums ["sums", "length"] []
  F_free_after : Fun K "free_after" "free_after" s_free_after A.f_free_after A.d_free_after
  m_free_after : mg "free_after" = some (.ref A.f_free_after)
  k_free_after : PySem.W.keepIn K (.ref A.f_free_after) = true
  b_free_after : Binds K A.d_free_after ["record", "limits"] []
  F_P_record : Fun K "record" "Police.record" s_P_record A.f_P_record A.d_P_record
  b_P_record : Binds K A.d_P_record ["self"] []
  me_record : Meth K A.Police "record" A.f_P_record
  F_l_rng : Fun K "_law_rng" "_law_rng" s_l_rng A.f_l_rng A.d_l_rng
  m_l_rng : mg "_law_rng" = some (.ref A.f_l_rng)
  k_l_rng : PySem.W.keepIn K (.ref A.f_l_rng) = true
  b_l_rng : Binds K A.d_l_rng ["_law_script", "_law_k"] []
  F_l_draw : Fun K "_law_draw" "_law_draw" s_l_draw A.f_l_draw A.d_l_draw
  m_l_draw : mg "_law_draw" = some (.ref A.f_l_draw)
  k_l_draw : PySem.W.keepIn K (.ref A.f_l_draw) = true
  b_l_draw : Binds K A.d_l_draw ["_law_rng_here", "_law_many"] []
  F_l_choice : Fun K "_law_choice" "_law_choice" s_l_choice A.f_l_choice A.d_l_choice
  m_l_choice : mg "_law_choice" = some (.ref A.f_l_choice)
  k_l_choice : PySem.W.keepIn K (.ref A.f_l_choice) = true
  b_l_choice : Binds K A.d_l_choice ["_law_rng_here", "_law_some"] []
  F_l_at : Fun K "_law_at" "_law_at" s_l_at A.f_l_at A.d_l_at
  m_l_at : mg "_law_at" = some (.ref A.f_l_at)
  k_l_at : PySem.W.keepIn K (.ref A.f_l_at) = true
  b_l_at : Binds K A.d_l_at ["_law_row_here", "_law_size"] []
  F_l_is_good : Fun K "_law_is_good" "_law_is_good" s_l_is_good A.f_l_is_good A.d_l_is_good
  m_l_is_good : mg "_law_is_good" = some (.ref A.f_l_is_good)
  k_l_is_good : PySem.W.keepIn K (.ref A.f_l_is_good) = true
  b_l_is_good : Binds K A.d_l_is_good ["_law_row_here"] []
  F_l_rows : Fun K "_law_rows" "_law_rows" s_l_rows A.f_l_rows A.d_l_rows
  m_l_rows : mg "_law_rows" = some (.ref A.f_l_rows)
  k_l_rows : PySem.W.keepIn K (.ref A.f_l_rows) = true
  b_l_rows : Binds K A.d_l_rows [] []
  F_l_row : Fun K "_law_row" "_law_row" s_l_row A.f_l_row A.d_l_row
  m_l_row : mg "_law_row" = some (.ref A.f_l_row)
  k_l_row : PySem.W.keepIn K (.ref A.f_l_row) = true
  b_l_row : Binds K A.d_l_row ["_law_rng_here"] []
  F_l_room : Fun K "_law_room" "_law_room" s_l_room A.f_l_room A.d_l_room
  m_l_room : mg "_law_room" = some (.ref A.f_l_room)
  k_l_room : PySem.W.keepIn K (.ref A.f_l_room) = true
  b_l_room : Binds K A.d_l_room ["_law_row_here", "_law_units"] []
  F_l_kept : Fun K "_law_kept" "_law_kept" s_l_kept A.f_l_kept A.d_l_kept
  m_l_kept : mg "_law_kept" = some (.ref A.f_l_kept)
  k_l_kept : PySem.W.keepIn K (.ref A.f_l_kept) = true
  b_l_kept : Binds K A.d_l_kept ["_law_rng_here", "_law_row_here", "_law_span"] []
  F_l_sums : Fun K "_law_sums" "_law_sums" s_l_sums A.f_l_sums A.d_l_sums
  m_l_sums : mg "_law_sums" = some (.ref A.f_l_sums)
  k_l_sums : PySem.W.keepIn K (.ref A.f_l_sums) = true
  b_l_sums : Binds K A.d_l_sums ["_law_units"] []
  F_l_bad : Fun K "_law_bad" "_law_bad" s_l_bad A.f_l_bad A.d_l_bad
  m_l_bad : mg "_law_bad" = some (.ref A.f_l_bad)
  k_l_bad : PySem.W.keepIn K (.ref A.f_l_bad) = true
  b_l_bad : Binds K A.d_l_bad ["_law_rng_here"] []
  F_l_refused : Fun K "_law_refused" "_law_refused" s_l_refused A.f_l_refused A.d_l_refused
  m_l_refused : mg "_law_refused" = some (.ref A.f_l_refused)
  k_l_refused : PySem.W.keepIn K (.ref A.f_l_refused) = true
  b_l_refused : Binds K A.d_l_refused ["_law_steps", "_law_span"] []
  F_l_policed : Fun K "_law_policed" "_law_policed" s_l_policed A.f_l_policed A.d_l_policed
  m_l_policed : mg "_law_policed" = some (.ref A.f_l_policed)
  k_l_policed : PySem.W.keepIn K (.ref A.f_l_policed) = true
  b_l_policed : Binds K A.d_l_policed ["_law_line", "_law_span", "_law_flood"] []
  F_l_long_right : Fun K "_law_long_right" "_law_long_right" s_l_long_right A.f_l_long_right A.d_l_long_right
  m_l_long_right : mg "_law_long_right" = some (.ref A.f_l_long_right)
  k_l_long_right : PySem.W.keepIn K (.ref A.f_l_long_right) = true
  b_l_long_right : Binds K A.d_l_long_right ["_law_rng_here"] []
  F_l_right : Fun K "_law_right" "_law_right" s_l_right A.f_l_right A.d_l_right
  m_l_right : mg "_law_right" = some (.ref A.f_l_right)
  k_l_right : PySem.W.keepIn K (.ref A.f_l_right) = true
  b_l_right : Binds K A.d_l_right ["_law_rng_here"] []
  F_law : Fun K "law" "law" s_law A.f_law A.d_law
  m_law : mg "law" = some (.ref A.f_law)
  k_law : PySem.W.keepIn K (.ref A.f_law) = true
  b_law : Binds K A.d_law ["_law_script"] []
  RuntimeError : mg "RuntimeError" = none
  abs : mg "abs" = none
  all : mg "all" = none
  bool : mg "bool" = none
  divmod : mg "divmod" = none
  enumerate : mg "enumerate" = none
  int : mg "int" = none
  isinstance : mg "isinstance" = none
  len : mg "len" = none
  list : mg "list" = none
  max : mg "max" = none
  min : mg "min" = none
  range : mg "range" = none
  repr : mg "repr" = none
  reversed : mg "reversed" = none
  sum : mg "sum" = none
  zip : mg "zip" = none
  v_MAX_VALUES : mg "MAX_VALUES" = some (.int 24 A.t_MAX_VALUES)
  v_MAX_VALUE : mg "MAX_VALUE" = some (.int 2000 A.t_MAX_VALUE)
  v_MAX_TICKS : mg "MAX_TICKS" = some (.int 400 A.t_MAX_TICKS)
  v_PERIODS : mg "PERIODS" = some (.ref A.a_PERIODS)
  periods : ∀ H, SqT K H A.a_PERIODS [.int 1, .int 2, .int 3, .int 4, .int 6, .int 12]
  m_Curve : mg "Curve" = some (.ref A.Curve)
  cl : Cls K A.Curve
  n_values : NoAttr K A.Curve "_values"
  n_period : NoAttr K A.Curve "_period"
  n_gain : NoAttr K A.Curve "_gain"
  n_was_searched : NoAttr K A.Curve "_was_searched"
  n_break : NoAttr K A.Curve "_break"
  F_C_init : FunD K "__init__" "Curve.__init__" (defArgs s_C_init) (defBody s_C_init) (defScope s_C_init) [] [("period", .int 1), ("gain", .int 0)] A.f_C_init A.d_C_init
  M_Curve : Mk K A.Curve A.f_C_init
  m_Police : mg "Police" = some (.ref A.Police)
  clPolice : Cls K A.Police
  n_curve : NoAttr K A.Police "_curve"
  n_queue : NoAttr K A.Police "_queue"
  n_held : NoAttr K A.Police "_held"
  n_returned : NoAttr K A.Police "_returned"
  n_entered : NoAttr K A.Police "_entered"
  n_was_closed : NoAttr K A.Police "_was_closed"
  n_limits : NoAttr K A.Police "_limits"
  F_P_init : FunD K "__init__" "Police.__init__" (defArgs s_P_init) (defBody s_P_init) (defScope s_P_init) [] [("queue", .int 60)] A.f_P_init A.d_P_init
  M_Police : Mk K A.Police A.f_P_init
  F_P_step : FunD K "step" "Police.step" (defArgs s_P_step) (defBody s_P_step) (defScope s_P_step) [] [("leak", .int 0), ("closed", .bl false)] A.f_P_step A.d_P_step
  me_step : Meth K A.Police "step" A.f_P_step
/-! ### counts -/
/-- the built-in classes of the values that occur -/
def kinds : List String := ["NoneType", "bool", "int", "str", "list", "tuple", "dict"]
def Kd (K : PySem.W.Frag) (H : Hp) (v : V) (n : String) : Prop := TyX K H v (.type n) ∧ n ∈ kinds
theorem Kd.int {K : PySem.W.Frag} {H : Hp} (i : Int) : Kd K H (.int i) "int" := ⟨.base (.int i), by decide⟩
theorem Kd.is_int {K : PySem.W.Frag} {H : Hp} {v : V} (h : Kd K H v "int") : ∃ i, v = .int i := by
  obtain ⟨h, _⟩ := h
  generalize e : Value.type "int" = t at h
  cases h with
  | base b => cases b <;> first | exact ⟨_, rfl⟩ | (injection e with e; exact absurd e (by decide)) | cases e
  | _ => first | (injection e with e; exact absurd e (by decide)) | cases e
/-- a count -/
def cnt : V → Bool
  | .int i => decide (0 ≤ i)
  | _ => false
def cntTo (m : Int) : V → Bool
  | .int i => decide (0 ≤ i ∧ i ≤ m)
  | _ => false
def sp_is_integer (K : PySem.W.Frag) (_ : Ad) : Sp := fun vs H Q _ => ∃ v n, vs = [v] ∧ Kd K H v n ∧ Q (.bl (n == "int")) H
def sp_is_count (K : PySem.W.Frag) (_ : Ad) : Sp := fun vs H Q _ => ∃ v n, vs = [v] ∧ Kd K H v n ∧ Q (.bl (cnt v)) H
def sp_require_count (_ : PySem.W.Frag) (_ : Ad) : Sp := fun vs H Q _ => ∃ n : Int, vs = [.int n] ∧ 0 ≤ n ∧ Q .non H
def sp_require_count_to (_ : PySem.W.Frag) (_ : Ad) : Sp := fun vs H Q _ => ∃ n m : Int, vs = [.int n, .int m] ∧ 0 ≤ n ∧ n ≤ m ∧ Q .non H
def sp_is_count_to (K : PySem.W.Frag) (_ : Ad) : Sp := fun vs H Q _ => ∃ v n m, vs = [v, .int m] ∧ Kd K H v n ∧ Q (.bl (cntTo m v)) H
def sp_rounded_up (_ : PySem.W.Frag) (_ : Ad) : Sp := fun vs H Q _ => ∃ (u p : Int), vs = [.int u, .int p] ∧ 0 < p ∧ p < 1073741824 ∧ Q (.int ((u + p - 1) / p)) H
section
variable {P : Program} {w : World} {K : PySem.W.Frag} {mg : Str → Option Value} {base : Heap} {A : Ad}
theorem kitI {n : String} (h : n ∈ kinds) : PySem.W.kitOne K (.type n) (.type "int") = some (n == "int" || n == "bool") := by
  simp only [kinds, List.mem_cons, List.not_mem_nil, or_false] at h
  rcases h with rfl | rfl | rfl | rfl | rfl | rfl | rfl <;> exact kit_ty (by decide +kernel)
theorem kitB' {n : String} (h : n ∈ kinds) : PySem.W.kitOne K (.type n) (.type "bool") = some (n == "bool") := by
  simp only [kinds, List.mem_cons, List.not_mem_nil, or_false] at h
  rcases h with rfl | rfl | rfl | rfl | rfl | rfl | rfl <;> exact kit_ty (by decide +kernel)
theorem ok_is_integer (T : Txt K mg A) : FnOk P w K mg base CX0 1 A.f_is_integer A.d_is_integer ["value"] (sp_is_integer K A) := by
  refine T.F_is_integer.ok sc_is_integer (fun vs H Q E h => ?_) (fun cdv A0 outer s H vs Q E hr h => ?_)
  · obtain ⟨v, n, rfl, hk, q⟩ := h
    rfl
  · obtain ⟨v, n, rfl, hk, q⟩ := h
    refine ⟨_, (pss_one (ps_ret (pe_and (pe_callB (r := rIsi K) call_isi (by rfl) T.isinstance (by decide +kernel) (pa_cons (pv 0) (pa_cons (pe_bltn (v := .ty "int") (u := .type "int") (by rfl) T.int (by decide +kernel) (by exact rfl)) pa_nil))) (pe_one (pe_not (pe_callB (r := rIsi K) call_isi (by rfl) T.isinstance (by decide +kernel) (pa_cons (pv 0) (pa_cons (pe_bltn (v := .ty "bool") (u := .type "bool") (by rfl) T.bool (by decide +kernel) (by exact rfl)) pa_nil)))))))), ?_⟩
    refine ⟨_, rfl, v, .ty "int", _, _, _, rfl, .ty _, hk.1, kitI hk.2, _, rfl, ?_⟩
    refine ite2 (fun c => ?_) (fun c => ?_)
    · refine ⟨_, rfl, v, .ty "bool", _, _, _, rfl, .ty _, hk.1, kitB' hk.2, _, rfl, ?_⟩
      by_cases e : n = "bool"
      · subst e; exact q
      · have e1 : (n == "bool") = false := by simpa using e
        rw [e1] at c ⊢
        simp at c
        subst c
        exact q
    · simp at c
      have e1 : (n == "int") = false := by simpa using c.1
      rw [e1] at q
      exact q
theorem ok_is_count (T : Txt K mg A) : FnOk P w K mg base CX0 2 A.f_is_count A.d_is_count ["value"] (sp_is_count K A) := by
  have G_is_integer := ok_is_integer (P := P) (w := w) (base := base) T
  refine T.F_is_count.ok sc_is_count (fun vs H Q E h => ?_) (fun cdv A0 outer s H vs Q E hr h => ?_)
  · obtain ⟨v, n, rfl, hk, q⟩ := h
    rfl
  · obtain ⟨v, n, rfl, hk, q⟩ := h
    refine ⟨_, (pss_one (ps_ret (pe_and (pe_call G_is_integer (hr.mono (by decide)) rfl T.m_is_integer T.k_is_integer T.b_is_integer .nil pass0 (pa_cons (pv 0) pa_nil)) (pe_one (pe_cmpR op_ge (pv 0) pe_int (nomark _)))))), ?_⟩
    refine ⟨_, rfl, v, n, rfl, hk, _, rfl, ?_⟩
    refine ite2 (fun c => ?_) (fun c => ?_)
    · have e : n = "int" := by simpa using c
      subst e
      obtain ⟨i, rfl⟩ := hk.is_int
      exact ⟨_, rfl, _, _, rfl, rfl, q⟩
    · have e : cnt v = false := by
        cases v <;> first | rfl | skip
        obtain ⟨h, _⟩ := hk
        generalize et : Value.type n = t at h
        cases h with
        | base b => cases b; injection et with et; subst et; exact absurd rfl c
      rw [e] at q
      exact q
theorem ok_require_count (T : Txt K mg A) : FnOk P w K mg base CX0 3 A.f_require_count A.d_require_count ["value"] (sp_require_count K A) := by
  have G_is_count := ok_is_count (P := P) (w := w) (base := base) T
  refine T.F_require_count.ok sc_require_count (fun vs H Q E h => ?_) (fun cdv A0 outer s H vs Q E hr h => ?_)
  · obtain ⟨n, rfl, h, q⟩ := h
    rfl
  · obtain ⟨n, rfl, h, q⟩ := h
    refine ⟨_, (pss_one (ps_if (pt_not (pt_val (pe_call G_is_count (hr.mono (by decide)) rfl T.m_is_count T.k_is_count T.b_is_count .nil pass0 (pa_cons (pv 0) pa_nil)))) (pss_one ps_never) pss_nil)), ?_⟩
    refine ⟨_, rfl, _, _, rfl, Kd.int _, ?_⟩
    have e1 : cnt (.int n) = true := by unfold cnt; exact decide_eq_true h
    rw [e1]
    exact ⟨_, rfl, iteF q⟩
theorem ok_is_count_to (T : Txt K mg A) : FnOk P w K mg base CX0 3 A.f_is_count_to A.d_is_count_to ["value", "most"] (sp_is_count_to K A) := by
  have G_is_count := ok_is_count (P := P) (w := w) (base := base) T
  refine T.F_is_count_to.ok sc_is_count_to (fun vs H Q E h => ?_) (fun cdv A0 outer s H vs Q E hr h => ?_)
  · obtain ⟨v, n, m, rfl, hk, q⟩ := h
    rfl
  · obtain ⟨v, n, m, rfl, hk, q⟩ := h
    refine ⟨_, (pss_one (ps_ret (pe_and (pe_call G_is_count (hr.mono (by decide)) rfl T.m_is_count T.k_is_count T.b_is_count .nil pass0 (pa_cons (pv 0) pa_nil)) (pe_one (pe_cmpR op_le (pv 0) (pv 1) (nomark _)))))), ?_⟩
    refine ⟨_, rfl, v, n, rfl, hk, _, rfl, ?_⟩
    refine ite2 (fun c => ?_) (fun c => ?_)
    · cases v with
      | int i =>
        have c : 0 ≤ i := by simpa [cnt] using c
        refine ⟨_, rfl, _, rfl, _, _, rfl, rfl, ?_⟩
        have e : cntTo m (.int i) = decide (i ≤ m) := by unfold cntTo; simp [c]
        rw [e] at q
        exact q
      | _ => simp [cnt] at c
    · have e : cntTo m v = false := by
        cases v <;> first | rfl | skip
        rename_i i
        have c : ¬ 0 ≤ i := by simpa [cnt] using c
        unfold cntTo; simp [c]
      rw [e] at q
      exact q
theorem ok_require_count_to (T : Txt K mg A) : FnOk P w K mg base CX0 4 A.f_require_count_to A.d_require_count_to ["value", "most"] (sp_require_count_to K A) := by
  have G_is_count_to := ok_is_count_to (P := P) (w := w) (base := base) T
  refine T.F_require_count_to.ok sc_require_count_to (fun vs H Q E h => ?_) (fun cdv A0 outer s H vs Q E hr h => ?_)
  · obtain ⟨n, m, rfl, h, h2, q⟩ := h
    rfl
  · obtain ⟨n, m, rfl, h, h2, q⟩ := h
    refine ⟨_, (pss_one (ps_if (pt_not (pt_val (pe_call G_is_count_to (hr.mono (by decide)) rfl T.m_is_count_to T.k_is_count_to T.b_is_count_to .nil pass0 (pa_cons (pv 0) (pa_cons (pv 1) pa_nil))))) (pss_one ps_never) pss_nil)), ?_⟩
    refine ⟨_, rfl, _, rfl, _, _, _, rfl, Kd.int _, ?_⟩
    have e1 : cntTo m (.int n) = true := by unfold cntTo; exact decide_eq_true ⟨h, h2⟩
    rw [e1]
    exact ⟨_, rfl, iteF q⟩
theorem ok_rounded_up (T : Txt K mg A) : FnOk P w K mg base CX0 1 A.f_rounded_up A.d_rounded_up ["units", "parts"] (sp_rounded_up K A) := by
  refine T.F_rounded_up.ok sc_rounded_up (fun vs H Q E h => ?_) (fun cdv A0 outer s H vs Q E hr h => ?_)
  · obtain ⟨u, p, rfl, h1, h2, q⟩ := h
    rfl
  · obtain ⟨u, p, rfl, h1, h2, q⟩ := h
    refine ⟨_, (pss_one (ps_ret (pe_op op_fdiv (pe_op op_sub (pe_op op_add (pv 0) (pv 1)) pe_int) (pv 1)))), ?_⟩
    exact ⟨_, rfl, _, rfl, _, _, rfl, rfl, _, _, rfl, rfl, _, rfl, _, _, rfl, rfl, ⟨h1, h2⟩, q⟩
end
end VK


namespace VK
open PySem PySem.Spec PyProof.Rows L2 VM
theorem getD_map {xs : List Int} {j : Nat} (h : j < xs.length) : (xs.map V.int)[j]? = some (.int (xs.getD j 0)) := by
  rw [List.getElem?_map, List.getD_eq_getElem?_getD, List.getElem?_eq_getElem h]
  rfl
theorem at_map {xs : List Int} {i : Int} (h0 : 0 ≤ i) (h : i < xs.length) : atI (xs.map V.int) i = some (.int (xs.getD i.toNat 0)) := by
  have e : i = ((i.toNat : Nat) : Int) := by omega
  rw [e]
  exact atI_nat (getD_map (by omega))
theorem at_back {xs : List Int} {i : Int} (h0 : i < 0) (h : -(xs.length : Int) ≤ i) : atI (xs.map V.int) i = some (.int (xs.getD (i + xs.length).toNat 0)) := by
  unfold atI ixN
  rw [if_neg (by omega), List.length_map, if_pos h]
  show (xs.map V.int)[_]? = _
  exact getD_map (by omega)
theorem deq_int {a b : Int} : decide (V.int a = V.int b) = decide (a = b) := by
  by_cases h : a = b
  · subst h; simp
  · rw [decide_eq_false h, decide_eq_false (fun q => h (V.int.inj q))]
/-- a test of two ints on equality -/
theorem ifEq {a b : Int} {X Y : Prop} (h1 : a = b → X) (h2 : a ≠ b → Y) : if decide (V.int a = V.int b) = true then X else Y := by
  rw [deq_int]
  exact ite2 (fun c => h1 (of_decide_eq_true c)) fun c => h2 fun e => c (decide_eq_true e)
theorem ifD {c X Y : Prop} [Decidable c] (h1 : c → X) (h2 : ¬ c → Y) : if decide c = true then X else Y :=
  ite2 (fun e => h1 (of_decide_eq_true e)) fun e => h2 fun q => e (decide_eq_true q)
def sp_value_at (K : PySem.W.Frag) (_ : Ad) : Sp := fun vs H Q _ => ∃ (l : Addr) (xs : List Int) (p g t : Int), vs = [.ref l, .int p, .int g, .int t] ∧
  SqL K H l (xs.map V.int) ∧ 0 < p ∧ p ≤ xs.length ∧ xs.length ≤ 1000 ∧ 0 ≤ t ∧ t < 2 ^ 62 ∧ Q (.int (cvAt xs p g t)) H
section
variable {P : Program} {w : World} {K : PySem.W.Frag} {mg : Str → Option Value} {base : Heap} {A : Ad}
theorem ok_value_at (T : Txt K mg A) : FnOk P w K mg base CX0 2 A.f_value_at A.d_value_at ["values", "period", "gain", "length"] (sp_value_at K A) := by
  have G_rounded_up := ok_rounded_up (P := P) (w := w) (base := base) T
  refine T.F_value_at.ok sc_value_at (fun vs H Q E h => ?_) (fun cdv A0 outer s H vs Q E hr h => ?_)
  · obtain ⟨l, xs, p, g, t, rfl, hS, hp, hpn, hn, ht, htb, q⟩ := h
    rfl
  · obtain ⟨l, xs, p, g, t, rfl, hS, hp, hpn, hn, ht, htb, q⟩ := h
    refine ⟨_, (pss_cons (ps_if (pt_cmpR op_eq (pv 3) pe_int (nomark _)) (pss_one (ps_ret pe_int)) pss_nil)
    (pss_cons (ps_if (pt_cmpR op_le (pv 3) (pe_callB (r := VG.rLen K) VG.call_len (by rfl) T.len (by decide +kernel) (pa_cons (pv 0) pa_nil)) (nomark _)) (pss_one (ps_ret (pe_ix (r := rIxL K) ix_list (pv 0) (pe_op op_sub (pv 3) pe_int) (fun _ _ => rfl)))) pss_nil)
    (pss_cons (ps_set (i := 4) sc_value_at.nd rfl (by first | exact Or.inl rfl | exact Or.inr rfl) (pe_call G_rounded_up (hr.mono (by decide)) rfl T.m_rounded_up T.k_rounded_up T.b_rounded_up .nil pass0 (pa_cons (pe_op op_sub (pv 3) (pe_callB (r := VG.rLen K) VG.call_len (by rfl) T.len (by decide +kernel) (pa_cons (pv 0) pa_nil))) (pa_cons (pv 1) pa_nil))))
    (pss_one (ps_ret (pe_op op_add (pe_ix (r := rIxL K) ix_list (pv 0) (pe_op op_sub (pe_op op_sub (pv 3) (pe_op op_mul (pv 4) (pv 1))) pe_int) (fun _ _ => rfl)) (pe_op op_mul (pv 4) (pv 2)))))))), ?_⟩
    refine ⟨_, rfl, rfl, _, rfl, ifEq (fun c => ?_) (fun c => ?_)⟩
    · subst c
      rw [cvAt_zero] at q
      exact q
    refine ⟨_, rfl, _, rfl, l, _, rfl, .inl hS, _, _, rfl, rfl, _, rfl, ifD (fun c1 => ?_) (fun c1 => ?_)⟩
    · rw [List.length_map] at c1
      rw [cvAt_in (by omega) c1] at q
      exact ⟨_, rfl, _, rfl, _, _, rfl, rfl, l, _, _, _, rfl, rfl, hS, at_map (by omega) (by omega), q⟩
    · rw [List.length_map] at c1
      obtain ⟨r1, r2, r3⟩ := rounds_spec (n := (xs.length : Int)) (t := t) hp (by omega)
      have rb : (t - (xs.length : Int) + p - 1) / p ≤ t := by
        have := Int.ediv_le_self p (show 0 ≤ t - (xs.length : Int) + p - 1 by omega)
        omega
      refine ⟨_, rfl, _, rfl, l, _, rfl, .inl hS, _, _, rfl, rfl, _, rfl, _, _, rfl, hp, by omega, ?_⟩
      rw [List.length_map]
      refine ⟨_, rfl, _, rfl, _, rfl, _, rfl, _, _, rfl, rfl, .inl ⟨by omega, by omega⟩, _, _, rfl, rfl, _, _, rfl, rfl, l, _, _, _, rfl, rfl, hS, at_map (by omega) (by omega),
        _, rfl, _, rfl, _, _, rfl, rfl, .inl ⟨by omega, by omega⟩, _, _, rfl, rfl, ?_⟩
      unfold cvAt at q
      rw [if_neg c, if_neg c1] at q
      exact q
end
end VK


namespace VK
open PySem PySem.Spec PyProof.Rows L2 VM
/-- f's values at 0, 1, .. below m -/
def row (f : Int → Int) (m : Nat) : List Int := (List.range m).map fun (i : Nat) => f i
theorem row_length {f : Int → Int} {m : Nat} : (row f m).length = m := by simp [row]
theorem row_getD {f : Int → Int} {m i : Nat} (h : i < m) : (row f m).getD i 0 = f i := by
  unfold row
  rw [List.getD_eq_getElem?_getD, List.getElem?_map, List.getElem?_range h]
  rfl
theorem at_row {f : Int → Int} {m : Nat} {i : Int} (h0 : 0 ≤ i) (h : i < m) : atI ((row f m).map V.int) i = some (.int (f i)) := by
  rw [at_map h0 (by rw [row_length]; exact h), row_getD (by omega)]
  congr 3; omega
theorem row_succ {f : Int → Int} {m : Nat} : row f (m + 1) = row f m ++ [f m] := by
  unfold row; rw [List.range_succ, List.map_append]; rfl
theorem rowI_succ {f : Int → Int} {m : Nat} : (row f (m + 1)).map V.int = (row f m).map V.int ++ [V.int (f m)] := by
  rw [row_succ, List.map_append]; rfl
theorem small {n : Nat} (h : n ≤ 16777215) : n < sizeLine := by rw [sizeLine_eq]; omega
/-- a new object leaves what was tracked -/
theorem Same.upd {H H' : Hp} {p : Addr} {o : HO} (e : Same H H') (h : H p = none) : Same H (upd H' p o) := fun b u q => by
  rw [upd_ne (ne_of_none q h)]; exact e b u q
theorem steps_eq {f : Int → Int} {n p d m M : Int} (hp : 0 < p)
    (h1 : m ∈ row (fun i => f (n + 1 + i) - f (n + 1 + i - d)) p.toNat) (h2 : ∀ y ∈ row (fun i => f (n + 1 + i) - f (n + 1 + i - d)) p.toNat, m ≤ y)
    (h4 : ∀ y ∈ row (fun i => f (n + 1 + i) - f (n + 1 + i - d)) p.toNat, y ≤ M) (h3 : M ∈ row (fun i => f (n + 1 + i) - f (n + 1 + i - d)) p.toNat) :
    m = M ↔ stepsEq f n p d = true := by
  have mem : ∀ y, y ∈ row (fun i => f (n + 1 + i) - f (n + 1 + i - d)) p.toNat ↔ ∃ i : Nat, i < p.toNat ∧ f (n + 1 + i) - f (n + 1 + i - d) = y := by
    intro y
    unfold row
    rw [List.mem_map]
    exact ⟨fun ⟨i, a, b⟩ => ⟨i, List.mem_range.mp a, b⟩, fun ⟨i, a, b⟩ => ⟨i, List.mem_range.mpr a, b⟩⟩
  have f0 := (mem (f (n + 1 + (0 : Nat)) - f (n + 1 + (0 : Nat) - d))).mpr ⟨0, by omega, rfl⟩
  have z : n + 1 + ((0 : Nat) : Int) = n + 1 := by omega
  rw [z] at f0
  unfold stepsEq
  rw [List.all_eq_true]
  constructor
  · intro e i hi
    have hy := (mem _).mpr ⟨i, List.mem_range.mp hi, rfl⟩
    have a := h2 _ hy; have b := h4 _ hy
    have c := h2 _ f0; have d' := h4 _ f0
    exact decide_eq_true (by omega)
  · intro h
    obtain ⟨i, hi, ei⟩ := (mem m).mp h1
    obtain ⟨j, hj, ej⟩ := (mem M).mp h3
    have a := of_decide_eq_true (h i (List.mem_range.mpr hi))
    have b := of_decide_eq_true (h j (List.mem_range.mpr hj))
    omega
def sp_least_period (K : PySem.W.Frag) (_ : Ad) : Sp := fun vs H Q _ => ∃ (l : Addr) (f : Int → Int) (n p : Int), vs = [.ref l, .int n, .int p] ∧
  SqL K H l ((row f (n + p + 1).toNat).map V.int) ∧ 0 < p ∧ 0 ≤ n ∧ p ≤ 1000 ∧ n ≤ 1000 ∧ p ≤ n ∧
  ∀ H' t, Same H H' → H t = none → H' t = some (.tup [.int (leastP f n p).1, .int (leastP f n p).2]) → Q (.ref t) H'
section
variable {P : Program} {w : World} {K : PySem.W.Frag} {mg : Str → Option Value} {base : Heap} {A : Ad}
theorem ok_least_period (T : Txt K mg A) : FnOk P w K mg base CX0 1 A.f_least_period A.d_least_period ["row", "many", "period"] (sp_least_period K A) := by
  refine T.F_least_period.ok sc_least_period (fun vs H Q E h => ?_) (fun cdv A0 outer s H vs Q E hr h => ?_)
  · obtain ⟨l, f, n, p, rfl, hS, hp, hn, hpb, hnb, hpn, k⟩ := h
    rfl
  · obtain ⟨l, f, n, p, rfl, hS, hp, hn, hpb, hnb, hpn, k⟩ := h
    refine ⟨_, (pss_cons (ps_for PassesOwn.never rfl (pi_range2 rfl T.range (pa_cons pe_int (pa_cons (pv 2) pa_nil))) (pg_name (i := 3) sc_least_period.nd rfl (by first | exact Or.inl rfl | exact Or.inr rfl))
      (pss_one (ps_if (pt_cmpR op_eq (pe_op op_mod (pv 2) (pv 3)) pe_int (nomark _)) (pss_cons (ps_setLc (i := 4) (own := [("length", 5)]) (g := gName 5) (tt := tYes) rfl sc_least_period.nd rfl rfl (sw_true rfl rfl rfl (by decide +kernel)) (pi_range2 rfl T.range (pa_cons (pe_op op_add (pv 1) pe_int) (pa_cons (pe_op op_add (pe_op op_add (pv 1) (pv 2)) pe_int) pa_nil))) (blkOk_by (own := [("length", 5)]) (N := ["row", "many", "period", "least", "steps", "length"]) (sc := defScope s_least_period) (by decide +kernel)) (fun _ _ _ _ _ => pg_name (i := 5) sc_least_period.nd rfl (Or.inl rfl)) (fun _ _ _ _ _ => pts_nil) (fun _ _ _ _ _ => (pe_op op_sub (pe_ix (r := rIxL K) ix_list (pv 0) (pv 5) (fun _ _ => rfl)) (pe_ix (r := rIxL K) ix_list (pv 0) (pe_op op_sub (pv 5) (pv 3)) (fun _ _ => rfl)))))
    (pss_one (ps_if (pt_cmpR op_eq (pe_callB (r := rMin K) (cr_min rfl) (by rfl) T.min (by decide +kernel) (pa_cons (pv 4) pa_nil)) (pe_callB (r := rMax K) (cr_max rfl) (by rfl) T.max (by decide +kernel) (pa_cons (pv 4) pa_nil)) (nomark _)) (pss_one (ps_ret (pe_tup (pa_cons (pv 3) (pa_cons (pe_ix (r := rIxL K) ix_list (pv 4) pe_int (fun _ _ => rfl)) pa_nil))))) pss_nil))) pss_nil)))
    (pss_one (ps_ret (pe_tup (pa_cons (pv 2) (pa_cons (pe_op op_sub (pe_ix (r := rIxL K) ix_list (pv 0) (pe_op op_add (pv 1) (pv 2)) (fun _ _ => rfl)) (pe_ix (r := rIxL K) ix_list (pv 0) (pv 1) (fun _ _ => rfl))) pa_nil)))))), ?_⟩
    refine ⟨_, rfl, _, _, rfl, ⟨by omega, by omega, by omega, by omega⟩, for_range (lo := 1) (n := (p - 1).toNat)
      (fun i σ H' => ∃ v3 v4 v5, σ = [some (.ref l), some (.int n), some (.int p), v3, v4, v5] ∧ Same H H' ∧ leastP f n p = leastFrom f n p ((p - 1).toNat - i) (1 + i))
      ⟨_, _, _, rfl, Same.refl H, rfl⟩ ?_ ?_⟩
    · rintro i' σ H' hi ⟨v3, v4, v5, rfl, s0, e⟩
      have ek : (p - 1).toNat - i' = ((p - 1).toNat - (i' + 1)) + 1 := by omega
      rw [ek] at e
      unfold leastFrom at e
      refine ⟨_, rfl, _, rfl, _, _, rfl, rfl, (show (0 : Int) < 1 + i' by omega), rfl, _, rfl, ifEq (fun c => ?_) (fun c => ?_)⟩
      · refine ⟨_, rfl, _, _, rfl, rfl, _, rfl, _, rfl, _, _, rfl, rfl, _, _, rfl, rfl, _, _, rfl, ⟨by omega, by omega, by omega, by omega⟩, fun D hD => lc_range (lo := n + 1) (n := (n + p + 1 - (n + 1)).toNat)
          (fun j H2 => H2 D = some (.lst ((row (fun i => f (n + 1 + i) - f (n + 1 + i - (1 + i'))) j).map V.int)) ∧ Same H H2) ?_ ?_ ?_⟩
        · exact ⟨upd_same, Same.upd s0 (s0.free hD)⟩
        · rintro j H2 hj ⟨hD2, s2⟩
          refine ⟨rfl, _, rfl, _, rfl, l, _, _, _, rfl, rfl, s2.seq hS, at_row (by omega) (by omega), _, rfl, _, rfl, _, rfl, _, _, rfl, rfl, l, _, _, _, rfl, rfl, s2.seq hS, at_row (by omega) (by omega), _, _, rfl, rfl,
            _, hD2, small (by rw [List.length_map, row_length]; omega), ?_, ?_⟩
          · rw [upd_same, rowI_succ]
          · exact Same.upd s2 (s0.free hD)
        · rintro H2 ⟨hD2, s2⟩
          have eN : (n + p + 1 - (n + 1)).toNat = p.toNat := by omega
          rw [eN] at hD2
          have hl : 0 < (row (fun i => f (n + 1 + i) - f (n + 1 + i - (1 + i'))) p.toNat).length := by rw [row_length]; omega
          refine ⟨_, rfl, D, _, rfl, SqL.of hD2, hl, fun m hm hm2 => ?_⟩
          refine ⟨_, rfl, D, _, rfl, SqL.of hD2, hl, fun M hM hM2 => ?_⟩
          have key := steps_eq hp hm hm2 hM2 hM
          refine ⟨rfl, _, rfl, ifEq (fun c2 => ?_) (fun c2 => ?_)⟩
          · refine ⟨_, rfl, _, rfl, D, _, _, _, rfl, rfl, SqL.of hD2, at_row (by omega) (by omega), (by show 2 ≤ sizeLine; decide), fun t ht => ?_⟩
            rw [if_pos ⟨c, key.mp c2⟩] at e
            refine k _ t (Same.upd s2 (s2.free ht)) (s2.free ht) ?_
            rw [upd_same, e]
            simp
          · refine ⟨_, _, _, rfl, s2, ?_⟩
            rw [if_neg (fun z => c2 (key.mpr z.2))] at e
            rw [e]
            congr 1
      · refine ⟨_, _, _, rfl, s0, ?_⟩
        rw [if_neg (fun z => c z.1)] at e
        rw [e]
        congr 1
    · rintro σ H' ⟨v3, v4, v5, rfl, s0, e⟩
      rw [Nat.sub_self] at e
      unfold leastFrom at e
      refine ⟨_, rfl, _, rfl, _, rfl, _, rfl, _, _, rfl, rfl, l, _, _, _, rfl, rfl, s0.seq hS, at_row (by omega) (by omega), _, rfl, _, rfl, l, _, _, _, rfl, rfl, s0.seq hS, at_row (by omega) (by omega), _, _, rfl, rfl, (by show 2 ≤ sizeLine; decide), fun t ht => ?_⟩
      refine k _ t (Same.upd s0 (s0.free ht)) (s0.free ht) ?_
      rw [upd_same, e]
end
end VK


namespace VK
open PySem PySem.Spec PyProof.Rows L2 VM
theorem cut_nat {xs : List V} {a b : Nat} (h1 : a ≤ xs.length) (h2 : b ≤ xs.length) : cutV xs (some (a : Int)) (some (b : Int)) = (xs.drop a).take (b - a) := by
  unfold cutV
  rw [HT.sIx_nat, HT.sIx_nat, Nat.min_eq_left h1, Nat.min_eq_left h2]
theorem cut_row {f : Int → Int} {N m : Nat} (h : m < N) : cutV ((row f N).map V.int) (some 1) (some ((m : Int) + 1)) = (vals f m).map V.int := by
  have e1 : (1 : Int) = ((1 : Nat) : Int) := rfl
  have e2 : (m : Int) + 1 = ((m + 1 : Nat) : Int) := by omega
  rw [e2]
  rw [show (some 1 : Option Int) = some ((1 : Nat) : Int) from rfl, cut_nat (by rw [List.length_map, row_length]; omega) (by rw [List.length_map, row_length]; omega)]
  rw [← List.map_drop, ← List.map_take]
  congr 1
  apply List.ext_getElem?
  intro i
  unfold row vals
  by_cases hi : i < m
  · rw [List.getElem?_take_of_lt (by omega), List.getElem?_drop, List.getElem?_map, List.getElem?_map, List.getElem?_range (by omega), List.getElem?_range (by omega)]
    simp only [Option.map_some]
    congr 2
    omega
  · rw [List.getElem?_eq_none (by simp; omega), List.getElem?_eq_none (by simp; omega)]
def sp_least_form (K : PySem.W.Frag) (_ : Ad) : Sp := fun vs H Q _ => ∃ (l : Addr) (xs : List Int) (p g : Int), vs = [.ref l, .int p, .int g] ∧
  SqL K H l (xs.map V.int) ∧ 0 < p ∧ p ≤ xs.length ∧ xs.length ≤ 1000 ∧
  ∀ H' t l', Same H H' → H t = none → H l' = none → H' t = some (.tup [.ref l', .int (formP xs p g).1, .int (formP xs p g).2]) → H' l' = some (.lst ((formV xs p g).map V.int)) → Q (.ref t) H'
section
variable {P : Program} {w : World} {K : PySem.W.Frag} {mg : Str → Option Value} {base : Heap} {A : Ad}
theorem ok_least_form (T : Txt K mg A) : FnOk P w K mg base CX0 3 A.f_least_form A.d_least_form ["values", "period", "gain"] (sp_least_form K A) := by
  have G_least_period := ok_least_period (P := P) (w := w) (base := base) T
  have G_value_at := ok_value_at (P := P) (w := w) (base := base) T
  refine T.F_least_form.ok sc_least_form (fun vs H Q E h => ?_) (fun cdv A0 outer s H vs Q E hr h => ?_)
  · obtain ⟨l, xs, p, g, rfl, hS, hp, hpn, hn, k⟩ := h
    rfl
  · obtain ⟨l, xs, p, g, rfl, hS, hp, hpn, hn, k⟩ := h
    refine ⟨_, (pss_cons (ps_set (i := 3) sc_least_form.nd rfl (by first | exact Or.inl rfl | exact Or.inr rfl) (pe_callB (r := VG.rLen K) VG.call_len (by rfl) T.len (by decide +kernel) (pa_cons (pv 0) pa_nil)))
    (pss_cons (ps_setLc (i := 4) (own := [("length", 7)]) (g := gName 7) (tt := tYes) rfl sc_least_form.nd rfl rfl (sw_true rfl rfl rfl (by decide +kernel)) (pi_range1 rfl T.range (pa_cons (pe_op op_add (pe_op op_add (pv 3) (pv 1)) pe_int) pa_nil)) (blkOk_by (own := [("length", 7)]) (N := ["values", "period", "gain", "many", "row", "least", "step", "length"]) (sc := defScope s_least_form) (by decide +kernel)) (fun _ _ _ _ _ => pg_name (i := 7) sc_least_form.nd rfl (Or.inl rfl)) (fun _ _ _ _ _ => pts_nil) (fun _ _ _ _ _ => (pe_call G_value_at (hr.mono (by decide)) rfl T.m_value_at T.k_value_at T.b_value_at .nil pass0 (pa_cons (pv 0) (pa_cons (pv 1) (pa_cons (pv 2) (pa_cons (pv 7) pa_nil)))))))
    (pss_cons (ps_asg (pe_call G_least_period (hr.mono (by decide)) rfl T.m_least_period T.k_least_period T.b_least_period .nil pass0 (pa_cons (pv 4) (pa_cons (pv 3) (pa_cons (pv 1) pa_nil)))) (pg_tup rfl (pgs_cons (pg_name (i := 5) sc_least_form.nd rfl (by first | exact Or.inl rfl | exact Or.inr rfl)) (pgs_cons (pg_name (i := 6) sc_least_form.nd rfl (by first | exact Or.inl rfl | exact Or.inr rfl)) pgs_nil))))
    (pss_cons (ps_while PassesOwn.never (PW.pt (pw_and (pt_cmpR op_gt (pv 3) (pv 5) (nomark _)) (pw_and1 (pt_cmpR op_eq (pe_ix (r := rIxL K) ix_list (pv 4) (pv 3) (fun _ _ => rfl)) (pe_op op_add (pe_ix (r := rIxL K) ix_list (pv 4) (pe_op op_sub (pv 3) (pv 5)) (fun _ _ => rfl)) (pv 6)) (nomark _))))) (pss_one (ps_aug (i := 3) sc_least_form.nd rfl (.inl rfl) pe_int ip_sub)))
    (pss_one (ps_ret (pe_tup (pa_cons (pe_slice (r := rSlL K) sl_list (pv 4) (po_some pe_int) (po_some (pe_op op_add (pv 3) pe_int))) (pa_cons (pv 5) (pa_cons (pv 6) pa_nil)))))))))), ?_⟩
    refine ⟨_, rfl, l, _, rfl, .inl hS, ?_⟩
    rw [List.length_map]
    refine ⟨_, rfl, _, rfl, _, _, rfl, rfl, _, _, rfl, rfl, _, rfl, by omega, by omega, fun D hD => lc_range (lo := 0) (n := ((xs.length : Int) + p + 1).toNat)
      (fun j H2 => H2 D = some (.lst ((row (cvAt xs p g) j).map V.int)) ∧ Same H H2) ?_ ?_ ?_⟩
    · exact ⟨upd_same, Same.upd (Same.refl H) hD⟩
    · rintro j H2 hj ⟨hD2, s2⟩
      refine ⟨rfl, _, rfl, _, rfl, _, rfl, _, rfl, l, xs, p, g, _, rfl, s2.seq hS, hp, hpn, hn, by omega, by omega, _, hD2, small (by rw [List.length_map, row_length]; omega), ?_, ?_⟩
      · rw [upd_same, rowI_succ]
        rw [Int.zero_add]
      · exact Same.upd s2 hD
    · rintro H2 ⟨hD2, s2⟩
      refine ⟨_, rfl, _, rfl, _, rfl, D, cvAt xs p g, xs.length, p, rfl, SqL.of hD2, hp, by omega, by omega, by omega, hpn, fun H3 t s3 ht0 ht => ?_⟩
      refine ⟨t, _, rfl, .inl (.inl ht), rfl, _, _, rfl, _, _, rfl, rfl, ?_⟩
      obtain ⟨q1, q2, q3⟩ := leastP_spec (Rep.cvAt (g := g) hp hpn) hp
      have hP : formP xs p g = leastP (cvAt xs p g) xs.length p := rfl
      rw [← hP] at q1 q2 ht ⊢
      generalize hd : (formP xs p g).1 = d at *
      generalize hs : (formP xs p g).2 = st at *
      refine ⟨fun (m : Nat) (σ : L2.St) (H' : Hp) => σ = [some (.ref l), some (.int p), some (.int g), some (.int (m : Nat)), some (.ref D), some (.int d), some (.int st), none] ∧ Same H2 H' ∧ m ≤ xs.length ∧ d ≤ m ∧
        shr (cvAt xs p g) d st xs.length = shr (cvAt xs p g) d st m, ⟨xs.length, rfl, s3, Nat.le_refl _, by omega, rfl⟩, ?_⟩
      rintro m σ H4 ⟨rfl, s4, hm, hdm, e⟩
      have hD4 := s4 _ _ hD2
      have s4' : Same H H4 := s2.trans s4
      refine ⟨_, rfl, _, rfl, _, _, rfl, rfl, _, rfl, ifD (fun c => ?_) (fun c => ?_)⟩
      · refine ⟨_, rfl, _, rfl, D, _, _, _, rfl, rfl, SqL.of hD4, at_row (by omega) (by omega), _, rfl, _, rfl, _, rfl, _, _, rfl, rfl, D, _, _, _, rfl, rfl, SqL.of hD4, at_row (by omega) (by omega), _, rfl, _, _, rfl, rfl, rfl, _, rfl, ifEq (fun c2 => ?_) (fun c2 => ?_)⟩
        · refine ⟨fun σ' H' => σ' = [some (.ref l), some (.int p), some (.int g), some (.int ((m : Int) - 1)), some (.ref D), some (.int d), some (.int st), none] ∧ H' = H4, ?_, ?_⟩
          · rintro σ' H' ⟨rfl, rfl⟩
            refine ⟨m - 1, by omega, ?_, s4, by omega, by omega, ?_⟩
            · rw [show (m : Int) - 1 = ((m - 1 : Nat) : Int) by omega]
            · rw [e]
              obtain ⟨m, rfl⟩ : ∃ m', m = m' + 1 := ⟨m - 1, by omega⟩
              show shr (cvAt xs p g) d st (m + 1) = shr (cvAt xs p g) d st m
              conv => lhs; unfold shr
              rw [if_pos ⟨c, c2⟩]
          · exact ⟨_, rfl, _, _, rfl, rfl, rfl, rfl⟩
        · refine ⟨_, rfl, _, rfl, _, rfl, _, _, rfl, rfl, _, rfl, D, _, rfl, SqL.of hD4, fun l' hl' => ⟨_, rfl, _, rfl, (by show 3 ≤ sizeLine; decide), fun t' ht' => ?_⟩⟩
          have em : formM xs p g = m := by
            unfold formM
            rw [hd, hs, e]
            cases m with
            | zero => rfl
            | succ m =>
              unfold shr
              rw [if_neg (fun z => c2 z.2)]
          have nl : l' ≠ t' := fun z => by rw [← z, upd_same] at ht'; cases ht'
          have ht4 : H4 t' = none := by rw [upd_ne (Ne.symm nl)] at ht'; exact ht'
          refine k _ t' l' (Same.upd (Same.upd s4' (s4'.free hl')) (s4'.free ht4)) (s4'.free ht4) (s4'.free hl') upd_same ?_
          rw [upd_ne nl, upd_same]
          unfold formV
          rw [em, cut_row (by omega)]
      · refine ⟨_, rfl, _, rfl, _, rfl, _, _, rfl, rfl, _, rfl, D, _, rfl, SqL.of hD4, fun l' hl' => ⟨_, rfl, _, rfl, (by show 3 ≤ sizeLine; decide), fun t' ht' => ?_⟩⟩
        have em : formM xs p g = m := by
          unfold formM
          rw [hd, hs, e]
          cases m with
            | zero => rfl
            | succ m =>
              unfold shr
              rw [if_neg (fun z => c z.1)]
        have nl : l' ≠ t' := fun z => by rw [← z, upd_same] at ht'; cases ht'
        have ht4 : H4 t' = none := by rw [upd_ne (Ne.symm nl)] at ht'; exact ht'
        refine k _ t' l' (Same.upd (Same.upd s4' (s4'.free hl')) (s4'.free ht4)) (s4'.free ht4) (s4'.free hl') upd_same ?_
        rw [upd_ne nl, upd_same]
        unfold formV
        rw [em, cut_row (by omega)]
end
end VK


namespace VK
open PySem PySem.Spec PyProof.Rows L2 VM
theorem Kd.list {K : PySem.W.Frag} {H : Hp} {l : Addr} {xs : List V} (h : SqL K H l xs) : Kd K H (.ref l) "list" := by
  refine ⟨?_, by decide⟩
  rcases h with (h | ⟨o, h⟩) | ⟨o, its, n, h1, h2, _⟩
  · exact .base (.lst h)
  · exact .base (.frz h)
  · exact .kList h1 h2
/-- a curve as it may be written -/
structure OkRow (xs : List Int) (p g : Int) : Prop where
  l1 : 1 ≤ xs.length
  l2 : xs.length ≤ 24
  lo : ∀ i, i < xs.length → 0 ≤ xs.getD i 0
  hi : ∀ i, i < xs.length → xs.getD i 0 ≤ 2000
  up : ∀ i, i + 1 < xs.length → xs.getD i 0 ≤ xs.getD (i + 1) 0
  per : p = 1 ∨ p = 2 ∨ p = 3 ∨ p = 4 ∨ p = 6 ∨ p = 12
  pn : p ≤ xs.length
  g0 : 0 ≤ g
  g1 : g ≤ 2000
  last : xs.getD (xs.length - 1) 0 ≤ xs.getD (xs.length - p.toNat) 0 + g
def sp_find_problem (K : PySem.W.Frag) (_ : Ad) : Sp := fun vs H Q _ => ∃ (l : Addr) (xs : List Int) (p g : Int), vs = [.ref l, .int p, .int g] ∧
  SqL K H l (xs.map V.int) ∧ OkRow xs p g ∧ ∀ H', Same H H' → Q .non H'
section
variable {P : Program} {w : World} {K : PySem.W.Frag} {mg : Str → Option Value} {base : Heap} {A : Ad}
theorem ok_find_problem (T : Txt K mg A) : FnOk P w K mg base CX0 4 A.f_find_problem A.d_find_problem ["values", "period", "gain"] (sp_find_problem K A) := by
  have G_is_count_to := ok_is_count_to (P := P) (w := w) (base := base) T
  have G_is_integer := ok_is_integer (P := P) (w := w) (base := base) T
  refine T.F_find_problem.ok sc_find_problem (fun vs H Q E h => ?_) (fun cdv A0 outer s H vs Q E hr h => ?_)
  · obtain ⟨l, xs, p, g, rfl, hS, R, k⟩ := h
    rfl
  · obtain ⟨l, xs, p, g, rfl, hS, R, k⟩ := h
    refine ⟨_, (pss_cons (ps_if (pt_not (pt_val (pe_callB (r := rIsi K) call_isi (by rfl) T.isinstance (by decide +kernel) (pa_cons (pv 0) (pa_cons (pe_bltn (v := .ty "list") (u := .type "list") (by rfl) T.list (by decide +kernel) (by exact rfl)) pa_nil))))) (pss_one (ps_ret (pe_tup (pa_cons pe_str (pa_cons pe_int pa_nil))))) pss_nil)
    (pss_cons (ps_if (pt_not (pt_chain op_le op_le pe_int (pe_callB (r := VG.rLen K) VG.call_len (by rfl) T.len (by decide +kernel) (pa_cons (pv 0) pa_nil)) (pe_glob (v := .int 24) rfl T.v_MAX_VALUES ⟨_, rfl⟩))) (pss_one (ps_ret (pe_tup (pa_cons pe_str (pa_cons pe_int pa_nil))))) pss_nil)
    (pss_cons (ps_set (i := 3) sc_find_problem.nd rfl (by first | exact Or.inl rfl | exact Or.inr rfl) pe_int)
    (pss_cons (ps_for PassesOwn.never rfl (pi_enum (by rfl) T.enumerate (pa_cons (pv 0) pa_nil)) (pg_tup rfl (pgs_cons (pg_name (i := 4) sc_find_problem.nd rfl (by first | exact Or.inl rfl | exact Or.inr rfl)) (pgs_cons (pg_name (i := 5) sc_find_problem.nd rfl (by first | exact Or.inl rfl | exact Or.inr rfl)) pgs_nil)))
      (pss_cons (ps_if (PW.pt (pw_or (pt_not (pt_val (pe_call G_is_count_to (hr.mono (by decide)) rfl T.m_is_count_to T.k_is_count_to T.b_is_count_to .nil pass0 (pa_cons (pv 5) (pa_cons (pe_glob (v := .int 2000) rfl T.v_MAX_VALUE ⟨_, rfl⟩) pa_nil))))) (pw_or1 (pt_cmpR op_lt (pv 5) (pv 3) (nomark _))))) (pss_one (ps_ret (pe_tup (pa_cons pe_str (pa_cons (pv 4) pa_nil))))) pss_nil)
    (pss_one (ps_set (i := 3) sc_find_problem.nd rfl (by first | exact Or.inl rfl | exact Or.inr rfl) (pv 5)))))
    (pss_cons (ps_if (PW.pt (pw_or (pt_not (pt_val (pe_call G_is_integer (hr.mono (by decide)) rfl T.m_is_integer T.k_is_integer T.b_is_integer .nil pass0 (pa_cons (pv 1) pa_nil)))) (pw_or (pt_cmpR (r := rIn K true) op_notIn_seq (pv 1) (pe_glob (v := .ref A.a_PERIODS) rfl T.v_PERIODS rfl) (by rfl)) (pw_or1 (pt_cmpR op_gt (pv 1) (pe_callB (r := VG.rLen K) VG.call_len (by rfl) T.len (by decide +kernel) (pa_cons (pv 0) pa_nil)) (nomark _)))))) (pss_one (ps_ret (pe_tup (pa_cons pe_str (pa_cons pe_int pa_nil))))) pss_nil)
    (pss_cons (ps_if (PW.pt (pw_or (pt_not (pt_val (pe_call G_is_count_to (hr.mono (by decide)) rfl T.m_is_count_to T.k_is_count_to T.b_is_count_to .nil pass0 (pa_cons (pv 2) (pa_cons (pe_glob (v := .int 2000) rfl T.v_MAX_VALUE ⟨_, rfl⟩) pa_nil))))) (pw_or1 (pt_cmpR op_lt (pe_op op_add (pe_ix (r := rIxL K) ix_list (pv 0) (pe_un un_neg (pv 1)) (fun _ _ => rfl)) (pv 2)) (pe_ix (r := rIxL K) ix_list (pv 0) (pe_un un_neg pe_int) (fun _ _ => rfl)) (nomark _))))) (pss_one (ps_ret (pe_tup (pa_cons pe_str (pa_cons pe_int pa_nil))))) pss_nil)
    (pss_one (ps_ret pe_non)))))))), ?_⟩
    refine ⟨_, rfl, .ref l, .ty "list", _, _, _, rfl, .ty _, (Kd.list hS).1, (show PySem.W.kitOne K (.type "list") (.type "list") = some true from kit_ty (by decide +kernel)), _, rfl, iteF ?_⟩
    have l1 := R.l1
    have l2 := R.l2
    refine ⟨_, rfl, l, _, rfl, .inl hS, _, _, rfl, rfl, _, rfl, ?_⟩
    rw [List.length_map]
    refine ifD (fun _ => ?_) (fun c => absurd (show (1 : Int) ≤ xs.length by omega) c)
    refine ⟨_, _, rfl, rfl, _, rfl, iteNS (by omega) ?_⟩
    -- before = 0; the loop
    refine ⟨_, rfl, l, _, rfl, hS, for_it (walk_enum (K := K) (a := l) (xs := xs.map V.int)) (fun i σ H' => ∃ v5 v6, σ = [some (.ref l), some (.int p), some (.int g), some (.int (if i = 0 then 0 else xs.getD (i - 1) 0)), v5, v6] ∧ Same H H')
      ⟨_, _, rfl, Same.refl H⟩ (fun i σ H' _ ⟨_, _, _, s0⟩ => s0.seq hS) ?_ ?_⟩
    · rintro i x σ H' H2 hi ⟨v5, v6, rfl, s0⟩ ⟨t, a, b, rfl, ht, rfl, ea, eb⟩
      rw [List.length_map] at hi
      have eb' : (xs.map V.int)[i]? = some b := eb
      rw [getD_map hi] at eb'
      cases ea
      cases eb'
      have s2 : Same H (upd H' t (.tup [.int (i : Nat), .int (xs.getD i 0)])) := Same.upd s0 (s0.free ht)
      refine ⟨t, _, rfl, SqT.of upd_same, rfl, _, _, rfl, _, _, rfl, rfl, ?_⟩
      have r1 := R.lo i hi
      have r2 := R.hi i hi
      refine ⟨_, rfl, _, _, _, rfl, Kd.int _, _, rfl, ?_⟩
      have e1 : cntTo 2000 (.int (xs.getD i 0)) = true := by unfold cntTo; exact decide_eq_true ⟨r1, r2⟩
      rw [e1]
      refine iteF ⟨_, rfl, _, rfl, _, _, rfl, rfl, _, rfl, ?_⟩
      refine ifD (fun c => ?_) (fun c => ?_)
      · exfalso
        by_cases z : i = 0
        · rw [if_pos z] at c; omega
        · rw [if_neg z] at c
          have := R.up (i - 1) (by omega)
          rw [show i - 1 + 1 = i by omega] at this
          omega
      · refine ⟨_, rfl, some (.int (i : Nat)), some (.int (xs.getD i 0)), ?_, s2⟩
        rw [if_neg (Nat.succ_ne_zero i)]
        rfl
    · rintro σ H' ⟨v5, v6, rfl, s0⟩
      have hS' := s0.seq hS
      have pn := R.pn
      have g0 := R.g0
      have g1 := R.g1
      have last := R.last
      have pp : 0 < p ∧ p ≤ 12 := by rcases R.per with h | h | h | h | h | h <;> omega
      refine ⟨_, rfl, _, _, rfl, Kd.int _, _, rfl, iteF ?_⟩
      have inP : inV (.int p) [.int 1, .int 2, .int 3, .int 4, .int 6, .int 12] = true := by
        rcases R.per with h | h | h | h | h | h <;> subst h <;> decide
      refine ⟨_, rfl, A.a_PERIODS, _, rfl, .inr (T.periods H'), rfl, rfl, _, rfl, ?_⟩
      rw [inP]
      refine iteF ⟨_, rfl, _, rfl, l, _, rfl, .inl hS', _, _, rfl, rfl, _, rfl, ?_⟩
      rw [List.length_map]
      refine ifD (fun c => absurd pn (by omega)) (fun _ => ?_)
      have e1 : cntTo 2000 (.int g) = true := by unfold cntTo; exact decide_eq_true ⟨g0, g1⟩
      refine ⟨_, rfl, _, _, _, rfl, Kd.int _, _, rfl, ?_⟩
      rw [e1]
      refine iteF ⟨_, rfl, _, rfl, _, rfl, l, _, _, _, rfl, rfl, hS', at_back (by omega) (by omega), _, rfl, _, _, rfl, rfl, _, rfl, _, rfl, l, _, _, _, rfl, rfl, hS', at_back (by omega) (by omega), _, _, rfl, rfl, _, rfl, ?_⟩
      refine ifD (fun c => ?_) (fun _ => k H' s0)
      exfalso
      rw [show (-p + (xs.length : Int)).toNat = xs.length - p.toNat by omega, show (-1 + (xs.length : Int)).toNat = xs.length - 1 by omega] at c
      omega
end
end VK


namespace VK
open PySem PySem.Spec PyProof.Rows L2 VM
/-- the attributes of a curve -/
def cfs (l : Addr) (p g : Int) (w : Bool) : List (Str × V) := [("_values", V.ref l), ("_period", V.int p), ("_gain", V.int g), ("_was_searched", V.bl w), ("_break", V.non)]
theorem n_vp : ¬ (("_values" : Str) = "_period") := by decide +kernel
theorem n_vg : ¬ (("_values" : Str) = "_gain") := by decide +kernel
theorem n_pg : ¬ (("_period" : Str) = "_gain") := by decide +kernel
theorem n_vw : ¬ (("_values" : Str) = "_was_searched") := by decide +kernel
theorem n_pw : ¬ (("_period" : Str) = "_was_searched") := by decide +kernel
theorem n_gw : ¬ (("_gain" : Str) = "_was_searched") := by decide +kernel
theorem n_vb : ¬ (("_values" : Str) = "_break") := by decide +kernel
theorem n_pb : ¬ (("_period" : Str) = "_break") := by decide +kernel
theorem n_gb : ¬ (("_gain" : Str) = "_break") := by decide +kernel
theorem n_wb : ¬ (("_was_searched" : Str) = "_break") := by decide +kernel
theorem put1 (v : V) : putF "_values" v [] = [(("_values" : Str), v)] := rfl
theorem put2 (v u : V) : putF "_period" u [(("_values" : Str), v)] = [(("_values" : Str), v), ("_period", u)] := by
  show (if ("_values" : Str) = "_period" then _ else (("_values" : Str), v) :: putF "_period" u []) = _
  rw [if_neg n_vp]
  rfl
theorem put3 (v u z : V) : putF "_gain" z [(("_values" : Str), v), ("_period", u)] = [(("_values" : Str), v), ("_period", u), ("_gain", z)] := by
  show (if ("_values" : Str) = "_gain" then _ else (("_values" : Str), v) :: (if ("_period" : Str) = "_gain" then _ else (("_period" : Str), u) :: putF "_gain" z [])) = _
  rw [if_neg n_vg, if_neg n_pg]
  rfl
theorem put4 (v u z y : V) : putF "_was_searched" y [(("_values" : Str), v), ("_period", u), ("_gain", z)] = [(("_values" : Str), v), ("_period", u), ("_gain", z), ("_was_searched", y)] := by
  show (if ("_values" : Str) = "_was_searched" then _ else (("_values" : Str), v) :: (if ("_period" : Str) = "_was_searched" then _ else (("_period" : Str), u) :: (if ("_gain" : Str) = "_was_searched" then _ else (("_gain" : Str), z) :: putF "_was_searched" y []))) = _
  rw [if_neg n_vw, if_neg n_pw, if_neg n_gw]
  rfl
theorem put5 (v u z y x : V) : putF "_break" x [(("_values" : Str), v), ("_period", u), ("_gain", z), ("_was_searched", y)] = [(("_values" : Str), v), ("_period", u), ("_gain", z), ("_was_searched", y), ("_break", x)] := by
  show (if ("_values" : Str) = "_break" then _ else (("_values" : Str), v) :: (if ("_period" : Str) = "_break" then _ else (("_period" : Str), u) :: (if ("_gain" : Str) = "_break" then _ else (("_gain" : Str), z) :: (if ("_was_searched" : Str) = "_break" then _ else (("_was_searched" : Str), y) :: putF "_break" x [])))) = _
  rw [if_neg n_vb, if_neg n_pb, if_neg n_gb, if_neg n_wb]
  rfl
theorem cset_w (l : Addr) (p g : Int) (w : Bool) : putF "_was_searched" (.bl true) (cfs l p g w) = cfs l p g true := by
  show (if ("_values" : Str) = "_was_searched" then _ else (("_values" : Str), V.ref l) :: (if ("_period" : Str) = "_was_searched" then _ else (("_period" : Str), V.int p) :: (if ("_gain" : Str) = "_was_searched" then _ else (("_gain" : Str), V.int g) :: (if ("_was_searched" : Str) = "_was_searched" then _ else _)))) = _
  rw [if_neg n_vw, if_neg n_pw, if_neg n_gw, if_pos rfl]
  rfl
theorem cset_b (l : Addr) (p g : Int) (w : Bool) : putF "_break" V.non (cfs l p g w) = cfs l p g w := by
  show (if ("_values" : Str) = "_break" then _ else (("_values" : Str), V.ref l) :: (if ("_period" : Str) = "_break" then _ else (("_period" : Str), V.int p) :: (if ("_gain" : Str) = "_break" then _ else (("_gain" : Str), V.int g) :: (if ("_was_searched" : Str) = "_break" then _ else (("_was_searched" : Str), V.bl w) :: (if ("_break" : Str) = "_break" then _ else _))))) = _
  rw [if_neg n_vb, if_neg n_pb, if_neg n_gb, if_neg n_wb, if_pos rfl]
  rfl
theorem cfs_v (l : Addr) (p g : Int) (w : Bool) : (cfs l p g w).lookup ("_values" : Str) = some (.ref l) := by
  unfold cfs; simp [List.lookup]
theorem cfs_p (l : Addr) (p g : Int) (w : Bool) : (cfs l p g w).lookup ("_period" : Str) = some (.int p) := by
  have h : (("_period" : Str) == "_values") = false := by decide +kernel
  unfold cfs; simp [List.lookup, h]
theorem cfs_g (l : Addr) (p g : Int) (w : Bool) : (cfs l p g w).lookup ("_gain" : Str) = some (.int g) := by
  have h : (("_gain" : Str) == "_values") = false := by decide +kernel
  have h2 : (("_gain" : Str) == "_period") = false := by decide +kernel
  unfold cfs; simp [List.lookup, h, h2]
theorem cfs_w (l : Addr) (p g : Int) (w : Bool) : (cfs l p g w).lookup ("_was_searched" : Str) = some (.bl w) := by
  have h : (("_was_searched" : Str) == "_values") = false := by decide +kernel
  have h2 : (("_was_searched" : Str) == "_period") = false := by decide +kernel
  have h3 : (("_was_searched" : Str) == "_gain") = false := by decide +kernel
  unfold cfs; simp [List.lookup, h, h2, h3]
theorem cfs_b (l : Addr) (p g : Int) (w : Bool) : (cfs l p g w).lookup ("_break" : Str) = some .non := by
  have h : (("_break" : Str) == "_values") = false := by decide +kernel
  have h2 : (("_break" : Str) == "_period") = false := by decide +kernel
  have h3 : (("_break" : Str) == "_gain") = false := by decide +kernel
  have h4 : (("_break" : Str) == "_was_searched") = false := by decide +kernel
  unfold cfs; simp [List.lookup, h, h2, h3, h4]
theorem cfs_no (l : Addr) (p g : Int) {w : Bool} {m : Str} (h1 : (m == ("_values" : Str)) = false) (h2 : (m == ("_period" : Str)) = false) (h3 : (m == ("_gain" : Str)) = false) (h4 : (m == ("_was_searched" : Str)) = false := by decide +kernel) (h5 : (m == ("_break" : Str)) = false := by decide +kernel) : (cfs l p g w).lookup m = none := by
  unfold cfs; simp [List.lookup, h1, h2, h3, h4, h5]
/-- a curve whose form is this -/
def CrvAt (A : Ad) (H : Hp) (x : Addr) (vs : List Int) (p g : Int) : Prop := ∃ dx l w, H x = some (.ins A.Curve dx (cfs l p g w)) ∧ H l = some (.lst (vs.map V.int))
theorem CrvAt.same {A : Ad} {H H' : Hp} {x : Addr} {vs : List Int} {p g : Int} (h : CrvAt A H x vs p g) (s : Same H H') : CrvAt A H' x vs p g := by
  obtain ⟨dx, l, w, h1, h2⟩ := h
  exact ⟨dx, l, w, s _ _ h1, s _ _ h2⟩
def sp_C_init (K : PySem.W.Frag) (A : Ad) : Sp := fun vs H Q _ => ∃ (x dx l : Addr) (xs : List Int) (p g : Int), vs = [.ref x, .ref l, .int p, .int g] ∧
  H x = some (.ins A.Curve dx []) ∧ SqL K H l (xs.map V.int) ∧ OkRow xs p g ∧
  ∀ H' dx' l', (∀ b o, b ≠ x → H b = some o → H' b = some o) → H l' = none → H' x = some (.ins A.Curve dx' (cfs l' (formP xs p g).1 (formP xs p g).2 false)) → H' l' = some (.lst ((formV xs p g).map V.int)) → Q .non H'
def sp_C_at (K : PySem.W.Frag) (A : Ad) : Sp := fun vs H Q _ => ∃ (x : Addr) (xs : List Int) (p g t : Int), vs = [.ref x, .int t] ∧
  CrvAt A H x xs p g ∧ 0 < p ∧ p ≤ xs.length ∧ xs.length ≤ 1000 ∧ 0 ≤ t ∧ t < 2 ^ 62 ∧ Q (.int (cvAt xs p g t)) H
section
variable {P : Program} {w : World} {K : PySem.W.Frag} {mg : Str → Option Value} {base : Heap} {A : Ad}
theorem ok_C_init (T : Txt K mg A) : FnOk P w K mg base CX0 5 A.f_C_init A.d_C_init ["self", "values", "period", "gain"] (sp_C_init K A) := by
  have G_find_problem := ok_find_problem (P := P) (w := w) (base := base) T
  have G_least_form := ok_least_form (P := P) (w := w) (base := base) T
  refine T.F_C_init.ok sc_C_init (fun vs H Q E h => ?_) (fun cdv A0 outer s H vs Q E hr h => ?_)
  · obtain ⟨x, dx, l, xs, p, g, rfl, hx, hS, R, k⟩ := h
    rfl
  · obtain ⟨x, dx, l, xs, p, g, rfl, hx, hS, R, k⟩ := h
    refine ⟨_, (pss_cons (ps_set (i := 4) sc_C_init.nd rfl (by first | exact Or.inl rfl | exact Or.inr rfl) (pe_call G_find_problem (hr.mono (by decide)) rfl T.m_find_problem T.k_find_problem T.b_find_problem .nil pass0 (pa_cons (pv 1) (pa_cons (pv 2) (pa_cons (pv 3) pa_nil)))))
    (pss_cons (ps_if (pt_cmp (pc_notN (pv 4)) rfl) (pss_one ps_never) pss_nil)
    (pss_cons (ps_asg (pe_call G_least_form (hr.mono (by decide)) rfl T.m_least_form T.k_least_form T.b_least_form .nil pass0 (pa_cons (pv 1) (pa_cons (pv 2) (pa_cons (pv 3) pa_nil)))) (pg_tup rfl (pgs_cons (pg_name (i := 5) sc_C_init.nd rfl (by first | exact Or.inl rfl | exact Or.inr rfl)) (pgs_cons (pg_name (i := 6) sc_C_init.nd rfl (by first | exact Or.inl rfl | exact Or.inr rfl)) (pgs_cons (pg_name (i := 7) sc_C_init.nd rfl (by first | exact Or.inl rfl | exact Or.inr rfl)) pgs_nil)))))
    (pss_cons (ps_fld (pv 0) (pv 5) rfl)
    (pss_cons (ps_fld (pv 0) (pv 6) rfl)
    (pss_cons (ps_fld (pv 0) (pv 7) rfl)
    (pss_cons (ps_fld (pv 0) pe_bl rfl)
    (pss_one (ps_fld (pv 0) pe_non rfl))))))))), ?_⟩
    have pp : 0 < p ∧ p ≤ 12 := by rcases R.per with h | h | h | h | h | h <;> omega
    refine ⟨_, rfl, _, rfl, _, rfl, l, xs, p, g, rfl, hS, R, fun H1 s1 => ?_⟩
    refine ⟨_, rfl, _, rfl, iteF ?_⟩
    refine ⟨_, rfl, _, rfl, _, rfl, l, xs, p, g, rfl, s1.seq hS, pp.1, R.pn, by have := R.l2; omega, fun H2 t l' s2 ht0 hl0 ht hl => ?_⟩
    refine ⟨t, _, rfl, SqT.of ht, rfl, _, _, rfl, _, _, rfl, _, _, rfl, rfl, ?_⟩
    have s02 : Same H H2 := s1.trans s2
    have hx2 := s02 _ _ hx
    have nlx : l' ≠ x := fun z => by rw [z, s1 _ _ hx] at hl0; cases hl0
    refine ⟨_, rfl, _, rfl, x, _, dx, _, rfl, hx2, T.cl, T.n_values, (by show 0 < 1000; decide), ?_⟩
    refine ⟨_, rfl, _, rfl, x, _, dx, _, rfl, upd_same, T.cl, T.n_period, (by show 1 < 1000; decide), ?_⟩
    refine ⟨_, rfl, _, rfl, x, _, dx, _, rfl, upd_same, T.cl, T.n_gain, (by rw [put1, put2]; show 2 < 1000; decide), ?_⟩
    refine ⟨_, rfl, x, _, dx, _, rfl, upd_same, T.cl, T.n_was_searched, (by rw [put1, put2, put3]; show 3 < 1000; decide), ?_⟩
    refine ⟨_, rfl, x, _, dx, _, rfl, upd_same, T.cl, T.n_break, (by rw [put1, put2, put3, put4]; show 4 < 1000; decide), ?_⟩
    refine k _ dx l' (fun b o hb e => ?_) (s1.free hl0) ?_ ?_
    · rw [upd_ne hb, upd_ne hb, upd_ne hb, upd_ne hb, upd_ne hb]; exact s02 _ _ e
    · rw [upd_same, put1, put2, put3, put4, put5]; rfl
    · rw [upd_ne nlx, upd_ne nlx, upd_ne nlx, upd_ne nlx, upd_ne nlx]; exact hl
theorem ok_C_at (T : Txt K mg A) : FnOk P w K mg base CX0 3 A.f_C_at A.d_C_at ["self", "length"] (sp_C_at K A) := by
  have G_is_count := ok_is_count (P := P) (w := w) (base := base) T
  have G_value_at := ok_value_at (P := P) (w := w) (base := base) T
  refine T.F_C_at.ok sc_C_at (fun vs H Q E h => ?_) (fun cdv A0 outer s H vs Q E hr h => ?_)
  · obtain ⟨x, xs, p, g, t, rfl, ⟨dx, l, w, hx, hl⟩, hp, hpn, hn, ht, htb, q⟩ := h
    rfl
  · obtain ⟨x, xs, p, g, t, rfl, ⟨dx, l, w, hx, hl⟩, hp, hpn, hn, ht, htb, q⟩ := h
    refine ⟨_, (pss_cons (ps_if (pt_not (pt_val (pe_call G_is_count (hr.mono (by decide)) rfl T.m_is_count T.k_is_count T.b_is_count .nil pass0 (pa_cons (pv 1) pa_nil)))) (pss_one ps_never) pss_nil)
    (pss_one (ps_ret (pe_call G_value_at (hr.mono (by decide)) rfl T.m_value_at T.k_value_at T.b_value_at .nil pass0 (pa_cons (pe_fld (pv 0) rfl) (pa_cons (pe_fld (pv 0) rfl) (pa_cons (pe_fld (pv 0) rfl) (pa_cons (pv 1) pa_nil)))))))), ?_⟩
    refine ⟨_, rfl, _, _, rfl, Kd.int _, ?_⟩
    have e1 : cnt (.int t) = true := by unfold cnt; exact decide_eq_true ht
    rw [e1]
    refine ⟨_, rfl, iteF ?_⟩
    refine ⟨_, rfl, x, _, dx, _, _, rfl, hx, T.cl, T.n_values, cfs_v _ _ _ _, _, rfl, x, _, dx, _, _, rfl, hx, T.cl, T.n_period, cfs_p _ _ _ _, _, rfl, x, _, dx, _, _, rfl, hx, T.cl, T.n_gain, cfs_g _ _ _ _, _, rfl, l, xs, p, g, t, rfl, SqL.of hl, hp, hpn, hn, ht, htb, q⟩
end
end VK


namespace VK
open PySem PySem.Spec PyProof.Rows L2 VM
theorem nth_map {xs : List Int} {i : Nat} {x : V} (h : (xs.map V.int)[i]? = some x) : i < xs.length ∧ x = .int (xs.getD i 0) := by
  have hi : i < xs.length := by
    have := (List.getElem?_eq_some_iff.mp h).1
    rw [List.length_map] at this
    exact this
  rw [getD_map hi] at h
  exact ⟨hi, (Option.some.inj h).symm⟩
/-- counts -/
def Cnts (us : List Int) : Prop := ∀ i, i < us.length → 0 ≤ us.getD i 0
def sp_require_record (K : PySem.W.Frag) (_ : Ad) : Sp := fun vs H Q _ => ∃ (l : Addr) (us : List Int), vs = [.ref l] ∧ SqL K H l (us.map V.int) ∧ Cnts us ∧ ∀ H', Same H H' → Q .non H'
def sp_sums_before (K : PySem.W.Frag) (_ : Ad) : Sp := fun vs H Q _ => ∃ (l : Addr) (us : List Int), vs = [.ref l] ∧ SqL K H l (us.map V.int) ∧ us.length ≤ 1000 ∧
  ∀ H' p, Same H H' → H p = none → H' p = some (.lst ((row (pre us) (us.length + 1)).map V.int)) → Q (.ref p) H'
def sp_window_sums (K : PySem.W.Frag) (_ : Ad) : Sp := fun vs H Q _ => ∃ (l : Addr) (us : List Int) (k : Nat), vs = [.ref l, .int k] ∧ SqL K H l ((row (pre us) (us.length + 1)).map V.int) ∧ us.length ≤ 1000 ∧ k ≤ us.length ∧
  ∀ H' p, Same H H' → H p = none → H' p = some (.lst ((row (fun s => win us s k) (us.length + 1 - k)).map V.int)) → Q (.ref p) H'
section
variable {P : Program} {w : World} {K : PySem.W.Frag} {mg : Str → Option Value} {base : Heap} {A : Ad}
theorem ok_require_record (T : Txt K mg A) : FnOk P w K mg base CX0 3 A.f_require_record A.d_require_record ["record"] (sp_require_record K A) := by
  have G_is_count := ok_is_count (P := P) (w := w) (base := base) T
  refine T.F_require_record.ok sc_require_record (fun vs H Q E h => ?_) (fun cdv A0 outer s H vs Q E hr h => ?_)
  · obtain ⟨l, us, rfl, hS, hc, k⟩ := h
    rfl
  · obtain ⟨l, us, rfl, hS, hc, k⟩ := h
    refine ⟨_, (pss_cons (ps_if (pt_not (pt_val (pe_callB (r := rIsi K) call_isi (by rfl) T.isinstance (by decide +kernel) (pa_cons (pv 0) (pa_cons (pe_bltn (v := .ty "list") (u := .type "list") (by rfl) T.list (by decide +kernel) (by exact rfl)) pa_nil))))) (pss_one ps_never) pss_nil)
    (pss_one (ps_for PassesOwn.never rfl (pi_enum (by rfl) T.enumerate (pa_cons (pv 0) pa_nil)) (pg_tup rfl (pgs_cons (pg_name (i := 1) sc_require_record.nd rfl (by first | exact Or.inl rfl | exact Or.inr rfl)) (pgs_cons (pg_name (i := 2) sc_require_record.nd rfl (by first | exact Or.inl rfl | exact Or.inr rfl)) pgs_nil)))
      (pss_one (ps_if (pt_not (pt_val (pe_call G_is_count (hr.mono (by decide)) rfl T.m_is_count T.k_is_count T.b_is_count .nil pass0 (pa_cons (pv 2) pa_nil)))) (pss_one ps_never) pss_nil))))), ?_⟩
    refine ⟨_, rfl, .ref l, .ty "list", _, _, _, rfl, .ty _, (Kd.list hS).1, (show PySem.W.kitOne K (.type "list") (.type "list") = some true from kit_ty (by decide +kernel)), _, rfl, iteF ?_⟩
    refine ⟨_, rfl, l, _, rfl, hS, for_it (walk_enum (K := K) (a := l) (xs := us.map V.int)) (fun i σ H' => ∃ v1 v2, σ = [some (.ref l), v1, v2] ∧ Same H H')
      ⟨_, _, rfl, Same.refl H⟩ (fun i σ H' _ ⟨_, _, _, s0⟩ => s0.seq hS) ?_ ?_⟩
    · rintro i x σ H' H2 hi ⟨v1, v2, rfl, s0⟩ ⟨t, a, b, rfl, ht, rfl, ea, eb⟩
      obtain ⟨hi', rfl⟩ := nth_map eb
      cases ea
      refine ⟨t, _, rfl, SqT.of upd_same, rfl, _, _, rfl, _, _, rfl, rfl, ?_⟩
      have e1 : cnt (.int (us.getD i 0)) = true := by unfold cnt; exact decide_eq_true (hc i hi')
      refine ⟨_, rfl, _, _, rfl, Kd.int _, ?_⟩
      rw [e1]
      exact ⟨_, rfl, iteF ⟨_, _, rfl, Same.upd s0 (s0.free ht)⟩⟩
    · rintro σ H' ⟨v1, v2, rfl, s0⟩
      exact k H' s0
theorem ok_sums_before (T : Txt K mg A) : FnOk P w K mg base CX0 1 A.f_sums_before A.d_sums_before ["record"] (sp_sums_before K A) := by
  refine T.F_sums_before.ok sc_sums_before (fun vs H Q E h => ?_) (fun cdv A0 outer s H vs Q E hr h => ?_)
  · obtain ⟨l, us, rfl, hS, hn, k⟩ := h
    rfl
  · obtain ⟨l, us, rfl, hS, hn, k⟩ := h
    refine ⟨_, (pss_cons (ps_set (i := 1) sc_sums_before.nd rfl (by first | exact Or.inl rfl | exact Or.inr rfl) (pe_lst (pa_cons pe_int pa_nil)))
    (pss_cons (ps_for PassesOwn.never rfl (pi_list (pv 0)) (pg_name (i := 2) sc_sums_before.nd rfl (by first | exact Or.inl rfl | exact Or.inr rfl))
      (pss_one (ps_expr (pe_bm PySem.F.plainAttrs_list PySem.F.slot_list_append PySem.F.type_list_append mt_append (pv 1) (pa_cons (pe_op op_add (pe_ix (r := rIxL K) ix_list (pv 1) (pe_un un_neg pe_int) (fun _ _ => rfl)) (pv 2)) pa_nil)))))
    (pss_one (ps_ret (pv 1))))), ?_⟩
    refine ⟨(by show 1 ≤ sizeLine; decide), fun p hp => ?_⟩
    refine ⟨_, rfl, l, rfl, ⟨_, (Same.upd (Same.refl H) hp).seq hS⟩, for_list (K := K) (a := l) (xs := us.map V.int) (fun i σ H' => ∃ v2, σ = [some (.ref l), some (.ref p), v2] ∧ Same H H' ∧ H' p = some (.lst ((row (pre us) (i + 1)).map V.int)))
      ⟨_, rfl, Same.upd (Same.refl H) hp, upd_same⟩ (fun i σ H' _ ⟨_, _, s0, _⟩ => s0.seq hS) ?_ ?_⟩
    · rintro i x σ H' hx ⟨v2, rfl, s0, hP⟩
      obtain ⟨hi, rfl⟩ := nth_map hx
      refine ⟨_, rfl, .inl ⟨rfl, _, SqL.of hP⟩, _, rfl, _, rfl, p, _, _, _, rfl, rfl, SqL.of hP, at_back (by omega) (by rw [row_length]; omega), _, rfl, _, _, rfl, rfl, p, _, _, rfl, rfl, hP, small (by rw [List.length_map, row_length]; omega), ?_⟩
      refine ⟨_, rfl, Same.upd s0 hp, ?_⟩
      rw [upd_same, rowI_succ (m := i + 1), row_length, row_getD (by omega)]
      congr 5
      rw [show ((-1 + ((i + 1 : Nat) : Int)).toNat : Int) = (i : Int) by omega, show (((i + 1 : Nat)) : Int) = (i : Int) + 1 by omega, pre_step hi]
    · rintro σ H' ⟨v2, rfl, s0, hP⟩
      rw [List.length_map] at hP
      exact ⟨_, rfl, k H' p s0 hp hP⟩
theorem ok_window_sums (T : Txt K mg A) : FnOk P w K mg base CX0 1 A.f_window_sums A.d_window_sums ["sums", "length"] (sp_window_sums K A) := by
  refine T.F_window_sums.ok sc_window_sums (fun vs H Q E h => ?_) (fun cdv A0 outer s H vs Q E hr h => ?_)
  · obtain ⟨l, us, k, rfl, hS, hn, hk, q⟩ := h
    rfl
  · obtain ⟨l, us, k, rfl, hS, hn, hk, q⟩ := h
    refine ⟨_, (pss_one (ps_ret (pe_lc (own := [("start", 2)]) (g := gName 2) (tt := tYes) rfl sc_window_sums.nd (pi_range1 rfl T.range (pa_cons (pe_op op_sub (pe_callB (r := VG.rLen K) VG.call_len (by rfl) T.len (by decide +kernel) (pa_cons (pv 0) pa_nil)) (pv 1)) pa_nil)) (blkOk_by (own := [("start", 2)]) (N := ["sums", "length", "start"]) (sc := defScope s_window_sums) (by decide +kernel)) (fun _ _ _ _ _ => pg_name (i := 2) sc_window_sums.nd rfl (Or.inl rfl)) (fun _ _ _ _ _ => pts_nil) (fun _ _ _ _ _ => (pe_op op_sub (pe_ix (r := rIxL K) ix_list (pv 0) (pe_op op_add (pv 2) (pv 1)) (fun _ _ => rfl)) (pe_ix (r := rIxL K) ix_list (pv 0) (pv 2) (fun _ _ => rfl))))))), ?_⟩
    refine ⟨_, rfl, l, _, rfl, .inl hS, _, rfl, _, _, rfl, rfl, ?_⟩
    rw [List.length_map, row_length]
    refine ⟨_, rfl, by omega, by omega, fun D hD => lc_range (lo := 0) (n := (((us.length + 1 : Nat) : Int) - k).toNat)
      (fun j H2 => H2 D = some (.lst ((row (fun s => win us s k) j).map V.int)) ∧ Same H H2) ?_ ?_ ?_⟩
    · exact ⟨upd_same, Same.upd (Same.refl H) hD⟩
    · rintro j H2 hj ⟨hD2, s2⟩
      refine ⟨rfl, _, rfl, _, rfl, _, rfl, _, _, rfl, rfl, l, _, _, _, rfl, rfl, s2.seq hS, at_row (by omega) (by omega), _, rfl, _, rfl, l, _, _, _, rfl, rfl, s2.seq hS, at_row (by omega) (by omega), _, _, rfl, rfl,
        _, hD2, small (by rw [List.length_map, row_length]; omega), ?_, Same.upd s2 hD⟩
      rw [upd_same, rowI_succ, Int.zero_add]
      rfl
    · rintro H2 ⟨hD2, s2⟩
      rw [show (((us.length + 1 : Nat) : Int) - k).toNat = us.length + 1 - k by omega] at hD2
      exact q H2 D s2 hD hD2
end
end VK


namespace VK
open PySem PySem.Spec PyProof.Rows L2 VM
/-- a breach as a value: None, or a new tuple -/
def Tri (H H' : Hp) (v : V) : Option (Int × Int × Int) → Prop
  | none => v = .non
  | some (a, b, c) => ∃ t, v = .ref t ∧ H t = none ∧ H' t = some (.tup [.int a, .int b, .int c])
theorem firstN_step {p : Nat → Bool} {k i : Nat} : firstN p (k + 1) i = if p i = true then some i else firstN p k (i + 1) := rfl
def sp_breach (K : PySem.W.Frag) (A : Ad) : Sp := fun vs H Q _ => ∃ (l x : Addr) (us cs : List Int) (p g : Int), vs = [.ref l, .ref x] ∧ SqL K H l (us.map V.int) ∧ us.length ≤ 1000 ∧ Cnts us ∧
  CrvAt A H x cs p g ∧ 0 < p ∧ p ≤ cs.length ∧ cs.length ≤ 1000 ∧ ∀ H' v, Same H H' → Tri H H' v (breachM (cvAt cs p g) us) → Q v H'
def sp_keeps (K : PySem.W.Frag) (A : Ad) : Sp := fun vs H Q _ => ∃ (l x : Addr) (us cs : List Int) (p g : Int), vs = [.ref l, .ref x] ∧ SqL K H l (us.map V.int) ∧ us.length ≤ 1000 ∧ Cnts us ∧
  CrvAt A H x cs p g ∧ 0 < p ∧ p ≤ cs.length ∧ cs.length ≤ 1000 ∧ ∀ H', Same H H' → Q (.bl (breachM (cvAt cs p g) us).isNone) H'
def sp_most_in (K : PySem.W.Frag) (_ : Ad) : Sp := fun vs H Q _ => ∃ (l : Addr) (us : List Int) (t : Int), vs = [.ref l, .int t] ∧ SqL K H l (us.map V.int) ∧ us.length ≤ 1000 ∧ Cnts us ∧ 0 ≤ t ∧
  ∀ H' m, Same H H' → IsMax (row (fun s => win us s (min t us.length)) (us.length + 1 - (min t us.length).toNat)) m → Q (.int m) H'
section
variable {P : Program} {w : World} {K : PySem.W.Frag} {mg : Str → Option Value} {base : Heap} {A : Ad}
theorem ok_breach (T : Txt K mg A) : FnOk P w K mg base CX0 4 A.f_breach A.d_breach ["record", "curve"] (sp_breach K A) := by
  have G_C_at := ok_C_at (P := P) (w := w) (base := base) T
  have G_require_record := ok_require_record (P := P) (w := w) (base := base) T
  have G_sums_before := ok_sums_before (P := P) (w := w) (base := base) T
  have G_window_sums := ok_window_sums (P := P) (w := w) (base := base) T
  refine T.F_breach.ok sc_breach (fun vs H Q E h => ?_) (fun cdv A0 outer s H vs Q E hr h => ?_)
  · obtain ⟨l, x, us, cs, p, g, rfl, hS, hn, hc, hC, hp, hpn, hcn, k⟩ := h
    rfl
  · obtain ⟨l, x, us, cs, p, g, rfl, hS, hn, hc, hC, hp, hpn, hcn, k⟩ := h
    refine ⟨_, (pss_cons (ps_expr (pe_call G_require_record (hr.mono (by decide)) rfl T.m_require_record T.k_require_record T.b_require_record .nil pass0 (pa_cons (pv 0) pa_nil)))
    (pss_cons (ps_set (i := 2) sc_breach.nd rfl (by first | exact Or.inl rfl | exact Or.inr rfl) (pe_call G_sums_before (hr.mono (by decide)) rfl T.m_sums_before T.k_sums_before T.b_sums_before .nil pass0 (pa_cons (pv 0) pa_nil)))
    (pss_cons (ps_for PassesOwn.never rfl (pi_range2 rfl T.range (pa_cons pe_int (pa_cons (pe_op op_add (pe_callB (r := VG.rLen K) VG.call_len (by rfl) T.len (by decide +kernel) (pa_cons (pv 0) pa_nil)) pe_int) pa_nil))) (pg_name (i := 3) sc_breach.nd rfl (by first | exact Or.inl rfl | exact Or.inr rfl))
      (pss_cons (ps_set (i := 4) sc_breach.nd rfl (by first | exact Or.inl rfl | exact Or.inr rfl) (pe_meth (pv 1) T.cl T.me_at G_C_at (hr.mono (by decide)) T.b_C_at .nil pass0 (pa_cons (pv 3) pa_nil)))
    (pss_one (ps_for PassesOwn.never rfl (pi_enum (by rfl) T.enumerate (pa_cons (pe_call G_window_sums (hr.mono (by decide)) rfl T.m_window_sums T.k_window_sums T.b_window_sums .nil pass0 (pa_cons (pv 2) (pa_cons (pv 3) pa_nil))) pa_nil)) (pg_tup rfl (pgs_cons (pg_name (i := 5) sc_breach.nd rfl (by first | exact Or.inl rfl | exact Or.inr rfl)) (pgs_cons (pg_name (i := 6) sc_breach.nd rfl (by first | exact Or.inl rfl | exact Or.inr rfl)) pgs_nil)))
      (pss_one (ps_if (pt_cmpR op_gt (pv 6) (pv 4) (nomark _)) (pss_one (ps_ret (pe_tup (pa_cons (pv 3) (pa_cons (pv 5) (pa_cons (pe_op op_sub (pv 6) (pv 4)) pa_nil)))))) pss_nil))))))
    (pss_one (ps_ret pe_non))))), ?_⟩
    refine ⟨_, rfl, l, us, rfl, hS, hc, fun H1 s1 => ?_⟩
    refine ⟨_, rfl, l, us, rfl, s1.seq hS, hn, fun H2 ps s2 hps0 hps => ?_⟩
    have s02 := s1.trans s2
    refine ⟨_, rfl, l, _, rfl, .inl (s02.seq hS), _, _, rfl, rfl, _, _, rfl, ⟨by omega, by omega, by rw [List.length_map]; omega, by rw [List.length_map]; omega⟩, ?_⟩
    rw [List.length_map]
    refine for_range (lo := 1) (n := ((us.length : Int) + 1 - 1).toNat) (fun i σ H' => ∃ v3 v4 v5 v6, σ = [some (.ref l), some (.ref x), some (.ref ps), v3, v4, v5, v6] ∧ Same H2 H' ∧ breachM (cvAt cs p g) us = brk (cvAt cs p g) us (us.length - i) (1 + i))
      ⟨_, _, _, _, rfl, Same.refl H2, rfl⟩ ?_ ?_
    · rintro i σ H' hi ⟨v3, v4, v5, v6, rfl, s3, e⟩
      have s03 := s02.trans s3
      obtain ⟨dx, lv, w, hx, hlv⟩ := hC.same s03
      refine ⟨_, rfl, x, dx, _, rfl, hx, cfs_no _ _ _ (by decide +kernel) (by decide +kernel) (by decide +kernel), _, rfl, x, cs, p, g, _, rfl, ⟨dx, lv, w, hx, hlv⟩, hp, hpn, hcn, by omega, by omega, ?_⟩
      have hps3 := s3 _ _ hps
      refine ⟨_, rfl, _, rfl, ps, us, 1 + i, rfl, SqL.of hps3, hn, by omega, fun H4 ws s4 hw0 hw => ?_⟩
      have ek : us.length - i = (us.length - (i + 1)) + 1 := by omega
      rw [ek] at e
      unfold brk at e
      refine ⟨ws, _, rfl, SqL.of hw, for_it (walk_enum (K := K) (a := ws) (xs := (row (fun s => win us s ((1 + i : Nat) : Int)) (us.length + 1 - (1 + i))).map V.int))
        (fun j σ H' => ∃ v5 v6, σ = [some (.ref l), some (.ref x), some (.ref ps), some (.int (1 + (i : Int))), some (.int (cvAt cs p g (1 + (i : Int)))), v5, v6] ∧ Same H4 H' ∧
          firstN (fun s => decide (cvAt cs p g ((1 + i : Nat) : Int) < win us s ((1 + i : Nat) : Int))) (us.length + 1 - (1 + i)) 0 = firstN (fun s => decide (cvAt cs p g ((1 + i : Nat) : Int) < win us s ((1 + i : Nat) : Int))) (us.length + 1 - (1 + i) - j) j)
        ⟨_, _, rfl, Same.refl H4, rfl⟩ (fun j σ H' _ ⟨_, _, _, s5, _⟩ => s5.seq (SqL.of hw)) ?_ ?_⟩
      · rintro j y σ H5 H6 hj ⟨v5, v6, rfl, s5, e5⟩ ⟨t, a, b, rfl, ht, rfl, ea, eb⟩
        obtain ⟨hj', rfl⟩ := nth_map eb
        cases ea
        rw [row_length] at hj'
        rw [row_getD hj'] at *
        have s6 : Same H4 (upd H5 t (.tup [.int (j : Nat), .int (win us j ((1 + i : Nat) : Int))])) := Same.upd s5 (s5.free ht)
        rw [show us.length + 1 - (1 + i) - j = (us.length + 1 - (1 + i) - (j + 1)) + 1 by omega, firstN_step] at e5
        have ec : ((1 + i : Nat) : Int) = 1 + (i : Int) := by omega
        refine ⟨t, _, rfl, SqT.of upd_same, rfl, _, _, rfl, _, _, rfl, rfl, ?_⟩
        refine ⟨_, rfl, _, rfl, _, _, rfl, rfl, _, rfl, ifD (fun c => ?_) (fun c => ?_)⟩
        · refine ⟨_, rfl, _, rfl, _, rfl, _, rfl, _, _, rfl, rfl, (by show 3 ≤ sizeLine; decide), fun t2 ht2 => ?_⟩
          have s06 : Same H (upd H5 t (.tup [.int (j : Nat), .int (win us j ((1 + i : Nat) : Int))])) := s03.trans (s4.trans s6)
          rw [← ec] at c
          rw [if_pos (decide_eq_true c)] at e5
          rw [e5] at e
          refine k _ _ (Same.upd s06 (s06.free ht2)) ?_
          rw [e]
          refine ⟨t2, rfl, s06.free ht2, ?_⟩
          rw [upd_same]
          simp only [ec]
        · refine ⟨_, _, rfl, s6, ?_⟩
          rw [← ec] at c
          rw [if_neg (fun z => c (of_decide_eq_true z))] at e5
          exact e5
      · rintro σ H5 ⟨v5, v6, rfl, s5, e5⟩
        rw [List.length_map, row_length, Nat.sub_self] at e5
        refine ⟨_, _, _, _, rfl, s3.trans (s4.trans s5), ?_⟩
        rw [e5] at e
        rw [e]
        rfl
    · rintro σ H' ⟨v3, v4, v5, v6, rfl, s3, e⟩
      refine k H' _ (s02.trans s3) ?_
      rw [e, show us.length - ((us.length : Int) + 1 - 1).toNat = 0 by omega]
      rfl
theorem ok_keeps (T : Txt K mg A) : FnOk P w K mg base CX0 5 A.f_keeps A.d_keeps ["record", "curve"] (sp_keeps K A) := by
  have G_breach := ok_breach (P := P) (w := w) (base := base) T
  refine T.F_keeps.ok sc_keeps (fun vs H Q E h => ?_) (fun cdv A0 outer s H vs Q E hr h => ?_)
  · obtain ⟨l, x, us, cs, p, g, rfl, hS, hn, hc, hC, hp, hpn, hcn, k⟩ := h
    rfl
  · obtain ⟨l, x, us, cs, p, g, rfl, hS, hn, hc, hC, hp, hpn, hcn, k⟩ := h
    refine ⟨_, (pss_one (ps_ret (pe_cmp (pc_isN (pe_call G_breach (hr.mono (by decide)) rfl T.m_breach T.k_breach T.b_breach .nil pass0 (pa_cons (pv 0) (pa_cons (pv 1) pa_nil)))) rfl))), ?_⟩
    refine ⟨_, rfl, _, rfl, l, x, us, cs, p, g, rfl, hS, hn, hc, hC, hp, hpn, hcn, fun H' v s0 ht => ?_⟩
    have e : decide (v = V.non) = (breachM (cvAt cs p g) us).isNone := by
      cases h : breachM (cvAt cs p g) us with
      | none => rw [h] at ht; rw [ht]; rfl
      | some z =>
        obtain ⟨a, b, c⟩ := z
        rw [h] at ht
        obtain ⟨t, rfl, _⟩ := ht
        rfl
    show Q (.bl (decide (v = V.non))) H'
    rw [e]
    exact k H' s0
end
end VK


namespace VK
open PySem PySem.Spec PyProof.Rows L2 VM
/-- the state of draws at r -/
def Rng (H : Hp) (r : Addr) : Prop := ∃ a b : Int, H r = some (.lst [.int a, .int b]) ∧ 0 ≤ a ∧ 0 ≤ b ∧ b < 2147483563
/-- all but the state of draws stands -/
structure Ext (r : Addr) (H H' : Hp) : Prop where
  keep : ∀ b o, b ≠ r → H b = some o → H' b = some o
  rng : Rng H' r
theorem Ext.refl {r : Addr} {H : Hp} (h : Rng H r) : Ext r H H := ⟨fun _ _ _ e => e, h⟩
theorem Ext.trans {r : Addr} {H H1 H2 : Hp} (a : Ext r H H1) (b : Ext r H1 H2) : Ext r H H2 := ⟨fun c o n e => b.keep c o n (a.keep c o n e), b.rng⟩
theorem Rng.same {r : Addr} {H H' : Hp} (h : Rng H r) (s : Same H H') : Rng H' r := by
  obtain ⟨a, b, e, h1, h2, h3⟩ := h
  exact ⟨a, b, s _ _ e, h1, h2, h3⟩
theorem Ext.of {r : Addr} {H H' : Hp} (h : Rng H r) (s : Same H H') : Ext r H H' := ⟨fun b o _ e => s b o e, h.same s⟩
theorem Ext.same {r : Addr} {H H1 H2 : Hp} (a : Ext r H H1) (s : Same H1 H2) : Ext r H H2 := a.trans (.of a.rng s)
theorem Ext.free {r : Addr} {H H' : Hp} {l : Addr} (e : Ext r H H') (h : H' l = none) : H l = none := by
  have n : l ≠ r := fun z => by
    obtain ⟨a, b, q, _⟩ := e.rng
    rw [z, q] at h; cases h
  cases q : H l with
  | none => rfl
  | some o => rw [e.keep l o n q] at h; cases h
theorem Ext.seq {K : PySem.W.Frag} {r : Addr} {H H' : Hp} {a : Addr} {xs : List V} (e : Ext r H H') (n : a ≠ r) (h : SqL K H a xs) : SqL K H' a xs := by
  rcases h with (h | ⟨o, h⟩) | h
  · exact .inl (.inl (e.keep _ _ n h))
  · exact .inl (.inr ⟨o, e.keep _ _ n h⟩)
  · exact .inr h
theorem Rng.ne {r l : Addr} {H : Hp} (h : Rng H r) (hl : H l = none) : l ≠ r := fun z => by
  obtain ⟨a, b, q, _⟩ := h
  rw [z, q] at hl; cases hl
def sp_l_rng (K : PySem.W.Frag) (_ : Ad) : Sp := fun vs H Q _ => ∃ (a : Addr) (ns : List Int) (k : Int), vs = [.ref a, .int k] ∧ SqL K H a (ns.map V.int) ∧ 0 ≤ k ∧ k ≤ 100 ∧
  ∀ H' p, Same H H' → H p = none → Rng H' p → Q (.ref p) H'
def sp_l_draw (_ : PySem.W.Frag) (_ : Ad) : Sp := fun vs H Q _ => ∃ (r : Addr) (m : Int), vs = [.ref r, .int m] ∧ Rng H r ∧ 0 < m ∧ m < 1073741824 ∧
  ∀ H' d, Ext r H H' → 0 ≤ d → d < m → Q (.int d) H'
def sp_l_choice (K : PySem.W.Frag) (_ : Ad) : Sp := fun vs H Q _ => ∃ (r l : Addr) (ys : List V), vs = [.ref r, .ref l] ∧ Rng H r ∧ SqL K H l ys ∧ l ≠ r ∧ 0 < ys.length ∧ ys.length < 1000000 ∧
  ∀ H' v, Ext r H H' → v ∈ ys → Q v H'
def sp_l_at (K : PySem.W.Frag) (_ : Ad) : Sp := fun vs H Q _ => ∃ (t l : Addr) (xs : List Int) (p g s : Int), vs = [.ref t, .int s] ∧ SqT K H t [.ref l, .int p, .int g] ∧
  SqL K H l (xs.map V.int) ∧ 0 < p ∧ p ≤ xs.length ∧ xs.length ≤ 1000 ∧ 0 ≤ s ∧ s < 2 ^ 62 ∧ Q (.int (cvAt xs p g s)) H
section
variable {P : Program} {w : World} {K : PySem.W.Frag} {mg : Str → Option Value} {base : Heap} {A : Ad}
theorem ok_l_rng (T : Txt K mg A) : FnOk P w K mg base CX0 1 A.f_l_rng A.d_l_rng ["_law_script", "_law_k"] (sp_l_rng K A) := by
  refine T.F_l_rng.ok sc_l_rng (fun vs H Q E h => ?_) (fun cdv A0 outer s H vs Q E hr h => ?_)
  · obtain ⟨a, ns, k, rfl, hS, hk, hk2, q⟩ := h
    rfl
  · obtain ⟨a, ns, k, rfl, hS, hk, hk2, q⟩ := h
    refine ⟨_, (pss_cons (ps_set (i := 2) sc_l_rng.nd rfl (by first | exact Or.inl rfl | exact Or.inr rfl) (pe_op op_add (pe_op op_mul pe_int (pv 1)) pe_int))
    (pss_cons (ps_if (pt_cmpR op_lt (pv 1) (pe_callB (r := VG.rLen K) VG.call_len (by rfl) T.len (by decide +kernel) (pa_cons (pv 0) pa_nil)) (nomark _)) (pss_one (ps_set (i := 2) sc_l_rng.nd rfl (by first | exact Or.inl rfl | exact Or.inr rfl) (pe_ix (r := rIxL K) ix_list (pv 0) (pv 1) (fun _ _ => rfl)))) pss_nil)
    (pss_one (ps_ret (pe_lst (pa_cons (pe_callB (call_max2 rfl) (by rfl) T.max (by decide +kernel) (pa_cons pe_int (pa_cons (pe_op op_sub (pe_callB call_abs (by rfl) T.abs (by decide +kernel) (pa_cons (pv 2) pa_nil)) (pe_op op_pow pe_int pe_int)) pa_nil))) (pa_cons (pe_op op_add (pe_op op_mod (pe_op op_mul (pe_callTy call_int1 (by rfl) T.int (by decide +kernel) (pa_cons (pe_op op_add (pe_op op_mod (pe_callTy call_int1 (by rfl) T.int (by decide +kernel) (pa_cons (pe_callB call_abs (by rfl) T.abs (by decide +kernel) (pa_cons (pv 2) pa_nil)) pa_nil)) pe_int) pe_int) pa_nil)) (pe_op op_pow (pe_op op_add (pe_op op_mul pe_int (pv 1)) pe_int) pe_int)) pe_int) pe_int) pa_nil))))))), ?_⟩
    refine ⟨_, rfl, _, _, rfl, rfl, .inl ⟨by decide, by decide⟩, _, _, rfl, rfl, ?_⟩
    refine ⟨_, rfl, _, rfl, a, _, rfl, .inl hS, _, _, rfl, rfl, _, rfl, ?_⟩
    rw [List.length_map]
    have b1 : (2 * k + 5).natAbs < 2 ^ 64 := by omega
    refine ifD (fun c => ?_) (fun c => ?_)
    · refine ⟨_, rfl, _, rfl, a, _, _, _, rfl, rfl, hS, at_map hk c, ?_⟩
      generalize ns.getD k.toNat 0 = c0
      refine ⟨_, rfl, _, rfl, _, _, rfl, rfl, ⟨by decide, by decide, by decide⟩, _, _, rfl, rfl, _, _, rfl, ?_⟩
      have z1 := Int.emod_nonneg (if c0 < 0 then -c0 else c0) (show (2147483549 : Int) ≠ 0 by decide)
      have z2 := Int.emod_lt_of_pos (if c0 < 0 then -c0 else c0) (show (0 : Int) < 2147483549 by decide)
      refine ⟨_, rfl, _, rfl, .inl ⟨_, rfl, _, _, rfl, rfl, (by show (0 : Int) < 2147483549; decide), _, _, rfl, rfl, .inl ⟨_, rfl, _, rfl, _, _, rfl, rfl, .inl ⟨by decide, by decide⟩, _, _, rfl, rfl, _, _, rfl, rfl, ⟨by decide, by decide, b1⟩, _, _, rfl, rfl, .inl ⟨by omega, by omega⟩, _, _, rfl, rfl, (by show (0 : Int) < 2147483543; decide), _, _, rfl, rfl, (by show 2 ≤ sizeLine; decide), fun p hp => ?_⟩⟩⟩
      have z3 := Int.emod_nonneg (((if c0 < 0 then -c0 else c0) % 2147483549 + 1) * (2 * k + 5) ^ Int.toNat 3) (show (2147483543 : Int) ≠ 0 by decide)
      have z4 := Int.emod_lt_of_pos (((if c0 < 0 then -c0 else c0) % 2147483549 + 1) * (2 * k + 5) ^ Int.toNat 3) (show (0 : Int) < 2147483543 by decide)
      refine q _ p (Same.upd (Same.refl H) hp) hp ⟨_, _, upd_same, ?_, by omega, by omega⟩
      by_cases cc : (if c0 < 0 then -c0 else c0) - 10 ^ Int.toNat 18 > 0
      · rw [if_pos cc]; omega
      · rw [if_neg cc]; omega
    · refine ⟨_, rfl, _, rfl, _, _, rfl, rfl, ⟨by decide, by decide, by decide⟩, _, _, rfl, rfl, _, _, rfl, ?_⟩
      have z1 := Int.emod_nonneg (if (7 * k + 3) < 0 then -(7 * k + 3) else (7 * k + 3)) (show (2147483549 : Int) ≠ 0 by decide)
      have z2 := Int.emod_lt_of_pos (if (7 * k + 3) < 0 then -(7 * k + 3) else (7 * k + 3)) (show (0 : Int) < 2147483549 by decide)
      refine ⟨_, rfl, _, rfl, .inl ⟨_, rfl, _, _, rfl, rfl, (by show (0 : Int) < 2147483549; decide), _, _, rfl, rfl, .inl ⟨_, rfl, _, rfl, _, _, rfl, rfl, .inl ⟨by decide, by decide⟩, _, _, rfl, rfl, _, _, rfl, rfl, ⟨by decide, by decide, b1⟩, _, _, rfl, rfl, .inl ⟨by omega, by omega⟩, _, _, rfl, rfl, (by show (0 : Int) < 2147483543; decide), _, _, rfl, rfl, (by show 2 ≤ sizeLine; decide), fun p hp => ?_⟩⟩⟩
      have z3 := Int.emod_nonneg (((if (7 * k + 3) < 0 then -(7 * k + 3) else (7 * k + 3)) % 2147483549 + 1) * (2 * k + 5) ^ Int.toNat 3) (show (2147483543 : Int) ≠ 0 by decide)
      have z4 := Int.emod_lt_of_pos (((if (7 * k + 3) < 0 then -(7 * k + 3) else (7 * k + 3)) % 2147483549 + 1) * (2 * k + 5) ^ Int.toNat 3) (show (0 : Int) < 2147483543 by decide)
      refine q _ p (Same.upd (Same.refl H) hp) hp ⟨_, _, upd_same, ?_, by omega, by omega⟩
      by_cases cc : (if (7 * k + 3) < 0 then -(7 * k + 3) else (7 * k + 3)) - 10 ^ Int.toNat 18 > 0
      · rw [if_pos cc]; omega
      · rw [if_neg cc]; omega
theorem ok_l_draw (T : Txt K mg A) : FnOk P w K mg base CX0 1 A.f_l_draw A.d_l_draw ["_law_rng_here", "_law_many"] (sp_l_draw K A) := by
  refine T.F_l_draw.ok sc_l_draw (fun vs H Q E h => ?_) (fun cdv A0 outer s H vs Q E hr h => ?_)
  · obtain ⟨r, m, rfl, ⟨a, b, hr0, ha, hb, hb2⟩, hm, hm2, q⟩ := h
    rfl
  · obtain ⟨r, m, rfl, ⟨a, b, hr0, ha, hb, hb2⟩, hm, hm2, q⟩ := h
    refine ⟨_, (pss_cons (ps_if (pt_cmpR op_gt (pe_ix (r := rIxL K) ix_list (pv 0) pe_int (fun _ _ => rfl)) pe_int (nomark _)) (pss_cons (ps_asg (pe_callB call_divmod (by rfl) T.divmod (by decide +kernel) (pa_cons (pe_ix (r := rIxL K) ix_list (pv 0) pe_int (fun _ _ => rfl)) (pa_cons (pv 1) pa_nil))) (pg_tup rfl (pgs_cons (pg_sub (pv 0) pe_int set_list) (pgs_cons (pg_name (i := 2) sc_l_draw.nd rfl (by first | exact Or.inl rfl | exact Or.inr rfl)) pgs_nil))))
    (pss_one (ps_ret (pv 2)))) pss_nil)
    (pss_cons (ps_asg (pe_op op_mod (pe_callTy call_int1 (by rfl) T.int (by decide +kernel) (pa_cons (pe_op op_add (pe_op op_mul (pe_ix (r := rIxL K) ix_list (pv 0) pe_int (fun _ _ => rfl)) pe_int) pe_int) pa_nil)) pe_int) (pg_sub (pv 0) pe_int set_list))
    (pss_one (ps_ret (pe_op op_mod (pe_op op_fdiv (pe_op op_mod (pe_callTy call_int1 (by rfl) T.int (by decide +kernel) (pa_cons (pe_op op_mul (pe_ix (r := rIxL K) ix_list (pv 0) pe_int (fun _ _ => rfl)) (pe_ix (r := rIxL K) ix_list (pv 0) pe_int (fun _ _ => rfl))) pa_nil)) pe_int) pe_int) (pv 1)))))), ?_⟩
    refine ⟨_, rfl, r, _, _, _, rfl, rfl, SqL.of hr0, rfl, _, _, rfl, rfl, _, rfl, ifD (fun c => ?_) (fun c => ?_)⟩
    · refine ⟨_, rfl, r, _, _, _, rfl, rfl, SqL.of hr0, rfl, _, rfl, _, _, rfl, ⟨hm, hm2⟩, fun t ht => ?_⟩
      have nrt : r ≠ t := ne_of_none hr0 ht
      refine ⟨t, _, rfl, SqT.of upd_same, rfl, _, _, rfl, _, rfl, r, _, _, 0, rfl, rfl, (by rw [upd_ne nrt]; exact hr0), rfl, _, _, rfl, rfl, ?_⟩
      refine ⟨_, rfl, q _ _ ⟨fun z o hz e => ?_, a / m, b, upd_same, Int.ediv_nonneg ha (by omega), hb, hb2⟩ (Int.emod_nonneg _ (by omega)) (Int.emod_lt_of_pos _ hm)⟩
      rw [upd_ne hz, upd_ne (ne_of_none e ht)]; exact e
    · refine ⟨_, rfl, r, _, _, _, rfl, rfl, SqL.of hr0, rfl, _, _, rfl, rfl, .inl ⟨by omega, by omega⟩, _, _, rfl, rfl, .inl ⟨_, rfl, _, _, rfl, rfl, (by show (0 : Int) < 2147483563; decide), ?_⟩⟩
      have e0 := Int.emod_nonneg (b * 48311 + 20011) (show (2147483563 : Int) ≠ 0 by decide)
      have e1 := Int.emod_lt_of_pos (b * 48311 + 20011) (show (0 : Int) < 2147483563 by decide)
      refine ⟨_, rfl, r, _, _, 1, rfl, rfl, hr0, rfl, ?_⟩
      have hr1 : upd H r (.lst [.int a, .int ((b * 48311 + 20011) % 2147483563)]) r = some (.lst [.int a, .int ((b * 48311 + 20011) % 2147483563)]) := upd_same
      refine ⟨_, rfl, r, [.int a, .int ((b * 48311 + 20011) % 2147483563)], _, _, rfl, rfl, SqL.of hr1, rfl, _, rfl, r, [.int a, .int ((b * 48311 + 20011) % 2147483563)], _, _, rfl, rfl, SqL.of hr1, rfl, _, _, rfl, rfl, .inl ⟨by omega, by omega⟩, .inl ⟨_, rfl, _, _, rfl, rfl, (by show (0 : Int) < 2147483497; decide), _, _, rfl, rfl, ⟨by decide, by decide⟩, _, rfl, _, _, rfl, rfl, hm, ?_⟩⟩
      exact q _ _ ⟨fun z o hz e => by rw [upd_ne hz]; exact e, a, _, hr1, ha, e0, e1⟩ (Int.emod_nonneg _ (by omega)) (Int.emod_lt_of_pos _ hm)
theorem ok_l_choice (T : Txt K mg A) : FnOk P w K mg base CX0 2 A.f_l_choice A.d_l_choice ["_law_rng_here", "_law_some"] (sp_l_choice K A) := by
  have G_l_draw := ok_l_draw (P := P) (w := w) (base := base) T
  refine T.F_l_choice.ok sc_l_choice (fun vs H Q E h => ?_) (fun cdv A0 outer s H vs Q E hr h => ?_)
  · obtain ⟨r, l, ys, rfl, hr0, hS, hl, hy, hy2, q⟩ := h
    rfl
  · obtain ⟨r, l, ys, rfl, hr0, hS, hl, hy, hy2, q⟩ := h
    refine ⟨_, (pss_one (ps_ret (pe_ix (r := rIxL K) ix_list (pv 1) (pe_call G_l_draw (hr.mono (by decide)) rfl T.m_l_draw T.k_l_draw T.b_l_draw .nil pass0 (pa_cons (pv 0) (pa_cons (pe_callB (r := VG.rLen K) VG.call_len (by rfl) T.len (by decide +kernel) (pa_cons (pv 1) pa_nil)) pa_nil))) (fun _ _ => rfl)))), ?_⟩
    refine ⟨_, rfl, _, rfl, _, rfl, l, _, rfl, .inl hS, r, _, rfl, hr0, by omega, by omega, fun H1 d e1 h0 h1 => ?_⟩
    have hd : d.toNat < ys.length := by omega
    refine ⟨l, ys, d, ys[d.toNat], rfl, rfl, e1.seq hl hS, ?_, q H1 _ e1 (List.getElem_mem hd)⟩
    exact at_of (j := d.toNat) (by omega) (List.getElem?_eq_getElem hd)
theorem ok_l_at (T : Txt K mg A) : FnOk P w K mg base CX0 1 A.f_l_at A.d_l_at ["_law_row_here", "_law_size"] (sp_l_at K A) := by
  refine T.F_l_at.ok sc_l_at (fun vs H Q E h => ?_) (fun cdv A0 outer s H vs Q E hr h => ?_)
  · obtain ⟨t, l, xs, p, g, s, rfl, hT, hS, hp, hpn, hn, hs, hsb, q⟩ := h
    rfl
  · obtain ⟨t, l, xs, p, g, s, rfl, hT, hS, hp, hpn, hn, hs, hsb, q⟩ := h
    refine ⟨_, (pss_cons (ps_asg (pv 0) (pg_tup rfl (pgs_cons (pg_name (i := 2) sc_l_at.nd rfl (by first | exact Or.inl rfl | exact Or.inr rfl)) (pgs_cons (pg_name (i := 3) sc_l_at.nd rfl (by first | exact Or.inl rfl | exact Or.inr rfl)) (pgs_cons (pg_name (i := 4) sc_l_at.nd rfl (by first | exact Or.inl rfl | exact Or.inr rfl)) pgs_nil)))))
    (pss_cons (ps_if (pt_cmpR op_eq (pv 1) pe_int (nomark _)) (pss_one (ps_ret pe_int)) pss_nil)
    (pss_cons (ps_if (pt_cmpR op_le (pv 1) (pe_callB (r := VG.rLen K) VG.call_len (by rfl) T.len (by decide +kernel) (pa_cons (pv 2) pa_nil)) (nomark _)) (pss_one (ps_ret (pe_ix (r := rIxL K) ix_list (pv 2) (pe_op op_sub (pv 1) pe_int) (fun _ _ => rfl)))) pss_nil)
    (pss_cons (ps_set (i := 5) sc_l_at.nd rfl (by first | exact Or.inl rfl | exact Or.inr rfl) (pe_op op_fdiv (pe_op op_sub (pe_op op_add (pe_op op_sub (pv 1) (pe_callB (r := VG.rLen K) VG.call_len (by rfl) T.len (by decide +kernel) (pa_cons (pv 2) pa_nil))) (pv 3)) pe_int) (pv 3)))
    (pss_one (ps_ret (pe_op op_add (pe_ix (r := rIxL K) ix_list (pv 2) (pe_op op_sub (pe_op op_sub (pv 1) (pe_op op_mul (pv 5) (pv 3))) pe_int) (fun _ _ => rfl)) (pe_op op_mul (pv 5) (pv 4))))))))), ?_⟩
    refine ⟨_, rfl, t, _, rfl, hT, rfl, _, _, rfl, _, _, rfl, _, _, rfl, rfl, ?_⟩
    refine ⟨_, rfl, rfl, _, rfl, ifEq (fun c => ?_) (fun c => ?_)⟩
    · subst c
      rw [cvAt_zero] at q
      exact q
    refine ⟨_, rfl, _, rfl, l, _, rfl, .inl hS, _, _, rfl, rfl, _, rfl, ifD (fun c1 => ?_) (fun c1 => ?_)⟩
    · rw [List.length_map] at c1
      rw [cvAt_in (by omega) c1] at q
      exact ⟨_, rfl, _, rfl, _, _, rfl, rfl, l, _, _, _, rfl, rfl, hS, at_map (by omega) (by omega), q⟩
    · rw [List.length_map] at c1
      obtain ⟨r1, r2, r3⟩ := rounds_spec (n := (xs.length : Int)) (t := s) hp (by omega)
      have rb : (s - (xs.length : Int) + p - 1) / p ≤ s := by
        have := Int.ediv_le_self p (show 0 ≤ s - (xs.length : Int) + p - 1 by omega)
        omega
      refine ⟨_, rfl, _, rfl, l, _, rfl, .inl hS, _, _, rfl, rfl, _, rfl, _, _, rfl, rfl, _, _, rfl, rfl, _, rfl, _, _, rfl, rfl, ⟨hp, by omega⟩, ?_⟩
      rw [List.length_map]
      refine ⟨_, rfl, _, rfl, _, rfl, _, rfl, _, _, rfl, rfl, .inl ⟨by omega, by omega⟩, _, _, rfl, rfl, _, _, rfl, rfl, l, _, _, _, rfl, rfl, hS, at_map (by omega) (by omega),
        _, rfl, _, rfl, _, _, rfl, rfl, .inl ⟨by omega, by omega⟩, _, _, rfl, rfl, ?_⟩
      unfold cvAt at q
      rw [if_neg c, if_neg c1] at q
      exact q
end
end VK


namespace VK
open PySem PySem.Spec PyProof.Rows L2 VM
def GoodC (f : Int → Int) (n : Nat) : Prop := ∀ a b : Int, 1 ≤ b → b ≤ a → a ≤ n → f (a + b) ≤ f a + f b
/-- a curve whose break was looked for -/
def Srch (A : Ad) (H : Hp) (x : Addr) : Prop := ∃ dx l p g, H x = some (.ins A.Curve dx (cfs l p g true))
theorem Srch.same {A : Ad} {H H' : Hp} {x : Addr} (h : Srch A H x) (s : Same H H') : Srch A H' x := by
  obtain ⟨dx, l, p, g, h⟩ := h
  exact ⟨dx, l, p, g, s _ _ h⟩
theorem cfs_inj {l l' : Addr} {p p' g g' : Int} {w w' : Bool} (e : cfs l p g w = cfs l' p' g' w') : l = l' ∧ p = p' ∧ g = g' ∧ w = w' := by
  have v1 := cfs_v l p g w
  have v2 := cfs_p l p g w
  have v3 := cfs_g l p g w
  have v4 := cfs_w l p g w
  rw [e, cfs_v] at v1
  rw [e, cfs_p] at v2
  rw [e, cfs_g] at v3
  rw [e, cfs_w] at v4
  cases v1
  cases v2
  cases v3
  cases v4
  exact ⟨rfl, rfl, rfl, rfl⟩
theorem obj_inj {A : Ad} {H : Hp} {x dx dx' l l' : Addr} {p p' g g' : Int} {w w' : Bool} (h : H x = some (.ins A.Curve dx (cfs l p g w))) (h' : H x = some (.ins A.Curve dx' (cfs l' p' g' w'))) : dx = dx' ∧ l = l' ∧ p = p' ∧ g = g' ∧ w = w' := by
  rw [h] at h'
  injection h' with h'
  injection h' with _ e1 e2
  exact ⟨e1, cfs_inj e2⟩
theorem Srch.no {A : Ad} {H : Hp} {x dx l : Addr} {p g : Int} (h : Srch A H x) (e : H x = some (.ins A.Curve dx (cfs l p g false))) : False := by
  obtain ⟨dx', l', p', g', h⟩ := h
  have z := (obj_inj e h).2.2.2.2
  cases z
/-- the curve at x may now be one whose break was looked for; all else stands -/
structure Kp (A : Ad) (x : Addr) (H H' : Hp) : Prop where
  keep : ∀ b o, (b = x → Srch A H x) → H b = some o → H' b = some o
  srch : Srch A H' x
  crv : ∀ cs p g, CrvAt A H x cs p g → CrvAt A H' x cs p g
  obj : ∀ dx l p g w, H x = some (.ins A.Curve dx (cfs l p g w)) → H' x = some (.ins A.Curve dx (cfs l p g true))
section
variable {A : Ad} {x : Addr} {H H1 H2 : Hp}
theorem Kp.same (k : Kp A x H H1) (h : Srch A H x) : Same H H1 := fun b o e => k.keep b o (fun _ => h) e
theorem Kp.ne (k : Kp A x H H1) {b : Addr} {o : HO} (n : b ≠ x) (e : H b = some o) : H1 b = some o := k.keep b o (fun z => absurd z n) e
theorem Kp.after (s : Same H H1) (k : Kp A x H1 H2) : Kp A x H H2 := ⟨fun b o n e => k.keep b o (fun z => (n z).same s) (s _ _ e), k.srch, fun cs p g c => k.crv cs p g (c.same s), fun dx l p g w e => k.obj dx l p g w (s _ _ e)⟩
theorem Kp.then (k : Kp A x H H1) (s : Same H1 H2) : Kp A x H H2 := ⟨fun b o n e => s _ _ (k.keep b o n e), k.srch.same s, fun cs p g c => (k.crv cs p g c).same s, fun dx l p g w e => s _ _ (k.obj dx l p g w e)⟩
/-- as if the curve had been searched from the begin -/
theorem Kp.virt {dx l : Addr} {p g : Int} (c1 : H x = some (.ins A.Curve dx (cfs l p g false))) (s4 : Same H H1) (k : Kp A x H1 H2) :
    Same (upd H x (.ins A.Curve dx (cfs l p g true))) (upd H1 x (.ins A.Curve dx (cfs l p g true))) ∧ Same (upd H1 x (.ins A.Curve dx (cfs l p g true))) H2 := by
  refine ⟨fun b o e => ?_, fun b o e => ?_⟩
  · by_cases n : b = x
    · subst n; rw [upd_same] at e ⊢; exact e
    · rw [upd_ne n] at e ⊢; exact s4 _ _ e
  · by_cases n : b = x
    · subst n; rw [upd_same] at e; cases e; exact k.obj _ _ _ _ _ (s4 _ _ c1)
    · rw [upd_ne n] at e; exact k.ne n e
theorem Kp.free (k : Kp A x H H1) {q : Addr} (h : H1 q = none) : H q = none := by
  have n : q ≠ x := fun z => by
    obtain ⟨dx, l, p, g, e⟩ := k.srch
    rw [← z, h] at e; cases e
  cases e : H q with
  | none => rfl
  | some o => rw [k.ne n e] at h; cases h
theorem Kp.seq {K : PySem.W.Frag} (k : Kp A x H H1) {cs : List Int} {p g : Int} (c : CrvAt A H x cs p g) {a : Addr} {xs : List V} (h : SqL K H a xs) : SqL K H1 a xs := by
  obtain ⟨dx, l, w, e, _⟩ := c
  rcases h with (h | ⟨o, h⟩) | h
  · exact .inl (.inl (k.ne (ne_of h e (fun z => by cases z)) h))
  · exact .inl (.inr ⟨o, k.ne (ne_of h e (fun z => by cases z)) h⟩)
  · exact .inr h
end
def sp_C_first_values (K : PySem.W.Frag) (A : Ad) : Sp := fun vs H Q _ => ∃ (x : Addr) (cs : List Int) (p g : Int), vs = [.ref x] ∧ CrvAt A H x cs p g ∧ ∀ H' q, Same H H' → H' q = some (.lst (cs.map V.int)) → Q (.ref q) H'
def sp_first_break (K : PySem.W.Frag) (A : Ad) : Sp := fun vs H Q _ => ∃ (x : Addr) (cs : List Int) (p g : Int), vs = [.ref x] ∧ CrvAt A H x cs p g ∧ 0 < p ∧ p ≤ cs.length ∧ cs.length ≤ 1000 ∧ GoodC (cvAt cs p g) cs.length ∧
  ∀ H', Same H H' → Q .non H'
def sp_C_find_break (K : PySem.W.Frag) (A : Ad) : Sp := fun vs H Q _ => ∃ (x : Addr) (cs : List Int) (p g : Int), vs = [.ref x] ∧ CrvAt A H x cs p g ∧ 0 < p ∧ p ≤ cs.length ∧ cs.length ≤ 1000 ∧ GoodC (cvAt cs p g) cs.length ∧
  ∀ H', Kp A x H H' → Q .non H'
def sp_require_good (K : PySem.W.Frag) (A : Ad) : Sp := fun vs H Q _ => ∃ (x : Addr) (cs : List Int) (p g : Int), vs = [.ref x] ∧ CrvAt A H x cs p g ∧ 0 < p ∧ p ≤ cs.length ∧ cs.length ≤ 1000 ∧ GoodC (cvAt cs p g) cs.length ∧
  ∀ H', Kp A x H H' → Q .non H'
def sp_free_after (K : PySem.W.Frag) (_ : Ad) : Sp := fun vs H Q _ => ∃ (l m : Addr) (e : List Int) (f : Int → Int) (n : Nat), vs = [.ref l, .ref m] ∧ SqL K H l (e.map V.int) ∧ SqL K H m ((row (fun s => f (1 + s)) n).map V.int) ∧ e.length < n ∧ n ≤ 1000 ∧
  ∀ H', Same H H' → Q (.int (freeM f e)) H'
def sp_shaped (K : PySem.W.Frag) (A : Ad) : Sp := fun vs H Q _ => ∃ (l x : Addr) (us cs : List Int) (p g : Int), vs = [.ref l, .ref x] ∧ SqL K H l (us.map V.int) ∧ us.length ≤ 900 ∧ Cnts us ∧
  CrvAt A H x cs p g ∧ 0 < p ∧ p ≤ cs.length ∧ cs.length ≤ 1000 ∧ GoodC (cvAt cs p g) cs.length ∧
  ∀ H' q, Kp A x H H' → H q = none → H' q = some (.lst ((shapedM (cvAt cs p g) us).map V.int)) → Q (.ref q) H'
section
variable {P : Program} {w : World} {K : PySem.W.Frag} {mg : Str → Option Value} {base : Heap} {A : Ad}
theorem ok_C_first_values (T : Txt K mg A) : FnOk P w K mg base CX0 1 A.f_C_first_values A.d_C_first_values ["self"] (sp_C_first_values K A) := by
  refine T.F_C_first_values.ok sc_C_first_values (fun vs H Q E h => ?_) (fun cdv A0 outer s H vs Q E hr h => ?_)
  · obtain ⟨x, cs, p, g, rfl, ⟨dx, l, w, hx, hl⟩, k⟩ := h
    rfl
  · obtain ⟨x, cs, p, g, rfl, ⟨dx, l, w, hx, hl⟩, k⟩ := h
    refine ⟨_, (pss_one (ps_ret (pe_callTy (r := VG.rListOf K) VG.call_listOf (by rfl) T.list (by decide +kernel) (pa_cons (pe_fld (pv 0) rfl) pa_nil)))), ?_⟩
    exact ⟨_, rfl, x, _, dx, _, _, rfl, hx, T.cl, T.n_values, cfs_v _ _ _ _, l, _, rfl, .inl (SqL.of hl), fun q hq => k _ q (Same.upd (Same.refl _) hq) upd_same⟩
theorem ok_first_break (T : Txt K mg A) : FnOk P w K mg base CX0 4 A.f_first_break A.d_first_break ["curve"] (sp_first_break K A) := by
  have G_C_at := ok_C_at (P := P) (w := w) (base := base) T
  have G_C_first_values := ok_C_first_values (P := P) (w := w) (base := base) T
  refine T.F_first_break.ok sc_first_break (fun vs H Q E h => ?_) (fun cdv A0 outer s H vs Q E hr h => ?_)
  · obtain ⟨x, cs, p, g, rfl, hC, hp, hpn, hn, hg, k⟩ := h
    rfl
  · obtain ⟨x, cs, p, g, rfl, hC, hp, hpn, hn, hg, k⟩ := h
    refine ⟨_, (pss_cons (ps_set (i := 1) sc_first_break.nd rfl (by first | exact Or.inl rfl | exact Or.inr rfl) (pe_callB (r := VG.rLen K) VG.call_len (by rfl) T.len (by decide +kernel) (pa_cons (pe_meth0 (pv 0) T.cl T.me_first_values G_C_first_values (hr.mono (by decide)) T.b_C_first_values .nil pass0) pa_nil)))
    (pss_cons (ps_setLc (i := 2) (own := [("length", 5)]) (g := gName 5) (tt := tYes) rfl sc_first_break.nd rfl rfl (sw_true rfl rfl rfl (by decide +kernel)) (pi_range1 rfl T.range (pa_cons (pe_op op_add (pe_op op_mul pe_int (pv 1)) pe_int) pa_nil)) (blkOk_by (own := [("length", 5)]) (N := ["curve", "many", "row", "total", "first", "length"]) (sc := defScope s_first_break) (by decide +kernel)) (fun _ _ _ _ _ => pg_name (i := 5) sc_first_break.nd rfl (Or.inl rfl)) (fun _ _ _ _ _ => pts_nil) (fun _ _ _ _ _ => (pe_meth (pv 0) T.cl T.me_at G_C_at (hr.mono (by decide)) T.b_C_at .nil pass0 (pa_cons (pv 5) pa_nil))))
    (pss_cons (ps_for PassesOwn.never rfl (pi_range2 rfl T.range (pa_cons pe_int (pa_cons (pe_op op_add (pe_op op_mul pe_int (pv 1)) pe_int) pa_nil))) (pg_name (i := 3) sc_first_break.nd rfl (by first | exact Or.inl rfl | exact Or.inr rfl))
      (pss_one (ps_for PassesOwn.never rfl (pi_range2 rfl T.range (pa_cons (pe_callB (call_max2 rfl) (by rfl) T.max (by decide +kernel) (pa_cons pe_int (pa_cons (pe_op op_sub (pv 3) (pv 1)) pa_nil))) (pa_cons (pe_op op_add (pe_op op_fdiv (pv 3) pe_int) pe_int) pa_nil))) (pg_name (i := 4) sc_first_break.nd rfl (by first | exact Or.inl rfl | exact Or.inr rfl))
      (pss_one (ps_if (pt_cmpR op_gt (pe_ix (r := rIxL K) ix_list (pv 2) (pv 3) (fun _ _ => rfl)) (pe_op op_add (pe_ix (r := rIxL K) ix_list (pv 2) (pv 4) (fun _ _ => rfl)) (pe_ix (r := rIxL K) ix_list (pv 2) (pe_op op_sub (pv 3) (pv 4)) (fun _ _ => rfl))) (nomark _)) (pss_one (ps_ret (pe_tup (pa_cons (pv 4) (pa_cons (pe_op op_sub (pv 3) (pv 4)) pa_nil))))) pss_nil)))))
    (pss_one (ps_ret pe_non))))), ?_⟩
    obtain ⟨dx, l, w, hx, hl⟩ := id hC
    refine ⟨_, rfl, x, dx, _, rfl, hx, cfs_no _ _ _ (by decide +kernel) (by decide +kernel) (by decide +kernel), x, cs, p, g, rfl, hC, fun H0 q0 s0 hq0 => ⟨q0, _, rfl, .inl (SqL.of hq0), ?_⟩⟩
    rw [List.length_map]
    refine ⟨_, rfl, _, _, rfl, rfl, .inl ⟨by decide, by decide⟩, _, _, rfl, rfl, _, rfl, by omega, by omega, fun D hD => lc_range (lo := 0) (n := (2 * (cs.length : Int) + 1).toNat)
      (fun j H2 => H2 D = some (.lst ((row (cvAt cs p g) j).map V.int)) ∧ Same H H2) ⟨upd_same, Same.upd s0 (s0.free hD)⟩ ?_ ?_⟩
    · rintro j H2 hj ⟨hD2, s2⟩
      refine ⟨rfl, _, rfl, x, dx, _, rfl, s2 _ _ hx, cfs_no _ _ _ (by decide +kernel) (by decide +kernel) (by decide +kernel), _, rfl, x, cs, p, g, _, rfl, hC.same s2, hp, hpn, hn, by omega, by omega, _, hD2, small (by rw [List.length_map, row_length]; omega), ?_, Same.upd s2 (s0.free hD)⟩
      rw [upd_same, rowI_succ, Int.zero_add]
    · rintro H2 ⟨hD2, s2⟩
      refine ⟨_, rfl, _, _, rfl, rfl, .inl ⟨by decide, by decide⟩, _, _, rfl, rfl, _, _, rfl, ⟨by omega, by omega, by omega, by omega⟩, ?_⟩
      refine for_range (lo := 2) (n := (2 * (cs.length : Int) + 1 - 2).toNat) (fun i σ H' => ∃ v3 v4, σ = [some (.ref x), some (.int (cs.length : Nat)), some (.ref D), v3, v4, none] ∧ H2 = H')
        ⟨_, _, rfl, rfl⟩ ?_ ?_
      · rintro i σ H' hi ⟨v3, v4, rfl, rfl⟩
        refine ⟨_, rfl, _, rfl, _, _, rfl, rfl, _, _, rfl, ?_⟩
        have hlo : 1 ≤ (if (2 + (i : Int)) - (cs.length : Int) > 1 then (2 + (i : Int)) - (cs.length : Int) else 1) ∧ (2 + (i : Int)) - (cs.length : Int) ≤ (if (2 + (i : Int)) - (cs.length : Int) > 1 then (2 + (i : Int)) - (cs.length : Int) else 1) ∧ (if (2 + (i : Int)) - (cs.length : Int) > 1 then (2 + (i : Int)) - (cs.length : Int) else 1) ≤ 5000 := by
          split <;> omega
        generalize (if (2 + (i : Int)) - (cs.length : Int) > 1 then (2 + (i : Int)) - (cs.length : Int) else 1) = lo at *
        refine ⟨_, rfl, _, _, rfl, rfl, ⟨by decide, by decide⟩, _, _, rfl, rfl, _, _, rfl, ⟨by omega, by omega, by omega, by omega⟩, ?_⟩
        refine for_range (lo := lo) (n := ((2 + (i : Int)) / 2 + 1 - lo).toNat) (fun j σ H' => ∃ v4, σ = [some (.ref x), some (.int (cs.length : Nat)), some (.ref D), some (.int (2 + (i : Int))), v4, none] ∧ H2 = H')
          ⟨_, rfl, rfl⟩ ?_ ?_
        · rintro j σ H' hj ⟨v4, rfl, rfl⟩
          refine ⟨_, rfl, _, rfl, D, _, _, _, rfl, rfl, SqL.of hD2, at_row (by omega) (by omega), _, rfl, _, rfl, D, _, _, _, rfl, rfl, SqL.of hD2, at_row (by omega) (by omega), _, rfl, _, rfl, _, rfl, _, _, rfl, rfl, D, _, _, _, rfl, rfl, SqL.of hD2, at_row (by omega) (by omega), _, _, rfl, rfl, _, _, rfl, rfl, _, rfl, ifD (fun c => ?_) (fun c => ?_)⟩
          · exfalso
            have := hg (2 + (i : Int) - (lo + j)) (lo + j) (by omega) (by omega) (by omega)
            rw [show 2 + (i : Int) - (lo + j) + (lo + j) = 2 + (i : Int) by omega] at this
            omega
          · exact ⟨_, rfl, rfl⟩
        · rintro σ H' ⟨v4, rfl, rfl⟩
          exact ⟨_, _, rfl, rfl⟩
      · rintro σ H' ⟨v3, v4, rfl, rfl⟩
        exact k _ s2
theorem ok_C_find_break (T : Txt K mg A) : FnOk P w K mg base CX0 5 A.f_C_find_break A.d_C_find_break ["self"] (sp_C_find_break K A) := by
  have G_first_break := ok_first_break (P := P) (w := w) (base := base) T
  refine T.F_C_find_break.ok sc_C_find_break (fun vs H Q E h => ?_) (fun cdv A0 outer s H vs Q E hr h => ?_)
  · obtain ⟨x, cs, p, g, rfl, hC, hp, hpn, hn, hg, k⟩ := h
    rfl
  · obtain ⟨x, cs, p, g, rfl, hC, hp, hpn, hn, hg, k⟩ := h
    refine ⟨_, (pss_cons (ps_if (pt_not (pt_val (pe_fld (pv 0) rfl))) (pss_cons (ps_fld (pv 0) (pe_call G_first_break (hr.mono (by decide)) rfl T.m_first_break T.k_first_break T.b_first_break .nil pass0 (pa_cons (pv 0) pa_nil)) rfl)
    (pss_one (ps_fld (pv 0) pe_bl rfl))) pss_nil)
    (pss_one (ps_ret (pe_fld (pv 0) rfl)))), ?_⟩
    obtain ⟨dx, l, w, hx, hl⟩ := id hC
    refine ⟨_, rfl, x, _, dx, _, _, rfl, hx, T.cl, T.n_was_searched, cfs_w _ _ _ _, _, rfl, ?_⟩
    cases w with
    | false =>
      refine iteT ⟨_, rfl, x, cs, p, g, rfl, hC, hp, hpn, hn, hg, fun H1 s1 => ?_⟩
      refine ⟨_, rfl, x, _, dx, _, rfl, s1 _ _ hx, T.cl, T.n_break, (by show 5 < 1000; decide), ?_⟩
      rw [cset_b]
      refine ⟨_, rfl, x, _, dx, _, rfl, upd_same, T.cl, T.n_was_searched, (by show 5 < 1000; decide), ?_⟩
      rw [cset_w, upd_upd]
      have ks : Srch A (upd H1 x (.ins A.Curve dx (cfs l p g true))) x := ⟨dx, l, p, g, upd_same⟩
      have nlx : l ≠ x := ne_of hl hx (fun z => by cases z)
      refine ⟨_, rfl, x, _, dx, _, _, rfl, upd_same, T.cl, T.n_break, cfs_b _ _ _ _, k _ ⟨fun b o n e => ?_, ks, fun cs' p' g' c => ?_, fun dx' l' p' g' w' e => ?_⟩⟩
      · have nb : b ≠ x := fun z => (n z).no hx
        rw [upd_ne nb]; exact s1 _ _ e
      · obtain ⟨dx', l', w', e1, e2⟩ := c
        have nl' : l' ≠ x := ne_of e2 hx (fun z => by cases z)
        obtain ⟨rfl, rfl, rfl, rfl, rfl⟩ := obj_inj hx e1
        exact ⟨dx, l, true, upd_same, by rw [upd_ne nl']; exact s1 _ _ e2⟩
      · obtain ⟨rfl, rfl, rfl, rfl, rfl⟩ := obj_inj hx e
        exact upd_same
    | true =>
      exact iteF ⟨_, rfl, x, _, dx, _, _, rfl, hx, T.cl, T.n_break, cfs_b _ _ _ _, k H ⟨fun b o _ e => e, ⟨dx, l, p, g, hx⟩, fun _ _ _ c => c, fun dx' l' p' g' w' e => by obtain ⟨rfl, rfl, rfl, rfl, rfl⟩ := obj_inj hx e; exact e⟩⟩
theorem ok_require_good (T : Txt K mg A) : FnOk P w K mg base CX0 6 A.f_require_good A.d_require_good ["curve"] (sp_require_good K A) := by
  have G_C_find_break := ok_C_find_break (P := P) (w := w) (base := base) T
  refine T.F_require_good.ok sc_require_good (fun vs H Q E h => ?_) (fun cdv A0 outer s H vs Q E hr h => ?_)
  · obtain ⟨x, cs, p, g, rfl, hC, hp, hpn, hn, hg, k⟩ := h
    rfl
  · obtain ⟨x, cs, p, g, rfl, hC, hp, hpn, hn, hg, k⟩ := h
    refine ⟨_, (pss_cons (ps_set (i := 1) sc_require_good.nd rfl (by first | exact Or.inl rfl | exact Or.inr rfl) (pe_meth0 (pv 0) T.cl T.me_find_break G_C_find_break (hr.mono (by decide)) T.b_C_find_break .nil pass0))
    (pss_one (ps_if (pt_cmp (pc_notN (pv 1)) rfl) (pss_one ps_never) pss_nil))), ?_⟩
    obtain ⟨dx, l, w, hx, hl⟩ := id hC
    refine ⟨_, rfl, x, dx, _, rfl, hx, cfs_no _ _ _ (by decide +kernel) (by decide +kernel) (by decide +kernel), x, cs, p, g, rfl, hC, hp, hpn, hn, hg, fun H1 s1 => ?_⟩
    refine ⟨_, rfl, _, rfl, iteF ?_⟩
    exact k H1 s1
theorem ok_free_after (T : Txt K mg A) : FnOk P w K mg base CX0 1 A.f_free_after A.d_free_after ["record", "limits"] (sp_free_after K A) := by
  refine T.F_free_after.ok sc_free_after (fun vs H Q E h => ?_) (fun cdv A0 outer s H vs Q E hr h => ?_)
  · obtain ⟨l, m, e, f, n, rfl, hS, hM, hn, hn2, k⟩ := h
    rfl
  · obtain ⟨l, m, e, f, n, rfl, hS, hM, hn, hn2, k⟩ := h
    refine ⟨_, (pss_cons (ps_set (i := 2) sc_free_after.nd rfl (by first | exact Or.inl rfl | exact Or.inr rfl) (pe_ix (r := rIxL K) ix_list (pv 1) pe_int (fun _ _ => rfl)))
    (pss_cons (ps_set (i := 3) sc_free_after.nd rfl (by first | exact Or.inl rfl | exact Or.inr rfl) pe_int)
    (pss_cons (ps_for PassesOwn.never rfl (VE.pi_enumRev (by decide) (by decide) (by rfl) T.enumerate (by rfl) T.reversed (pa_cons (pv 0) pa_nil)) (pg_tup rfl (pgs_cons (pg_name (i := 4) sc_free_after.nd rfl (by first | exact Or.inl rfl | exact Or.inr rfl)) (pgs_cons (pg_name (i := 5) sc_free_after.nd rfl (by first | exact Or.inl rfl | exact Or.inr rfl)) pgs_nil)))
      (pss_cons (ps_aug (i := 3) sc_free_after.nd rfl (.inl rfl) (pv 5) ip_add)
    (pss_one (ps_set (i := 2) sc_free_after.nd rfl (by first | exact Or.inl rfl | exact Or.inr rfl) (pe_callB (call_min2 rfl) (by rfl) T.min (by decide +kernel) (pa_cons (pv 2) (pa_cons (pe_op op_sub (pe_ix (r := rIxL K) ix_list (pv 1) (pv 4) (fun _ _ => rfl)) (pv 3)) pa_nil)))))))
    (pss_one (ps_ret (pv 2)))))), ?_⟩
    refine ⟨_, rfl, m, _, _, _, rfl, rfl, hM, at_row (by decide) (by omega), ?_⟩
    refine ⟨_, rfl, l, _, rfl, hS, for_it (VE.walk_enumRev (K := K) (a := l) (xs := e.map V.int) (k := 1)) (fun i σ H' => ∃ v4 v5, σ = [some (.ref l), some (.ref m), some (.int (freeK f e i)), some (.int (tl e i)), v4, v5] ∧ Same H H')
      ⟨_, _, by rw [tl_zero]; rfl, Same.refl H⟩ (fun i σ H' _ ⟨_, _, _, s0⟩ => s0.seq hS) ?_ ?_⟩
    · rintro i x σ H' H2 hi ⟨v4, v5, rfl, s0⟩ ⟨t, a, b, rfl, ht, rfl, ea, eb⟩
      rw [List.length_map] at hi
      obtain ⟨hi', rfl⟩ := nth_map eb
      cases ea
      have s2 : Same H (upd H' t (.tup [.int (1 + (i : Nat)), .int (e.getD ((e.map V.int).length - 1 - i) 0)])) := Same.upd s0 (s0.free ht)
      refine ⟨t, _, rfl, SqT.of upd_same, rfl, _, _, rfl, _, _, rfl, rfl, ?_⟩
      refine ⟨_, rfl, _, rfl, _, _, rfl, rfl, ?_⟩
      refine ⟨_, rfl, _, rfl, _, rfl, m, _, _, _, rfl, rfl, s2.seq hM, at_row (by omega) (by omega), _, rfl, _, _, rfl, rfl, _, _, rfl, ?_⟩
      refine ⟨some (.int (1 + (i : Nat))), some (.int (e.getD ((e.map V.int).length - 1 - i) 0)), ?_, s2⟩
      have es := tl_step (us := e) (k := i) hi
      rw [List.length_map]
      simp only []
      rw [← es]
      have ef : (if f (1 + (1 + (i : Int))) - tl e (i + 1) < freeK f e i then f (1 + (1 + (i : Int))) - tl e (i + 1) else freeK f e i) = freeK f e (i + 1) := by
        show _ = min (freeK f e i) (f ((i : Int) + 2) - tl e (i + 1))
        rw [show 1 + (1 + (i : Int)) = (i : Int) + 2 by omega]
        split <;> omega
      rw [ef]
      rfl
    · rintro σ H' ⟨v4, v5, rfl, s0⟩
      rw [List.length_map]
      exact ⟨_, rfl, k H' s0⟩
theorem ok_shaped (T : Txt K mg A) : FnOk P w K mg base CX0 7 A.f_shaped A.d_shaped ["record", "curve"] (sp_shaped K A) := by
  have G_C_at := ok_C_at (P := P) (w := w) (base := base) T
  have G_free_after := ok_free_after (P := P) (w := w) (base := base) T
  have G_require_good := ok_require_good (P := P) (w := w) (base := base) T
  have G_require_record := ok_require_record (P := P) (w := w) (base := base) T
  refine T.F_shaped.ok sc_shaped (fun vs H Q E h => ?_) (fun cdv A0 outer s H vs Q E hr h => ?_)
  · obtain ⟨l, x, us, cs, p, g, rfl, hS, hl, hc, hC, hp, hpn, hn, hg, k⟩ := h
    rfl
  · obtain ⟨l, x, us, cs, p, g, rfl, hS, hl, hc, hC, hp, hpn, hn, hg, k⟩ := h
    refine ⟨_, (pss_cons (ps_expr (pe_call G_require_record (hr.mono (by decide)) rfl T.m_require_record T.k_require_record T.b_require_record .nil pass0 (pa_cons (pv 0) pa_nil)))
    (pss_cons (ps_expr (pe_call G_require_good (hr.mono (by decide)) rfl T.m_require_good T.k_require_good T.b_require_good .nil pass0 (pa_cons (pv 1) pa_nil)))
    (pss_cons (ps_setLc (i := 2) (own := [("length", 7)]) (g := gName 7) (tt := tYes) rfl sc_shaped.nd rfl rfl (sw_true rfl rfl rfl (by decide +kernel)) (pi_range2 rfl T.range (pa_cons pe_int (pa_cons (pe_op op_add (pe_callB (r := VG.rLen K) VG.call_len (by rfl) T.len (by decide +kernel) (pa_cons (pv 0) pa_nil)) pe_int) pa_nil))) (blkOk_by (own := [("length", 7)]) (N := ["record", "curve", "limits", "entered", "waiting", "units", "entering", "length"]) (sc := defScope s_shaped) (by decide +kernel)) (fun _ _ _ _ _ => pg_name (i := 7) sc_shaped.nd rfl (Or.inl rfl)) (fun _ _ _ _ _ => pts_nil) (fun _ _ _ _ _ => (pe_meth (pv 1) T.cl T.me_at G_C_at (hr.mono (by decide)) T.b_C_at .nil pass0 (pa_cons (pv 7) pa_nil))))
    (pss_cons (ps_set (i := 3) sc_shaped.nd rfl (by first | exact Or.inl rfl | exact Or.inr rfl) (pe_lst pa_nil))
    (pss_cons (ps_set (i := 4) sc_shaped.nd rfl (by first | exact Or.inl rfl | exact Or.inr rfl) pe_int)
    (pss_cons (ps_for PassesOwn.never rfl (pi_list (pv 0)) (pg_name (i := 5) sc_shaped.nd rfl (by first | exact Or.inl rfl | exact Or.inr rfl))
      (pss_cons (ps_aug (i := 4) sc_shaped.nd rfl (.inl rfl) (pv 5) ip_add)
    (pss_cons (ps_set (i := 6) sc_shaped.nd rfl (by first | exact Or.inl rfl | exact Or.inr rfl) (pe_callB (call_min2 rfl) (by rfl) T.min (by decide +kernel) (pa_cons (pv 4) (pa_cons (pe_call G_free_after (hr.mono (by decide)) rfl T.m_free_after T.k_free_after T.b_free_after .nil pass0 (pa_cons (pv 3) (pa_cons (pv 2) pa_nil))) pa_nil))))
    (pss_cons (ps_aug (i := 4) sc_shaped.nd rfl (.inl rfl) (pv 6) ip_sub)
    (pss_one (ps_expr (pe_bm PySem.F.plainAttrs_list PySem.F.slot_list_append PySem.F.type_list_append mt_append (pv 3) (pa_cons (pv 6) pa_nil))))))))
    (pss_one (ps_ret (pv 3))))))))), ?_⟩
    refine ⟨_, rfl, l, us, rfl, hS, hc, fun H1 s1 => ?_⟩
    refine ⟨_, rfl, x, cs, p, g, rfl, hC.same s1, hp, hpn, hn, hg, fun H2 s2 => ?_⟩
    have s02 := Kp.after s1 s2
    have hC2 := s02.crv _ _ _ hC
    have hS2 := s02.seq hC hS
    obtain ⟨dx, lv, w, hx, hlv⟩ := id hC2
    refine ⟨_, rfl, l, _, rfl, .inl hS2, _, _, rfl, rfl, _, _, rfl, ⟨by omega, by omega, by rw [List.length_map]; omega, by rw [List.length_map]; omega⟩, fun D hD => ?_⟩
    rw [List.length_map]
    refine lc_range (lo := 1) (n := ((us.length : Int) + 1 - 1).toNat) (fun j H3 => H3 D = some (.lst ((row (fun s => cvAt cs p g (1 + s)) j).map V.int)) ∧ Same H2 H3) ⟨upd_same, Same.upd (Same.refl _) hD⟩ ?_ ?_
    · rintro j H3 hj ⟨hD3, s3⟩
      refine ⟨rfl, _, rfl, x, dx, _, rfl, s3 _ _ hx, cfs_no _ _ _ (by decide +kernel) (by decide +kernel) (by decide +kernel), _, rfl, x, cs, p, g, _, rfl, hC2.same s3, hp, hpn, hn, by omega, by omega, _, hD3, small (by rw [List.length_map, row_length]; omega), ?_, Same.upd s3 hD⟩
      rw [upd_same, rowI_succ]
    · rintro H3 ⟨hD3, s3⟩
      have s03 := s02.then s3
      refine ⟨(by show 0 ≤ sizeLine; decide), fun q hq => ?_⟩
      have nDq : D ≠ q := ne_of_none hD3 hq
      have s4 : Same H2 (upd H3 q (.lst [])) := Same.upd s3 (s3.free hq)
      refine ⟨_, rfl, l, rfl, ⟨_, s4.seq hS2⟩, for_list (K := K) (a := l) (xs := us.map V.int) (fun i σ H' => ∃ v5 v6, σ = [some (.ref l), some (.ref x), some (.ref D), some (.ref q), some (.int (shG (cvAt cs p g) (us.take i)).2), v5, v6, none] ∧ Same H2 H' ∧ H' D = some (.lst ((row (fun s => cvAt cs p g (1 + s)) us.length).map V.int)) ∧ H' q = some (.lst ((shG (cvAt cs p g) (us.take i)).1.map V.int)))
        ⟨_, _, rfl, s4, ?_, upd_same⟩ (fun i σ H' _ ⟨_, _, _, s0, _⟩ => s0.seq hS2) ?_ ?_⟩
      · rw [upd_ne nDq, hD3, show ((us.length : Int) + 1 - 1).toNat = us.length by omega]
      · rintro i y σ H' hy ⟨v5, v6, rfl, s0, hD5, hq5⟩
        obtain ⟨hi, rfl⟩ := nth_map hy
        have el : (shG (cvAt cs p g) (us.take i)).1.length = i := by rw [shG_length, List.length_take]; omega
        refine ⟨_, rfl, _, rfl, _, _, rfl, rfl, ?_⟩
        refine ⟨_, rfl, _, rfl, _, rfl, q, D, _, cvAt cs p g, us.length, rfl, SqL.of hq5, SqL.of hD5, by omega, by omega, fun H6 s6 => ?_⟩
        have hq6 := s6 _ _ hq5
        refine ⟨_, _, rfl, ?_⟩
        refine ⟨_, rfl, _, rfl, _, _, rfl, rfl, ?_⟩
        refine ⟨_, rfl, .inl ⟨rfl, _, SqL.of hq6⟩, _, rfl, q, _, _, rfl, rfl, hq6, small (by rw [List.length_map, el]; omega), ?_⟩
        have e1 := shG_take (f := cvAt cs p g) (us := us) (i := i) hi
        have e2 : (if freeM (cvAt cs p g) (shG (cvAt cs p g) (us.take i)).1 < (shG (cvAt cs p g) (us.take i)).2 + us.getD i 0 then freeM (cvAt cs p g) (shG (cvAt cs p g) (us.take i)).1 else (shG (cvAt cs p g) (us.take i)).2 + us.getD i 0)
            = min ((shG (cvAt cs p g) (us.take i)).2 + us.getD i 0) (freeM (cvAt cs p g) (shG (cvAt cs p g) (us.take i)).1) := by
          split <;> omega
        rw [e2]
        refine ⟨some (.int (us.getD i 0)), some (.int (min ((shG (cvAt cs p g) (us.take i)).2 + us.getD i 0) (freeM (cvAt cs p g) (shG (cvAt cs p g) (us.take i)).1))), ?_, Same.upd (s0.trans s6) (s3.free hq), ?_, ?_⟩
        · rw [e1]; rfl
        · rw [upd_ne nDq]; exact s6 _ _ hD5
        · rw [upd_same, e1]
          unfold shS
          simp only [List.map_append, List.map_cons, List.map_nil]
      · rintro σ H' ⟨v5, v6, rfl, s0, hD5, hq5⟩
        rw [List.length_map, List.take_length] at hq5
        exact ⟨_, rfl, k H' q (s02.then s0) (s03.free hq) hq5⟩
end
end VK


namespace VK
open PySem PySem.Spec PyProof.Rows L2 VM
/-- the row of a curve at t, its values at l -/
structure RowAt (H : Hp) (t l : Addr) (xs : List Int) (p g : Int) : Prop where
  tup : H t = some (.tup [.ref l, .int p, .int g])
  lst : H l = some (.lst (xs.map V.int))
  ok : OkRow xs p g
  low : ∀ i, xs.getD i 0 ≤ 20
theorem RowAt.same {H H' : Hp} {t l : Addr} {xs : List Int} {p g : Int} (h : RowAt H t l xs p g) (s : Same H H') : RowAt H' t l xs p g := ⟨s _ _ h.tup, s _ _ h.lst, h.ok, h.low⟩
theorem RowAt.pp {H : Hp} {t l : Addr} {xs : List Int} {p g : Int} (h : RowAt H t l xs p g) : 0 < p ∧ p ≤ 12 ∧ p ≤ xs.length ∧ xs.length ≤ 1000 ∧ 1 ≤ xs.length := by
  have a := h.ok.pn
  have b := h.ok.l2
  have c := h.ok.l1
  rcases h.ok.per with q | q | q | q | q | q <;> omega
theorem Ext.row {r : Addr} {H H' : Hp} {t l : Addr} {xs : List Int} {p g : Int} (e : Ext r H H') (h : RowAt H t l xs p g) (hr : Rng H r) (n : l ≠ r) : RowAt H' t l xs p g := by
  refine ⟨e.keep _ _ (fun z => ?_) h.tup, e.keep _ _ n h.lst, h.ok, h.low⟩
  obtain ⟨a, b, q, _⟩ := hr
  have := h.tup
  rw [z, q] at this
  cases this
def okB (xs : List Int) (p g : Int) : Bool :=
  decide (1 ≤ xs.length ∧ xs.length ≤ 24 ∧ (p = 1 ∨ p = 2 ∨ p = 3 ∨ p = 4 ∨ p = 6 ∨ p = 12) ∧ p ≤ xs.length ∧ 0 ≤ g ∧ g ≤ 2000 ∧ xs.getD (xs.length - 1) 0 ≤ xs.getD (xs.length - p.toNat) 0 + g) &&
  ((List.range xs.length).all (fun i => decide (0 ≤ xs.getD i 0 ∧ xs.getD i 0 ≤ 20)) && ((List.range (xs.length - 1)).all (fun i => decide (xs.getD i 0 ≤ xs.getD (i + 1) 0)) && goodB (cvAt xs p g) xs.length))
theorem okB_of {xs : List Int} {p g : Int} (h : okB xs p g = true) : OkRow xs p g ∧ (∀ i, xs.getD i 0 ≤ 20) ∧ GoodC (cvAt xs p g) xs.length := by
  unfold okB at h
  rw [Bool.and_eq_true, Bool.and_eq_true, Bool.and_eq_true, List.all_eq_true, List.all_eq_true] at h
  obtain ⟨h1, h2, h3, h4⟩ := h
  obtain ⟨a1, a2, a3, a4, a5, a6, a7⟩ := of_decide_eq_true h1
  have v : ∀ i, i < xs.length → 0 ≤ xs.getD i 0 ∧ xs.getD i 0 ≤ 20 := fun i hi => of_decide_eq_true (h2 i (List.mem_range.mpr hi))
  have u : ∀ i, i + 1 < xs.length → xs.getD i 0 ≤ xs.getD (i + 1) 0 := fun i hi => of_decide_eq_true (h3 i (List.mem_range.mpr (by omega)))
  refine ⟨⟨a1, a2, fun i hi => (v i hi).1, fun i hi => by have := (v i hi).2; omega, u, a3, a4, a5, a6, a7⟩, fun i => ?_, fun a b x y z => good_at h4 x y z⟩
  by_cases c : i < xs.length
  · exact (v i c).2
  · rw [List.getD_eq_getElem?_getD, List.getElem?_eq_none (by omega)]; decide
def IsRow (H0 H : Hp) (v : V) : Prop := ∃ t l xs p g, v = .ref t ∧ H0 t = none ∧ H0 l = none ∧ RowAt H t l xs p g ∧ GoodC (cvAt xs p g) xs.length
structure Rows (H0 H : Hp) (ys : List V) (hs : List (Addr × HO)) : Prop where
  same : Same H0 H
  all : ∀ y ∈ ys, IsRow H0 H y
  held : ∀ z ∈ hs, H z.1 = some z.2
theorem Rows.refl (H : Hp) : Rows H H [] [] := ⟨Same.refl H, fun _ h => (by cases h), fun _ h => (by cases h)⟩
theorem IsRow.same {H0 H H' : Hp} {v : V} (h : IsRow H0 H v) (s : Same H H') : IsRow H0 H' v := by
  obtain ⟨t, l, xs, p, g, a, b, c, d, e⟩ := h
  exact ⟨t, l, xs, p, g, a, b, c, d.same s, e⟩
theorem Rows.hold {H0 H : Hp} {ys : List V} {hs : List (Addr × HO)} {q : Addr} {o : HO} (R : Rows H0 H ys hs) (hq : H q = none) : Rows H0 (upd H q o) ys ((q, o) :: hs) := by
  refine ⟨Same.upd R.same (R.same.free hq), fun y h => (R.all y h).same (Same.upd (Same.refl _) hq), fun z h => ?_⟩
  rcases List.mem_cons.mp h with e | h
  · subst e; exact upd_same
  · exact Same.upd (Same.refl _) hq _ _ (R.held z h)
theorem Rows.put {H0 H : Hp} {ys : List V} {hs : List (Addr × HO)} {p t : Addr} {os : List V} {xs : List Int} {a g : Int} (R : Rows H0 H ys hs) (hp : H p = none) (ht : upd H p (.lst os) t = none) (eo : os = xs.map V.int) (ok : okB xs a g = true) :
    Rows H0 (upd (upd H p (.lst os)) t (.tup [.ref p, .int a, .int g])) (ys ++ [.ref t]) hs := by
  obtain ⟨o1, o2, o3⟩ := okB_of ok
  have npt : p ≠ t := fun z => by rw [← z, upd_same] at ht; cases ht
  have ht' : H t = none := by rw [upd_ne (Ne.symm npt)] at ht; exact ht
  have s : Same H (upd (upd H p (.lst os)) t (.tup [.ref p, .int a, .int g])) := Same.upd (Same.upd (Same.refl _) hp) ht'
  refine ⟨R.same.trans s, fun y h => ?_, fun z h => s _ _ (R.held z h)⟩
  rcases List.mem_append.mp h with h | h
  · exact (R.all y h).same s
  · cases List.mem_singleton.mp h
    exact ⟨t, p, xs, a, g, rfl, R.same.free ht', R.same.free hp, ⟨upd_same, by rw [upd_ne npt, upd_same, eo], o1, o2⟩, o3⟩
def sp_l_is_good (K : PySem.W.Frag) (_ : Ad) : Sp := fun vs H Q _ => ∃ (t l : Addr) (xs : List Int) (p g : Int), vs = [.ref t] ∧ SqT K H t [.ref l, .int p, .int g] ∧ SqL K H l (xs.map V.int) ∧ 0 < p ∧ p ≤ xs.length ∧ xs.length ≤ 1000 ∧
  ∀ b : Bool, (b = true → GoodC (cvAt xs p g) xs.length) → Q (.bl b) H
def sp_l_rows (_ : PySem.W.Frag) (_ : Ad) : Sp := fun vs H Q _ => vs = [] ∧ ∀ H' q ys, Same H H' → H q = none → H' q = some (.lst ys) → ys.length = 16 → (∀ y ∈ ys, IsRow H H' y) → Q (.ref q) H'
def sp_l_row (_ : PySem.W.Frag) (_ : Ad) : Sp := fun vs H Q _ => ∃ (r : Addr), vs = [.ref r] ∧ Rng H r ∧
  ∀ H' t l xs p g, Ext r H H' → H t = none → H l = none → RowAt H' t l xs p g → GoodC (cvAt xs p g) xs.length → Q (.ref t) H'
section
variable {P : Program} {w : World} {K : PySem.W.Frag} {mg : Str → Option Value} {base : Heap} {A : Ad}
theorem ok_l_is_good (T : Txt K mg A) : FnOk P w K mg base CX0 2 A.f_l_is_good A.d_l_is_good ["_law_row_here"] (sp_l_is_good K A) := by
  have G_l_at := ok_l_at (P := P) (w := w) (base := base) T
  refine T.F_l_is_good.ok sc_l_is_good (fun vs H Q E h => ?_) (fun cdv A0 outer s H vs Q E hr h => ?_)
  · obtain ⟨t, l, xs, p, g, rfl, hT, hL, p0, pn, xn, k⟩ := h
    rfl
  · obtain ⟨t, l, xs, p, g, rfl, hT, hL, p0, pn, xn, k⟩ := h
    refine ⟨_, (pss_cons (ps_set (i := 1) sc_l_is_good.nd rfl (by first | exact Or.inl rfl | exact Or.inr rfl) (pe_op op_add (pe_callB (r := VG.rLen K) VG.call_len (by rfl) T.len (by decide +kernel) (pa_cons (pe_ix (r := rIxT K) ix_tup (pv 0) pe_int (fun _ _ => rfl)) pa_nil)) (pe_ix (r := rIxT K) ix_tup (pv 0) pe_int (fun _ _ => rfl))))
    (pss_cons (ps_for PassesOwn.never rfl (pi_range2 rfl T.range (pa_cons pe_int (pa_cons (pe_op op_add (pv 1) pe_int) pa_nil))) (pg_name (i := 2) sc_l_is_good.nd rfl (by first | exact Or.inl rfl | exact Or.inr rfl))
      (pss_one (ps_for PassesOwn.never rfl (pi_range2 rfl T.range (pa_cons pe_int (pa_cons (pe_op op_add (pv 2) pe_int) pa_nil))) (pg_name (i := 3) sc_l_is_good.nd rfl (by first | exact Or.inl rfl | exact Or.inr rfl))
      (pss_one (ps_if (pt_cmpR op_gt (pe_call G_l_at (hr.mono (by decide)) rfl T.m_l_at T.k_l_at T.b_l_at .nil pass0 (pa_cons (pv 0) (pa_cons (pe_op op_add (pv 2) (pv 3)) pa_nil))) (pe_op op_add (pe_call G_l_at (hr.mono (by decide)) rfl T.m_l_at T.k_l_at T.b_l_at .nil pass0 (pa_cons (pv 0) (pa_cons (pv 2) pa_nil))) (pe_call G_l_at (hr.mono (by decide)) rfl T.m_l_at T.k_l_at T.b_l_at .nil pass0 (pa_cons (pv 0) (pa_cons (pv 3) pa_nil)))) (nomark _)) (pss_one (ps_ret pe_bl)) pss_nil)))))
    (pss_one (ps_ret pe_bl)))), ?_⟩
    refine ⟨_, rfl, t, _, _, _, rfl, rfl, hT, rfl, l, _, rfl, .inl hL, _, rfl, t, _, _, _, rfl, rfl, hT, rfl, _, _, rfl, rfl, ?_⟩
    rw [List.length_map]
    refine ⟨_, rfl, _, _, rfl, rfl, _, _, rfl, ⟨by omega, by omega, by omega, by omega⟩, ?_⟩
    refine for_range (lo := 1) (n := ((xs.length : Int) + p + 1 - 1).toNat) (fun i σ H' => ∃ v2 v3, σ = [some (.ref t), some (.int ((xs.length : Int) + p)), v2, v3] ∧ H = H' ∧ ∀ a b : Int, 1 ≤ b → b ≤ a → a ≤ i → cvAt xs p g (a + b) ≤ cvAt xs p g a + cvAt xs p g b)
      ⟨_, _, rfl, rfl, fun a b h1 h2 h3 => absurd h3 (by omega)⟩ ?_ ?_
    · rintro i σ H' hi ⟨v2, v3, rfl, rfl, G⟩
      refine ⟨_, rfl, _, _, rfl, rfl, _, _, rfl, ⟨by omega, by omega, by omega, by omega⟩, ?_⟩
      refine for_range (lo := 1) (n := (1 + (i : Int) + 1 - 1).toNat) (fun j σ H' => ∃ v3, σ = [some (.ref t), some (.int ((xs.length : Int) + p)), some (.int (1 + (i : Int))), v3] ∧ H = H' ∧ ∀ b : Int, 1 ≤ b → b ≤ j → cvAt xs p g (1 + (i : Int) + b) ≤ cvAt xs p g (1 + (i : Int)) + cvAt xs p g b)
        ⟨_, rfl, rfl, fun b h1 h2 => absurd h2 (by omega)⟩ ?_ ?_
      · rintro j σ H' hj ⟨v3, rfl, rfl, G2⟩
        refine ⟨_, rfl, _, rfl, _, rfl, _, _, rfl, rfl, t, l, xs, p, g, _, rfl, hT, hL, p0, pn, xn, by omega, by omega, ?_⟩
        refine ⟨_, rfl, _, rfl, t, l, xs, p, g, _, rfl, hT, hL, p0, pn, xn, by omega, by omega, _, rfl, _, rfl, t, l, xs, p, g, _, rfl, hT, hL, p0, pn, xn, by omega, by omega, _, _, rfl, rfl, _, _, rfl, rfl, _, rfl, ifD (fun c => ?_) (fun c => ?_)⟩
        · exact k false fun e => by cases e
        · refine ⟨_, rfl, rfl, fun b h1 h2 => ?_⟩
          by_cases z : b ≤ j
          · exact G2 b h1 z
          · have e : b = 1 + (j : Int) := by omega
            rw [e]; omega
      · rintro σ H' ⟨v3, rfl, rfl, G2⟩
        refine ⟨_, _, rfl, rfl, fun a b h1 h2 h3 => ?_⟩
        by_cases z : a ≤ i
        · exact G a b h1 h2 z
        · have e : a = 1 + (i : Int) := by omega
          rw [e]
          exact G2 b h1 (by omega)
    · rintro σ H' ⟨v2, v3, rfl, rfl, G⟩
      exact k true fun _ a b h1 h2 h3 => G a b h1 h2 (by omega)
theorem ok_l_rows (T : Txt K mg A) : FnOk P w K mg base CX0 1 A.f_l_rows A.d_l_rows [] (sp_l_rows K A) := by
  refine T.F_l_rows.ok sc_l_rows (fun vs H Q E h => ?_) (fun cdv A0 outer s H vs Q E hr h => ?_)
  · obtain ⟨rfl, k⟩ := h
    rfl
  · obtain ⟨rfl, k⟩ := h
    refine ⟨_, (pss_cons (ps_set (i := 0) sc_l_rows.nd rfl (by first | exact Or.inl rfl | exact Or.inr rfl) (pe_lst (pa_cons (pe_tup (pa_cons (pe_lst (pa_cons pe_int pa_nil)) (pa_cons pe_int (pa_cons pe_int pa_nil)))) (pa_cons (pe_tup (pa_cons (pe_lst (pa_cons pe_int (pa_cons pe_int pa_nil))) (pa_cons pe_int (pa_cons pe_int pa_nil)))) (pa_cons (pe_tup (pa_cons (pe_lst (pa_cons pe_int (pa_cons pe_int (pa_cons pe_int pa_nil)))) (pa_cons pe_int (pa_cons pe_int pa_nil)))) (pa_cons (pe_tup (pa_cons (pe_lst (pa_cons pe_int (pa_cons pe_int pa_nil))) (pa_cons pe_int (pa_cons pe_int pa_nil)))) (pa_cons (pe_tup (pa_cons (pe_lst (pa_cons pe_int pa_nil)) (pa_cons pe_int (pa_cons pe_int pa_nil)))) (pa_cons (pe_tup (pa_cons (pe_lst (pa_cons pe_int (pa_cons pe_int (pa_cons pe_int pa_nil)))) (pa_cons pe_int (pa_cons pe_int pa_nil)))) pa_nil))))))))
    (pss_cons (ps_set (i := 0) sc_l_rows.nd rfl (by first | exact Or.inl rfl | exact Or.inr rfl) (pe_op op_cat (pv 0) (pe_lst (pa_cons (pe_tup (pa_cons (pe_lst (pa_cons pe_int pa_nil)) (pa_cons pe_int (pa_cons pe_int pa_nil)))) (pa_cons (pe_tup (pa_cons (pe_lst (pa_cons pe_int (pa_cons pe_int (pa_cons pe_int pa_nil)))) (pa_cons pe_int (pa_cons pe_int pa_nil)))) (pa_cons (pe_tup (pa_cons (pe_lst (pa_cons pe_int (pa_cons pe_int pa_nil))) (pa_cons pe_int (pa_cons pe_int pa_nil)))) (pa_cons (pe_tup (pa_cons (pe_lst (pa_cons pe_int (pa_cons pe_int (pa_cons pe_int (pa_cons pe_int pa_nil))))) (pa_cons pe_int (pa_cons pe_int pa_nil)))) (pa_cons (pe_tup (pa_cons (pe_lst (pa_cons pe_int pa_nil)) (pa_cons pe_int (pa_cons pe_int pa_nil)))) (pa_cons (pe_tup (pa_cons (pe_lst (pa_cons pe_int pa_nil)) (pa_cons pe_int (pa_cons pe_int pa_nil)))) pa_nil)))))))))
    (pss_one (ps_ret (pe_op op_cat (pv 0) (pe_lst (pa_cons (pe_tup (pa_cons (pe_lst (pa_cons pe_int (pa_cons pe_int (pa_cons pe_int (pa_cons pe_int pa_nil))))) (pa_cons pe_int (pa_cons pe_int pa_nil)))) (pa_cons (pe_tup (pa_cons (pe_lst (pa_cons pe_int (pa_cons pe_int (pa_cons pe_int pa_nil)))) (pa_cons pe_int (pa_cons pe_int pa_nil)))) (pa_cons (pe_tup (pa_cons (pe_lst (pa_cons pe_int (pa_cons pe_int (pa_cons pe_int pa_nil)))) (pa_cons pe_int (pa_cons pe_int pa_nil)))) (pa_cons (pe_tup (pa_cons (pe_lst (pa_cons pe_int (pa_cons pe_int (pa_cons pe_int (pa_cons pe_int (pa_cons pe_int (pa_cons pe_int pa_nil))))))) (pa_cons pe_int (pa_cons pe_int pa_nil)))) pa_nil)))))))))), ?_⟩
    have S0 : Rows H H [] [] := Rows.refl H
    refine ⟨(by show 1 ≤ sizeLine; decide), fun p1 hp1 => ⟨(by show 3 ≤ sizeLine; decide), fun t1 ht1 => ?_⟩⟩
    have S1 := S0.put (xs := [1]) (a := 1) (g := 0) hp1 ht1 rfl (by decide +kernel)
    refine ⟨(by show 2 ≤ sizeLine; decide), fun p2 hp2 => ⟨(by show 3 ≤ sizeLine; decide), fun t2 ht2 => ?_⟩⟩
    have S2 := S1.put (xs := [1, 1]) (a := 2) (g := 1) hp2 ht2 rfl (by decide +kernel)
    refine ⟨(by show 3 ≤ sizeLine; decide), fun p3 hp3 => ⟨(by show 3 ≤ sizeLine; decide), fun t3 ht3 => ?_⟩⟩
    have S3 := S2.put (xs := [1, 1, 1]) (a := 3) (g := 1) hp3 ht3 rfl (by decide +kernel)
    refine ⟨(by show 2 ≤ sizeLine; decide), fun p4 hp4 => ⟨(by show 3 ≤ sizeLine; decide), fun t4 ht4 => ?_⟩⟩
    have S4 := S3.put (xs := [2, 2]) (a := 2) (g := 1) hp4 ht4 rfl (by decide +kernel)
    refine ⟨(by show 1 ≤ sizeLine; decide), fun p5 hp5 => ⟨(by show 3 ≤ sizeLine; decide), fun t5 ht5 => ?_⟩⟩
    have S5 := S4.put (xs := [1]) (a := 1) (g := 1) hp5 ht5 rfl (by decide +kernel)
    refine ⟨(by show 3 ≤ sizeLine; decide), fun p6 hp6 => ⟨(by show 3 ≤ sizeLine; decide), fun t6 ht6 => ?_⟩⟩
    have S6 := S5.put (xs := [2, 2, 2]) (a := 3) (g := 1) hp6 ht6 rfl (by decide +kernel)
    refine ⟨(by show 6 ≤ sizeLine; decide), fun q1 hq1 => ?_⟩
    have U1 := S6.hold (o := .lst [.ref t1, .ref t2, .ref t3, .ref t4, .ref t5, .ref t6]) hq1
    refine ⟨_, rfl, ?_⟩
    refine ⟨(by show 1 ≤ sizeLine; decide), fun p7 hp7 => ⟨(by show 3 ≤ sizeLine; decide), fun t7 ht7 => ?_⟩⟩
    have S7 := U1.put (xs := [2]) (a := 1) (g := 0) hp7 ht7 rfl (by decide +kernel)
    refine ⟨(by show 3 ≤ sizeLine; decide), fun p8 hp8 => ⟨(by show 3 ≤ sizeLine; decide), fun t8 ht8 => ?_⟩⟩
    have S8 := S7.put (xs := [2, 2, 3]) (a := 3) (g := 2) hp8 ht8 rfl (by decide +kernel)
    refine ⟨(by show 2 ≤ sizeLine; decide), fun p9 hp9 => ⟨(by show 3 ≤ sizeLine; decide), fun t9 ht9 => ?_⟩⟩
    have S9 := S8.put (xs := [1, 2]) (a := 1) (g := 0) hp9 ht9 rfl (by decide +kernel)
    refine ⟨(by show 4 ≤ sizeLine; decide), fun p10 hp10 => ⟨(by show 3 ≤ sizeLine; decide), fun t10 ht10 => ?_⟩⟩
    have S10 := S9.put (xs := [2, 2, 2, 2]) (a := 4) (g := 1) hp10 ht10 rfl (by decide +kernel)
    refine ⟨(by show 1 ≤ sizeLine; decide), fun p11 hp11 => ⟨(by show 3 ≤ sizeLine; decide), fun t11 ht11 => ?_⟩⟩
    have S11 := S10.put (xs := [2]) (a := 1) (g := 1) hp11 ht11 rfl (by decide +kernel)
    refine ⟨(by show 1 ≤ sizeLine; decide), fun p12 hp12 => ⟨(by show 3 ≤ sizeLine; decide), fun t12 ht12 => ?_⟩⟩
    have S12 := S11.put (xs := [0]) (a := 1) (g := 0) hp12 ht12 rfl (by decide +kernel)
    refine ⟨(by show 6 ≤ sizeLine; decide), fun q2 hq2 => ?_⟩
    have U2 := S12.hold (o := .lst [.ref t7, .ref t8, .ref t9, .ref t10, .ref t11, .ref t12]) hq2
    refine ⟨q1, q2, _, _, rfl, rfl, U2.held _ (List.mem_cons_of_mem _ List.mem_cons_self), U2.held _ List.mem_cons_self, (by rw [sizeLine_eq]; simp), fun q3 hq3 => ?_⟩
    have U3 := U2.hold (o := .lst ([.ref t1, .ref t2, .ref t3, .ref t4, .ref t5, .ref t6] ++ [.ref t7, .ref t8, .ref t9, .ref t10, .ref t11, .ref t12])) hq3
    refine ⟨_, rfl, ?_⟩
    refine ⟨(by show 4 ≤ sizeLine; decide), fun p13 hp13 => ⟨(by show 3 ≤ sizeLine; decide), fun t13 ht13 => ?_⟩⟩
    have S13 := U3.put (xs := [1, 2, 2, 2]) (a := 4) (g := 1) hp13 ht13 rfl (by decide +kernel)
    refine ⟨(by show 3 ≤ sizeLine; decide), fun p14 hp14 => ⟨(by show 3 ≤ sizeLine; decide), fun t14 ht14 => ?_⟩⟩
    have S14 := S13.put (xs := [3, 3, 3]) (a := 3) (g := 1) hp14 ht14 rfl (by decide +kernel)
    refine ⟨(by show 3 ≤ sizeLine; decide), fun p15 hp15 => ⟨(by show 3 ≤ sizeLine; decide), fun t15 ht15 => ?_⟩⟩
    have S15 := S14.put (xs := [1, 1, 2]) (a := 2) (g := 1) hp15 ht15 rfl (by decide +kernel)
    refine ⟨(by show 6 ≤ sizeLine; decide), fun p16 hp16 => ⟨(by show 3 ≤ sizeLine; decide), fun t16 ht16 => ?_⟩⟩
    have S16 := S15.put (xs := [3, 3, 3, 3, 3, 3]) (a := 6) (g := 1) hp16 ht16 rfl (by decide +kernel)
    refine ⟨(by show 4 ≤ sizeLine; decide), fun q4 hq4 => ?_⟩
    have U4 := S16.hold (o := .lst [.ref t13, .ref t14, .ref t15, .ref t16]) hq4
    refine ⟨q3, q4, _, _, rfl, rfl, U4.held _ (List.mem_cons_of_mem _ List.mem_cons_self), U4.held _ List.mem_cons_self, (by rw [sizeLine_eq]; simp), fun q5 hq5 => ?_⟩
    exact k _ q5 _ (U4.hold (o := .lst (([.ref t1, .ref t2, .ref t3, .ref t4, .ref t5, .ref t6] ++ [.ref t7, .ref t8, .ref t9, .ref t10, .ref t11, .ref t12]) ++ [.ref t13, .ref t14, .ref t15, .ref t16])) hq5).same (U4.same.free hq5) upd_same rfl (U4.hold hq5).all
end
end VK


namespace VK
open PySem PySem.Spec PyProof.Rows L2 VM
theorem getD_push_lt {xs : List Int} {y : Int} {i : Nat} (h : i < xs.length) : (xs ++ [y]).getD i 0 = xs.getD i 0 := by
  rw [List.getD_eq_getElem?_getD, List.getD_eq_getElem?_getD, List.getElem?_append_left h]
theorem getD_push_eq {xs : List Int} {y : Int} : (xs ++ [y]).getD xs.length 0 = y := by
  rw [List.getD_eq_getElem?_getD, List.getElem?_append_right (Nat.le_refl _)]
  simp
/-- values that rise by at most s, from at most b -/
structure Ris (xs : List Int) (b s : Int) : Prop where
  lo : ∀ i, i < xs.length → 0 ≤ xs.getD i 0
  hi : ∀ i, i < xs.length → xs.getD i 0 ≤ b + s * i
  up : ∀ i, i + 1 < xs.length → xs.getD i 0 ≤ xs.getD (i + 1) 0
theorem Ris.one {x b s : Int} (h0 : 0 ≤ x) (h1 : x ≤ b) : Ris [x] b s := by
  refine ⟨fun i hi => ?_, fun i hi => ?_, fun i hi => ?_⟩
  · have : i = 0 := by simp at hi; exact hi
    subst this; exact h0
  · have : i = 0 := by simp at hi; exact hi
    subst this
    show x ≤ b + s * 0
    omega
  · simp at hi
theorem Ris.push {xs : List Int} {b s d : Int} (h : Ris xs b s) (n : 0 < xs.length) (d0 : 0 ≤ d) (d1 : d ≤ s) : Ris (xs ++ [xs.getD (xs.length - 1) 0 + d]) b s := by
  have l := h.lo (xs.length - 1) (by omega)
  have u := h.hi (xs.length - 1) (by omega)
  refine ⟨fun i hi => ?_, fun i hi => ?_, fun i hi => ?_⟩
  · rw [List.length_append, List.length_singleton] at hi
    by_cases c : i < xs.length
    · rw [getD_push_lt c]; exact h.lo i c
    · have e : i = xs.length := by omega
      rw [e, getD_push_eq]; omega
  · rw [List.length_append, List.length_singleton] at hi
    by_cases c : i < xs.length
    · rw [getD_push_lt c]; exact h.hi i c
    · have e : i = xs.length := by omega
      rw [e, getD_push_eq]
      have z : s * (((xs.length - 1 : Nat)) : Int) + s = s * (xs.length : Int) := by
        rw [show ((xs.length : Nat) : Int) = ((xs.length - 1 : Nat) : Int) + 1 by omega, Int.mul_add, Int.mul_one]
      omega
  · rw [List.length_append, List.length_singleton] at hi
    by_cases c : i + 1 < xs.length
    · rw [getD_push_lt (by omega), getD_push_lt c]; exact h.up i c
    · have e : i + 1 = xs.length := by omega
      rw [getD_push_lt (by omega), e, getD_push_eq]
      rw [show i = xs.length - 1 by omega]
      omega
theorem Ext.put {r l : Addr} {H H' : Hp} {o : HO} (e : Ext r H H') (h : H l = none) (n : l ≠ r) : Ext r H (upd H' l o) := by
  refine ⟨fun b u hb q => ?_, ?_⟩
  · rw [upd_ne (ne_of_none q h)]; exact e.keep b u hb q
  · obtain ⟨a, b, q, z⟩ := e.rng
    exact ⟨a, b, by rw [upd_ne (Ne.symm n)]; exact q, z⟩
theorem perV4 {i : Nat} {x : V} (h : ([.int 1, .int 2, .int 3, .int 4] : List V)[i]? = some x) : ∃ z : Int, x = .int z ∧ (z = 1 ∨ z = 2 ∨ z = 3 ∨ z = 4) ∧ (i = 0 → z = 1) := by
  match i, h with
  | 0, h => cases h; exact ⟨1, rfl, by omega, fun _ => rfl⟩
  | 1, h => cases h; exact ⟨2, rfl, by omega, fun z => by omega⟩
  | 2, h => cases h; exact ⟨3, rfl, by omega, fun z => by omega⟩
  | 3, h => cases h; exact ⟨4, rfl, by omega, fun z => by omega⟩
  | n + 4, h => simp at h
section
variable {P : Program} {w : World} {K : PySem.W.Frag} {mg : Str → Option Value} {base : Heap} {A : Ad}
theorem ok_l_row (T : Txt K mg A) : FnOk P w K mg base CX0 3 A.f_l_row A.d_l_row ["_law_rng_here"] (sp_l_row K A) := by
  have G_l_choice := ok_l_choice (P := P) (w := w) (base := base) T
  have G_l_draw := ok_l_draw (P := P) (w := w) (base := base) T
  have G_l_is_good := ok_l_is_good (P := P) (w := w) (base := base) T
  have G_l_rows := ok_l_rows (P := P) (w := w) (base := base) T
  refine T.F_l_row.ok sc_l_row (fun vs H Q E h => ?_) (fun cdv A0 outer s H vs Q E hr h => ?_)
  · obtain ⟨r, rfl, hr0, k⟩ := h
    rfl
  · obtain ⟨r, rfl, hr0, k⟩ := h
    refine ⟨_, (pss_cons (ps_if (pt_cmpR op_gt (pe_call G_l_draw (hr.mono (by decide)) rfl T.m_l_draw T.k_l_draw T.b_l_draw .nil pass0 (pa_cons (pv 0) (pa_cons pe_int pa_nil))) pe_int (nomark _)) (pss_one (ps_ret (pe_call G_l_choice (hr.mono (by decide)) rfl T.m_l_choice T.k_l_choice T.b_l_choice .nil pass0 (pa_cons (pv 0) (pa_cons (pe_call0 G_l_rows (hr.mono (by decide)) rfl T.m_l_rows T.k_l_rows T.b_l_rows .nil pass0) pa_nil))))) pss_nil)
    (pss_cons (ps_set (i := 1) sc_l_row.nd rfl (by first | exact Or.inl rfl | exact Or.inr rfl) (pe_lst (pa_cons (pe_call G_l_draw (hr.mono (by decide)) rfl T.m_l_draw T.k_l_draw T.b_l_draw .nil pass0 (pa_cons (pv 0) (pa_cons pe_int pa_nil))) pa_nil)))
    (pss_cons (ps_for PassesOwn.never rfl (pi_range1 rfl T.range (pa_cons (pe_call G_l_draw (hr.mono (by decide)) rfl T.m_l_draw T.k_l_draw T.b_l_draw .nil pass0 (pa_cons (pv 0) (pa_cons pe_int pa_nil))) pa_nil)) (pg_name (i := 2) sc_l_row.nd rfl (by first | exact Or.inl rfl | exact Or.inr rfl))
      (pss_one (ps_expr (pe_bm PySem.F.plainAttrs_list PySem.F.slot_list_append PySem.F.type_list_append mt_append (pv 1) (pa_cons (pe_op op_add (pe_ix (r := rIxL K) ix_list (pv 1) (pe_un un_neg pe_int) (fun _ _ => rfl)) (pe_call G_l_draw (hr.mono (by decide)) rfl T.m_l_draw T.k_l_draw T.b_l_draw .nil pass0 (pa_cons (pv 0) (pa_cons pe_int pa_nil)))) pa_nil)))))
    (pss_cons (ps_set (i := 3) sc_l_row.nd rfl (by first | exact Or.inl rfl | exact Or.inr rfl) (pe_call G_l_choice (hr.mono (by decide)) rfl T.m_l_choice T.k_l_choice T.b_l_choice .nil pass0 (pa_cons (pv 0) (pa_cons (pe_lc (own := [("_law_one", 6)]) (g := gName 6) rfl sc_l_row.nd (pi_list (pe_lst (pa_cons pe_int (pa_cons pe_int (pa_cons pe_int (pa_cons pe_int pa_nil)))))) (blkOk_by (own := [("_law_one", 6)]) (N := ["_law_rng_here", "_law_steps", "_law_turn", "_law_cycle", "_law_low", "_law_row_here", "_law_one"]) (sc := defScope s_l_row) (by decide +kernel)) (fun _ _ _ _ _ => pg_name (i := 6) sc_l_row.nd rfl (Or.inl rfl)) (fun _ _ _ _ _ => (pts_one (pt_cmpR op_le (pv 6) (pe_callB (r := VG.rLen K) VG.call_len (by rfl) T.len (by decide +kernel) (pa_cons (pv 1) pa_nil)) (nomark _)))) (fun _ _ _ _ _ => (pv 6))) pa_nil))))
    (pss_cons (ps_set (i := 4) sc_l_row.nd rfl (by first | exact Or.inl rfl | exact Or.inr rfl) (pe_op op_sub (pe_ix (r := rIxL K) ix_list (pv 1) (pe_un un_neg pe_int) (fun _ _ => rfl)) (pe_ix (r := rIxL K) ix_list (pe_op op_cat (pe_lst (pa_cons pe_int pa_nil)) (pv 1)) (pe_op op_sub (pe_op op_add (pe_callB (r := VG.rLen K) VG.call_len (by rfl) T.len (by decide +kernel) (pa_cons (pv 1) pa_nil)) pe_int) (pv 3)) (fun _ _ => rfl))))
    (pss_cons (ps_set (i := 5) sc_l_row.nd rfl (by first | exact Or.inl rfl | exact Or.inr rfl) (pe_tup (pa_cons (pv 1) (pa_cons (pv 3) (pa_cons (pe_op op_add (pe_callB (call_max2 rfl) (by rfl) T.max (by decide +kernel) (pa_cons pe_int (pa_cons (pv 4) pa_nil))) (pe_call G_l_draw (hr.mono (by decide)) rfl T.m_l_draw T.k_l_draw T.b_l_draw .nil pass0 (pa_cons (pv 0) (pa_cons pe_int pa_nil)))) pa_nil)))))
    (pss_one (ps_ret (pe_ifExp (pt_val (pe_call G_l_is_good (hr.mono (by decide)) rfl T.m_l_is_good T.k_l_is_good T.b_l_is_good .nil pass0 (pa_cons (pv 5) pa_nil))) (pv 5) (pe_call G_l_choice (hr.mono (by decide)) rfl T.m_l_choice T.k_l_choice T.b_l_choice .nil pass0 (pa_cons (pv 0) (pa_cons (pe_call0 G_l_rows (hr.mono (by decide)) rfl T.m_l_rows T.k_l_rows T.b_l_rows .nil pass0) pa_nil)))))))))))), ?_⟩
    refine ⟨_, rfl, r, _, rfl, hr0, by decide, by decide, fun H0 d0 e0 x0 x1 => ⟨_, _, rfl, rfl, _, rfl, ifD (fun c => ?_) (fun c => ?_)⟩⟩
    · refine ⟨_, rfl, rfl, fun H2 q ys s2 hq0 hq hlen hall => ⟨r, q, ys, rfl, e0.rng.same s2, SqL.of hq, e0.rng.ne hq0, by omega, by omega, fun H3 v e3 hv => ?_⟩⟩
      obtain ⟨t, l, xs, p, g, rfl, ht0, hl0, R, G⟩ := hall v hv
      exact k H3 t l xs p g ((e0.same s2).trans e3) (e0.free ht0) (e0.free hl0) (e3.row R (e0.rng.same s2) (e0.rng.ne hl0)) G
    clear c x0 x1
    refine ⟨_, rfl, r, _, rfl, e0.rng, by decide, by decide, fun H1 d e1 d0 d1 => ⟨(by show 1 ≤ sizeLine; decide), fun l hl => ?_⟩⟩
    replace e1 := e0.trans e1
    have nlr := e1.rng.ne hl
    refine ⟨_, rfl, r, _, rfl, (e1.rng.same (Same.upd (Same.refl H1) hl)), by decide, by decide, fun H2 m e2 m0 m1 => ⟨_, rfl, by omega, by omega, ?_⟩⟩
    have e02 : Ext r H H2 := (e1.same (Same.upd (Same.refl H1) hl)).trans e2
    have hl2 : H2 l = some (.lst [.int d]) := e2.keep _ _ nlr upd_same
    refine for_range (lo := 0) (n := m.toNat) (fun i σ H' => ∃ v2 xs, σ = [some (.ref r), some (.ref l), v2, none, none, none, none] ∧ Ext r H H' ∧ H' l = some (.lst (xs.map V.int)) ∧ xs.length = i + 1 ∧ Ris xs 2 1)
      ⟨_, [d], rfl, e02, hl2, rfl, Ris.one d0 (by omega)⟩ ?_ ?_
    · rintro i σ H' hi ⟨v2, xs, rfl, e3, hx, hn, R⟩
      refine ⟨_, rfl, .inl ⟨rfl, _, SqL.of hx⟩, _, rfl, _, rfl, l, _, _, _, rfl, rfl, SqL.of hx, at_back (by omega) (by omega), _, rfl, r, _, rfl, e3.rng, by decide, by decide, fun H4 d' e4 z0 z1 => ?_⟩
      have hx4 := e4.keep _ _ nlr hx
      refine ⟨_, _, rfl, rfl, l, _, _, rfl, rfl, hx4, small (by rw [List.length_map]; omega), ?_⟩
      refine ⟨_, xs ++ [xs.getD (xs.length - 1) 0 + d'], rfl, (e3.trans e4).put (e1.free hl) nlr, ?_, by rw [List.length_append, hn]; rfl, R.push (by omega) z0 (by omega)⟩
      rw [upd_same, List.map_append, show (-1 + (xs.length : Int)).toNat = xs.length - 1 by omega]
      rfl
    · rintro σ H' ⟨v2, xs, rfl, e3, hx, hn, R⟩
      have hl0 := e1.free hl
      refine ⟨_, rfl, (by show 4 ≤ sizeLine; decide), fun p0 hp0 => ⟨p0, rfl, ⟨_, SqL.of upd_same⟩, fun D hD => ?_⟩⟩
      have e4 : Ext r H (upd H' p0 (.lst [.int 1, .int 2, .int 3, .int 4])) := e3.put (e3.free hp0) (e3.rng.ne hp0)
      have hx4 : upd H' p0 (.lst [.int 1, .int 2, .int 3, .int 4]) l = some (.lst (xs.map V.int)) := by rw [upd_ne (ne_of_none hx hp0)]; exact hx
      have s4 : ∀ o, Same (upd H' p0 (.lst [.int 1, .int 2, .int 3, .int 4])) (upd (upd H' p0 (.lst [.int 1, .int 2, .int 3, .int 4])) D o) := fun o => Same.upd (Same.refl _) hD
      refine lc_list (K := K) (a := p0) (xs := [.int 1, .int 2, .int 3, .int 4]) (fun i H2 => Same (upd H' p0 (.lst [.int 1, .int 2, .int 3, .int 4])) H2 ∧
        ∃ ys : List Int, H2 D = some (.lst (ys.map V.int)) ∧ ys.length ≤ i ∧ (0 < i → 0 < ys.length) ∧ ∀ y ∈ ys, (y = 1 ∨ y = 2 ∨ y = 3 ∨ y = 4) ∧ y ≤ xs.length)
        ⟨s4 _, [], upd_same, Nat.le_refl _, fun h => absurd h (Nat.lt_irrefl _), fun y h => by cases h⟩ (fun i H2 _ ⟨s5, _⟩ => s5.seq (SqL.of upd_same)) ?_ ?_
      · rintro i x H2 hi ⟨s5, ys, hD2, hy, hy0, hys⟩
        obtain ⟨z, rfl, hz, hz1⟩ := perV4 hi
        refine ⟨rfl, _, rfl, _, rfl, l, _, rfl, .inl (s5.seq (SqL.of hx4)), _, _, rfl, rfl, _, rfl, ?_⟩
        rw [List.length_map]
        have i5 : i < 4 := (List.getElem?_eq_some_iff.mp hi).1
        refine ifD (fun c => ?_) (fun c => ?_)
        · refine ⟨_, rfl, _, hD2, small (by rw [List.length_map]; omega), Same.upd s5 hD, ys ++ [z], ?_, by rw [List.length_append, List.length_singleton]; omega, fun _ => by rw [List.length_append, List.length_singleton]; omega, fun y h => ?_⟩
          · rw [upd_same, List.map_append]; rfl
          · rcases List.mem_append.mp h with h | h
            · exact hys y h
            · cases List.mem_singleton.mp h; exact ⟨hz, c⟩
        · refine ⟨s5, ys, hD2, by omega, fun _ => ?_, hys⟩
          by_cases i0 : i = 0
          · exact absurd (hz1 i0) (by omega)
          · exact hy0 (by omega)
      · rintro H2 ⟨s5, ys, hD2, hy, hy0, hys⟩
        have e5 := e4.same s5
        have hlen : 0 < ys.length := hy0 (by decide)
        have hy5 : ys.length ≤ 4 := hy
        refine ⟨r, D, _, rfl, e5.rng, SqL.of hD2, e4.rng.ne hD, by rw [List.length_map]; exact hlen, by rw [List.length_map]; omega, fun H3 v e6 hv => ?_⟩
        obtain ⟨p, hp, rfl⟩ := List.mem_map.mp hv
        obtain ⟨hper, hpn⟩ := hys p hp
        have hx6 := e6.keep _ _ nlr (s5 _ _ hx4)
        have e06 := e5.trans e6
        have pp : 0 < p ∧ p ≤ 4 := by omega
        refine ⟨_, rfl, _, rfl, l, _, _, _, rfl, rfl, SqL.of hx6, at_back (by omega) (by omega), (by show 1 ≤ sizeLine; decide), fun p1 hp1 => ?_⟩
        have hx7 : upd H3 p1 (.lst [.int 0]) l = some (.lst (xs.map V.int)) := by rw [upd_ne (ne_of_none hx6 hp1)]; exact hx6
        have e07 : Ext r H (upd H3 p1 (.lst [.int 0])) := e06.put (e06.free hp1) (e06.rng.ne hp1)
        refine ⟨_, rfl, p1, l, _, _, rfl, rfl, upd_same, hx7, (by rw [List.length_map, sizeLine_eq]; show 1 + xs.length ≤ _; omega), fun p2 hp2 => ?_⟩
        have hx8 : upd (upd H3 p1 (.lst [.int 0])) p2 (.lst (([.int 0] : List V) ++ xs.map V.int)) l = some (.lst (xs.map V.int)) := by rw [upd_ne (ne_of_none hx7 hp2)]; exact hx7
        have e08 : Ext r H (upd (upd H3 p1 (.lst [.int 0])) p2 (.lst (([.int 0] : List V) ++ xs.map V.int))) := e07.put (e07.free hp2) (e07.rng.ne hp2)
        have h9 : upd (upd H3 p1 (.lst [.int 0])) p2 (.lst (([.int 0] : List V) ++ xs.map V.int)) p2 = some (.lst ((0 :: xs).map V.int)) := upd_same
        refine ⟨_, rfl, l, _, rfl, .inl (SqL.of hx8), _, _, rfl, rfl, _, rfl, _, _, rfl, rfl, ?_⟩
        rw [List.length_map]
        refine ⟨p2, _, _, _, rfl, rfl, SqL.of h9, at_map (by omega) (by rw [List.length_cons]; omega), _, _, rfl, rfl, ?_⟩
        refine ⟨_, rfl, _, rfl, _, rfl, _, _, rfl, _, rfl, r, _, rfl, e08.rng, by decide, by decide, fun H9 d9 e9 y0 y1 => ⟨_, _, rfl, rfl, (by show 3 ≤ sizeLine; decide), fun t ht => ?_⟩⟩
        have hx9 := e9.keep _ _ nlr hx8
        have e09 := e08.trans e9
        have lo : ∀ i, i < xs.length → 0 ≤ xs.getD i 0 := R.lo
        have hi : ∀ i, i < xs.length → xs.getD i 0 ≤ 2 + 1 * i := R.hi
        have eidx : ((0 : Int) :: xs).getD ((xs.length : Int) + 1 - p).toNat 0 = xs.getD (xs.length - p.toNat) 0 := by
          rw [show ((xs.length : Int) + 1 - p).toNat = (xs.length - p.toNat) + 1 by omega]
          rfl
        have elast : xs.getD (-1 + (xs.length : Int)).toNat 0 = xs.getD (xs.length - 1) 0 := by
          rw [show (-1 + (xs.length : Int)).toNat = xs.length - 1 by omega]
        have a1 := hi (xs.length - 1) (by omega)
        have a2 := lo (xs.length - p.toNat) (by omega)
        refine ⟨_, rfl, t, l, xs, p, _, rfl, SqT.of upd_same, SqL.of (show upd H9 t _ l = some (.lst (xs.map V.int)) by rw [upd_ne (ne_of_none hx9 ht)]; exact hx9), by omega, hpn, by omega, fun b hb => ?_⟩
        have e10 := e09.put (o := .tup [.ref l, .int p, .int ((if xs.getD (-1 + (xs.length : Int)).toNat 0 - ((0 : Int) :: xs).getD ((xs.length : Int) + 1 - p).toNat 0 > 0 then xs.getD (-1 + (xs.length : Int)).toNat 0 - ((0 : Int) :: xs).getD ((xs.length : Int) + 1 - p).toNat 0 else 0) + d9)]) (e09.free ht) (e09.rng.ne ht)
        refine ⟨_, rfl, ?_⟩
        cases b with
        | true =>
          refine iteT ?_
          refine ⟨_, rfl, k _ t l xs p _ e10 (e09.free ht) hl0 ⟨upd_same, by rw [upd_ne (ne_of_none hx9 ht)]; exact hx9, ⟨by omega, by omega, lo, fun i h => by have := hi i h; omega, R.up, by omega, hpn, ?_, ?_, ?_⟩, ?_⟩ (hb rfl)⟩
          · split <;> omega
          · rw [eidx, elast]
            split <;> omega
          · rw [eidx, elast]
            split <;> omega
          · intro i
            by_cases c : i < xs.length
            · have := hi i c; omega
            · rw [List.getD_eq_getElem?_getD, List.getElem?_eq_none (by omega)]; decide
        | false =>
          refine iteF ?_
          refine ⟨_, rfl, rfl, fun H12 q ys s2 hq0 hq hlen hall => ⟨r, q, ys, rfl, e10.rng.same s2, SqL.of hq, e10.rng.ne hq0, by omega, by omega, fun H13 v e13 hv => ?_⟩⟩
          obtain ⟨t', l', xs', p', g', rfl, ht0, hl0', R', G'⟩ := hall v hv
          exact k H13 t' l' xs' p' g' ((e10.same s2).trans e13) (e10.free ht0) (e10.free hl0') (e13.row R' (e10.rng.same s2) (e10.rng.ne hl0')) G'
end
end VK


namespace VK
open PySem PySem.Spec PyProof.Rows L2 VM
/-- the attributes of a police -/
def pfs (c : Addr) (q h r : Int) (le : Addr) (cl : Bool) (ll : Addr) : List (Str × V) := [("_curve", V.ref c), ("_queue", V.int q), ("_held", V.int h), ("_returned", V.int r), ("_entered", V.ref le), ("_was_closed", V.bl cl), ("_limits", V.ref ll)]
theorem put_in {f g : Str} {v x : V} {r : List (Str × V)} (h : ¬ g = f) : putF f v ((g, x) :: r) = (g, x) :: putF f v r := by
  show (if g = f then _ else _) = _
  rw [if_neg h]
theorem put_at {f : Str} {v x : V} {r : List (Str × V)} : putF f v ((f, x) :: r) = (f, v) :: r := by
  show (if f = f then _ else _) = _
  rw [if_pos rfl]
theorem look_in {f g : Str} {x : V} {r : List (Str × V)} (h : (f == g) = false) : ((g, x) :: r).lookup f = r.lookup f := by
  simp [List.lookup, h]
theorem look_at {f : Str} {x : V} {r : List (Str × V)} : ((f, x) :: r).lookup f = some x := by
  simp [List.lookup]
theorem pput0 (c : Addr) : putF "_curve" (V.ref c) [] = [(("_curve" : Str), V.ref c)] := rfl
theorem pput1 (c : Addr) (q : Int) : putF "_queue" (V.int q) [(("_curve" : Str), V.ref c)] = [(("_curve" : Str), V.ref c), (("_queue" : Str), V.int q)] := by
  rw [put_in (by decide +kernel)]
  rfl
theorem pput2 (c : Addr) (q : Int) (h : Int) : putF "_held" (V.int h) [(("_curve" : Str), V.ref c), (("_queue" : Str), V.int q)] = [(("_curve" : Str), V.ref c), (("_queue" : Str), V.int q), (("_held" : Str), V.int h)] := by
  rw [put_in (by decide +kernel)]
  rw [put_in (by decide +kernel)]
  rfl
theorem pput3 (c : Addr) (q : Int) (h : Int) (r : Int) : putF "_returned" (V.int r) [(("_curve" : Str), V.ref c), (("_queue" : Str), V.int q), (("_held" : Str), V.int h)] = [(("_curve" : Str), V.ref c), (("_queue" : Str), V.int q), (("_held" : Str), V.int h), (("_returned" : Str), V.int r)] := by
  rw [put_in (by decide +kernel)]
  rw [put_in (by decide +kernel)]
  rw [put_in (by decide +kernel)]
  rfl
theorem pput4 (c : Addr) (q : Int) (h : Int) (r : Int) (le : Addr) : putF "_entered" (V.ref le) [(("_curve" : Str), V.ref c), (("_queue" : Str), V.int q), (("_held" : Str), V.int h), (("_returned" : Str), V.int r)] = [(("_curve" : Str), V.ref c), (("_queue" : Str), V.int q), (("_held" : Str), V.int h), (("_returned" : Str), V.int r), (("_entered" : Str), V.ref le)] := by
  rw [put_in (by decide +kernel)]
  rw [put_in (by decide +kernel)]
  rw [put_in (by decide +kernel)]
  rw [put_in (by decide +kernel)]
  rfl
theorem pput5 (c : Addr) (q : Int) (h : Int) (r : Int) (le : Addr) (cl : Bool) : putF "_was_closed" (V.bl cl) [(("_curve" : Str), V.ref c), (("_queue" : Str), V.int q), (("_held" : Str), V.int h), (("_returned" : Str), V.int r), (("_entered" : Str), V.ref le)] = [(("_curve" : Str), V.ref c), (("_queue" : Str), V.int q), (("_held" : Str), V.int h), (("_returned" : Str), V.int r), (("_entered" : Str), V.ref le), (("_was_closed" : Str), V.bl cl)] := by
  rw [put_in (by decide +kernel)]
  rw [put_in (by decide +kernel)]
  rw [put_in (by decide +kernel)]
  rw [put_in (by decide +kernel)]
  rw [put_in (by decide +kernel)]
  rfl
theorem pput6 (c : Addr) (q : Int) (h : Int) (r : Int) (le : Addr) (cl : Bool) (ll : Addr) : putF "_limits" (V.ref ll) [(("_curve" : Str), V.ref c), (("_queue" : Str), V.int q), (("_held" : Str), V.int h), (("_returned" : Str), V.int r), (("_entered" : Str), V.ref le), (("_was_closed" : Str), V.bl cl)] = [(("_curve" : Str), V.ref c), (("_queue" : Str), V.int q), (("_held" : Str), V.int h), (("_returned" : Str), V.int r), (("_entered" : Str), V.ref le), (("_was_closed" : Str), V.bl cl), (("_limits" : Str), V.ref ll)] := by
  rw [put_in (by decide +kernel)]
  rw [put_in (by decide +kernel)]
  rw [put_in (by decide +kernel)]
  rw [put_in (by decide +kernel)]
  rw [put_in (by decide +kernel)]
  rw [put_in (by decide +kernel)]
  rfl
theorem pset_c (c : Addr) (q h r : Int) (le : Addr) (cl : Bool) (ll : Addr) (z : Addr) : putF "_curve" (V.ref z) (pfs c q h r le cl ll) = pfs z q h r le cl ll := by
  unfold pfs
  
  rw [put_at]
theorem pget_c (c : Addr) (q h r : Int) (le : Addr) (cl : Bool) (ll : Addr) : (pfs c q h r le cl ll).lookup ("_curve" : Str) = some (V.ref c) := by
  unfold pfs
  
  rw [look_at]
theorem pset_q (c : Addr) (q h r : Int) (le : Addr) (cl : Bool) (ll : Addr) (z : Int) : putF "_queue" (V.int z) (pfs c q h r le cl ll) = pfs c z h r le cl ll := by
  unfold pfs
  rw [put_in (by decide +kernel)]
  rw [put_at]
theorem pget_q (c : Addr) (q h r : Int) (le : Addr) (cl : Bool) (ll : Addr) : (pfs c q h r le cl ll).lookup ("_queue" : Str) = some (V.int q) := by
  unfold pfs
  rw [look_in (by decide +kernel)]
  rw [look_at]
theorem pset_h (c : Addr) (q h r : Int) (le : Addr) (cl : Bool) (ll : Addr) (z : Int) : putF "_held" (V.int z) (pfs c q h r le cl ll) = pfs c q z r le cl ll := by
  unfold pfs
  rw [put_in (by decide +kernel)]
  rw [put_in (by decide +kernel)]
  rw [put_at]
theorem pget_h (c : Addr) (q h r : Int) (le : Addr) (cl : Bool) (ll : Addr) : (pfs c q h r le cl ll).lookup ("_held" : Str) = some (V.int h) := by
  unfold pfs
  rw [look_in (by decide +kernel)]
  rw [look_in (by decide +kernel)]
  rw [look_at]
theorem pset_r (c : Addr) (q h r : Int) (le : Addr) (cl : Bool) (ll : Addr) (z : Int) : putF "_returned" (V.int z) (pfs c q h r le cl ll) = pfs c q h z le cl ll := by
  unfold pfs
  rw [put_in (by decide +kernel)]
  rw [put_in (by decide +kernel)]
  rw [put_in (by decide +kernel)]
  rw [put_at]
theorem pget_r (c : Addr) (q h r : Int) (le : Addr) (cl : Bool) (ll : Addr) : (pfs c q h r le cl ll).lookup ("_returned" : Str) = some (V.int r) := by
  unfold pfs
  rw [look_in (by decide +kernel)]
  rw [look_in (by decide +kernel)]
  rw [look_in (by decide +kernel)]
  rw [look_at]
theorem pset_le (c : Addr) (q h r : Int) (le : Addr) (cl : Bool) (ll : Addr) (z : Addr) : putF "_entered" (V.ref z) (pfs c q h r le cl ll) = pfs c q h r z cl ll := by
  unfold pfs
  rw [put_in (by decide +kernel)]
  rw [put_in (by decide +kernel)]
  rw [put_in (by decide +kernel)]
  rw [put_in (by decide +kernel)]
  rw [put_at]
theorem pget_le (c : Addr) (q h r : Int) (le : Addr) (cl : Bool) (ll : Addr) : (pfs c q h r le cl ll).lookup ("_entered" : Str) = some (V.ref le) := by
  unfold pfs
  rw [look_in (by decide +kernel)]
  rw [look_in (by decide +kernel)]
  rw [look_in (by decide +kernel)]
  rw [look_in (by decide +kernel)]
  rw [look_at]
theorem pset_cl (c : Addr) (q h r : Int) (le : Addr) (cl : Bool) (ll : Addr) (z : Bool) : putF "_was_closed" (V.bl z) (pfs c q h r le cl ll) = pfs c q h r le z ll := by
  unfold pfs
  rw [put_in (by decide +kernel)]
  rw [put_in (by decide +kernel)]
  rw [put_in (by decide +kernel)]
  rw [put_in (by decide +kernel)]
  rw [put_in (by decide +kernel)]
  rw [put_at]
theorem pget_cl (c : Addr) (q h r : Int) (le : Addr) (cl : Bool) (ll : Addr) : (pfs c q h r le cl ll).lookup ("_was_closed" : Str) = some (V.bl cl) := by
  unfold pfs
  rw [look_in (by decide +kernel)]
  rw [look_in (by decide +kernel)]
  rw [look_in (by decide +kernel)]
  rw [look_in (by decide +kernel)]
  rw [look_in (by decide +kernel)]
  rw [look_at]
theorem pset_ll (c : Addr) (q h r : Int) (le : Addr) (cl : Bool) (ll : Addr) (z : Addr) : putF "_limits" (V.ref z) (pfs c q h r le cl ll) = pfs c q h r le cl z := by
  unfold pfs
  rw [put_in (by decide +kernel)]
  rw [put_in (by decide +kernel)]
  rw [put_in (by decide +kernel)]
  rw [put_in (by decide +kernel)]
  rw [put_in (by decide +kernel)]
  rw [put_in (by decide +kernel)]
  rw [put_at]
theorem pget_ll (c : Addr) (q h r : Int) (le : Addr) (cl : Bool) (ll : Addr) : (pfs c q h r le cl ll).lookup ("_limits" : Str) = some (V.ref ll) := by
  unfold pfs
  rw [look_in (by decide +kernel)]
  rw [look_in (by decide +kernel)]
  rw [look_in (by decide +kernel)]
  rw [look_in (by decide +kernel)]
  rw [look_in (by decide +kernel)]
  rw [look_in (by decide +kernel)]
  rw [look_at]
theorem pno (c : Addr) (q h r : Int) (le : Addr) (cl : Bool) (ll : Addr) {m : Str} (h0 : (m == ("_curve" : Str)) = false) (h1 : (m == ("_queue" : Str)) = false) (h2 : (m == ("_held" : Str)) = false) (h3 : (m == ("_returned" : Str)) = false) (h4 : (m == ("_entered" : Str)) = false) (h5 : (m == ("_was_closed" : Str)) = false) (h6 : (m == ("_limits" : Str)) = false) : (pfs c q h r le cl ll).lookup m = none := by
  unfold pfs
  rw [look_in h0, look_in h1, look_in h2, look_in h3, look_in h4, look_in h5, look_in h6]
  rfl
theorem pfs_length (c : Addr) (q h r : Int) (le : Addr) (cl : Bool) (ll : Addr) : (pfs c q h r le cl ll).length = 7 := rfl
/-- a police at x: its own lists at le and ll -/
structure PolAt (A : Ad) (H : Hp) (x c : Addr) (cs : List Int) (p g q h r : Int) (cl : Bool) (es : List Int) (dx le ll : Addr) : Prop where
  obj : H x = some (.ins A.Police dx (pfs c q h r le cl ll))
  crv' : ∃ dc lc, H c = some (.ins A.Curve dc (cfs lc p g true)) ∧ H lc = some (.lst (cs.map V.int)) ∧ lc ≠ le ∧ lc ≠ ll ∧ c ≠ x
  ent : H le = some (.lst (es.map V.int))
  lim : H ll = some (.lst ((row (fun s => cvAt cs p g (1 + s)) es.length).map V.int))
  two : le ≠ ll
theorem PolAt.crv {A : Ad} {H : Hp} {x c : Addr} {cs : List Int} {p g q h r : Int} {cl : Bool} {es : List Int} {dx le ll : Addr} (P : PolAt A H x c cs p g q h r cl es dx le ll) : CrvAt A H c cs p g := by
  obtain ⟨dc, lc, a, b, _⟩ := P.crv'
  exact ⟨dc, lc, true, a, b⟩
theorem PolAt.srch {A : Ad} {H : Hp} {x c : Addr} {cs : List Int} {p g q h r : Int} {cl : Bool} {es : List Int} {dx le ll : Addr} (P : PolAt A H x c cs p g q h r cl es dx le ll) : Srch A H c := by
  obtain ⟨dc, lc, a, b, _⟩ := P.crv'
  exact ⟨dc, lc, p, g, a⟩
theorem PolAt.same {A : Ad} {H H' : Hp} {x c : Addr} {cs : List Int} {p g q h r : Int} {cl : Bool} {es : List Int} {dx le ll : Addr} (P : PolAt A H x c cs p g q h r cl es dx le ll) (s : Same H H') : PolAt A H' x c cs p g q h r cl es dx le ll := by
  obtain ⟨dc, lc, a, b, d, e, f⟩ := P.crv'
  exact ⟨s _ _ P.obj, ⟨dc, lc, s _ _ a, s _ _ b, d, e, f⟩, s _ _ P.ent, s _ _ P.lim, P.two⟩
theorem PolAt.ne {A : Ad} {H : Hp} {x c : Addr} {cs : List Int} {p g q h r : Int} {cl : Bool} {es : List Int} {dx le ll : Addr} (P : PolAt A H x c cs p g q h r cl es dx le ll) : le ≠ x ∧ ll ≠ x ∧ c ≠ le ∧ c ≠ ll := by
  obtain ⟨dc, lc, hc, _⟩ := P.crv'
  refine ⟨fun z => ?_, fun z => ?_, fun z => ?_, fun z => ?_⟩
  · have a := P.ent; rw [z, P.obj] at a; cases a
  · have a := P.lim; rw [z, P.obj] at a; cases a
  · have a := P.ent; rw [← z, hc] at a; cases a
  · have a := P.lim; rw [← z, hc] at a; cases a
/-- the first window, by its length, that ends with the last tick and in which one more would be too many -/
def bindM (f : Int → Int) (us : List Int) : Option (Int × Int) :=
  (firstN (fun i => decide (f ((i : Int) + 1) < tl us (i + 1) + 1)) us.length 0).map fun i => ((i : Int) + 1, (us.length : Int) - ((i : Int) + 1))
/-- a pair as a value: None, or a new tuple -/
def Duo (H H' : Hp) (v : V) : Option (Int × Int) → Prop
  | none => v = .non
  | some (a, b) => ∃ t, v = .ref t ∧ H t = none ∧ H' t = some (.tup [.int a, .int b])
def sp_P_init (_ : PySem.W.Frag) (A : Ad) : Sp := fun vs H Q _ => ∃ (x dx c : Addr) (cs : List Int) (p g q : Int), vs = [.ref x, .ref c, .int q] ∧ H x = some (.ins A.Police dx []) ∧
  CrvAt A H c cs p g ∧ 0 < p ∧ p ≤ cs.length ∧ cs.length ≤ 1000 ∧ GoodC (cvAt cs p g) cs.length ∧ 0 ≤ q ∧ c ≠ x ∧
  ∀ H' le ll, (∀ b o, b ≠ x → (b = c → Srch A H c) → H b = some o → H' b = some o) → (∀ d l p g w, H c = some (.ins A.Curve d (cfs l p g w)) → H' c = some (.ins A.Curve d (cfs l p g true))) → H le = none → H ll = none → le ≠ ll → le ≠ x → ll ≠ x → PolAt A H' x c cs p g q 0 0 false [] dx le ll → Q .non H'
def sp_P_held (_ : PySem.W.Frag) (A : Ad) : Sp := fun vs H Q _ => ∃ (x c : Addr) (q h r : Int) (cl : Bool) (dx le ll : Addr), vs = [.ref x] ∧ H x = some (.ins A.Police dx (pfs c q h r le cl ll)) ∧ Q (.int h) H
def sp_P_record (_ : PySem.W.Frag) (A : Ad) : Sp := fun vs H Q _ => ∃ (x c : Addr) (q h r : Int) (cl : Bool) (dx le ll : Addr) (es : List Int), vs = [.ref x] ∧ H x = some (.ins A.Police dx (pfs c q h r le cl ll)) ∧ H le = some (.lst (es.map V.int)) ∧
  ∀ H' u, Same H H' → H u = none → H' u = some (.lst (es.map V.int)) → Q (.ref u) H'
section
variable {P : Program} {w : World} {K : PySem.W.Frag} {mg : Str → Option Value} {base : Heap} {A : Ad}
theorem ok_P_init (T : Txt K mg A) : FnOk P w K mg base CX0 7 A.f_P_init A.d_P_init ["self", "curve", "queue"] (sp_P_init K A) := by
  have G_require_count := ok_require_count (P := P) (w := w) (base := base) T
  have G_require_good := ok_require_good (P := P) (w := w) (base := base) T
  refine T.F_P_init.ok sc_P_init (fun vs H Q E h => ?_) (fun cdv A0 outer s H vs Q E hr h => ?_)
  · obtain ⟨x, dx, c, cs, p, g, q, rfl, hx, hC, hp, hpn, hn, hg, hq, ncx, k⟩ := h
    rfl
  · obtain ⟨x, dx, c, cs, p, g, q, rfl, hx, hC, hp, hpn, hn, hg, hq, ncx, k⟩ := h
    refine ⟨_, (pss_cons (ps_expr (pe_call G_require_good (hr.mono (by decide)) rfl T.m_require_good T.k_require_good T.b_require_good .nil pass0 (pa_cons (pv 1) pa_nil)))
    (pss_cons (ps_expr (pe_call G_require_count (hr.mono (by decide)) rfl T.m_require_count T.k_require_count T.b_require_count .nil pass0 (pa_cons (pv 2) pa_nil)))
    (pss_cons (ps_fld (pv 0) (pv 1) rfl)
    (pss_cons (ps_fld (pv 0) (pv 2) rfl)
    (pss_cons (ps_fld (pv 0) pe_int rfl)
    (pss_cons (ps_fld (pv 0) pe_int rfl)
    (pss_cons (ps_fld (pv 0) (pe_lst pa_nil) rfl)
    (pss_cons (ps_fld (pv 0) pe_bl rfl)
    (pss_one (ps_fld (pv 0) (pe_lst pa_nil) rfl)))))))))), ?_⟩
    refine ⟨_, rfl, c, cs, p, g, rfl, hC, hp, hpn, hn, hg, fun H1 s1 => ?_⟩
    have hx1 := s1.ne (Ne.symm ncx) hx
    refine ⟨_, rfl, q, rfl, hq, ?_⟩
    refine ⟨_, rfl, _, rfl, x, _, dx, _, rfl, hx1, T.clPolice, T.n_curve, (by show 0 < 1000; decide), ?_⟩
    rw [pput0]
    refine ⟨_, rfl, _, rfl, x, _, dx, _, rfl, upd_same, T.clPolice, T.n_queue, (by show 1 < 1000; decide), ?_⟩
    rw [pput1]
    refine ⟨_, rfl, x, _, dx, _, rfl, upd_same, T.clPolice, T.n_held, (by show 2 < 1000; decide), ?_⟩
    rw [pput2]
    refine ⟨_, rfl, x, _, dx, _, rfl, upd_same, T.clPolice, T.n_returned, (by show 3 < 1000; decide), ?_⟩
    rw [pput3]
    refine ⟨(by show 0 ≤ sizeLine; decide), fun le hle => ?_⟩
    have nle : le ≠ x := fun z => by rw [z, upd_same] at hle; cases hle
    refine ⟨_, rfl, x, _, dx, _, rfl, (upd_ne (Ne.symm nle)).trans upd_same, T.clPolice, T.n_entered, (by show 4 < 1000; decide), ?_⟩
    rw [pput4]
    refine ⟨_, rfl, x, _, dx, _, rfl, upd_same, T.clPolice, T.n_was_closed, (by show 5 < 1000; decide), ?_⟩
    rw [pput5]
    refine ⟨(by show 0 ≤ sizeLine; decide), fun ll hll => ?_⟩
    have nll : ll ≠ x := fun z => by rw [z, upd_same] at hll; cases hll
    have nel : le ≠ ll := fun z => by rw [← z, upd_ne nle, upd_ne nle, upd_same] at hll; cases hll
    refine ⟨_, rfl, x, _, dx, _, rfl, (upd_ne (Ne.symm nll)).trans upd_same, T.clPolice, T.n_limits, (by show 6 < 1000; decide), ?_⟩
    rw [pput6]
    have hle0 : H1 le = none := by
      rw [upd_ne nle, upd_ne nle, upd_ne nle, upd_ne nle] at hle; exact hle
    have hll0 : H1 ll = none := by
      rw [upd_ne nll, upd_ne nll, upd_ne (Ne.symm nel), upd_ne nll, upd_ne nll, upd_ne nll, upd_ne nll] at hll; exact hll
    have keep : ∀ b o, b ≠ x → H1 b = some o → ∀ o1 o2 o3 o4 o5 o6 o7 o8 o9, upd (upd (upd (upd (upd (upd (upd (upd (upd H1 x o1) x o2) x o3) x o4) le o5) x o6) x o7) ll o8) x o9 b = some o := by
      intro b o hb e o1 o2 o3 o4 o5 o6 o7 o8 o9
      rw [upd_ne hb, upd_ne (ne_of_none e hll0), upd_ne hb, upd_ne hb, upd_ne (ne_of_none e hle0), upd_ne hb, upd_ne hb, upd_ne hb, upd_ne hb]
      exact e
    obtain ⟨dc, lc, w0, c10, c20⟩ := hC
    have c1 := s1.obj _ _ _ _ _ c10
    have c2 := s1.ne (ne_of c20 c10 (fun z => by cases z)) c20
    have nlc : lc ≠ x := fun z => by rw [z, hx1] at c2; cases c2
    refine k _ le ll (fun b o hb n e => keep b o hb (s1.keep b o n e) _ _ _ _ _ _ _ _ _) (fun d l p' g' w' e => keep _ _ ncx (s1.obj _ _ _ _ _ e) _ _ _ _ _ _ _ _ _) (s1.free hle0) (s1.free hll0) nel nle nll ⟨upd_same, ⟨dc, lc, keep _ _ ncx c1 _ _ _ _ _ _ _ _ _, keep _ _ nlc c2 _ _ _ _ _ _ _ _ _, ne_of_none c2 hle0, ne_of_none c2 hll0, ncx⟩, ?_, ?_, nel⟩
    · rw [upd_ne nle, upd_ne nel, upd_ne nle, upd_ne nle, upd_same]; rfl
    · rw [upd_ne nll, upd_same]; rfl
theorem ok_P_record (T : Txt K mg A) : FnOk P w K mg base CX0 1 A.f_P_record A.d_P_record ["self"] (sp_P_record K A) := by
  refine T.F_P_record.ok sc_P_record (fun vs H Q E h => ?_) (fun cdv A0 outer s H vs Q E hr h => ?_)
  · obtain ⟨x, c, q, h, r, cl, dx, le, ll, es, rfl, hx, he, k⟩ := h
    rfl
  · obtain ⟨x, c, q, h, r, cl, dx, le, ll, es, rfl, hx, he, k⟩ := h
    refine ⟨_, (pss_one (ps_ret (pe_callTy (r := VG.rListOf K) VG.call_listOf (by rfl) T.list (by decide +kernel) (pa_cons (pe_fld (pv 0) rfl) pa_nil)))), ?_⟩
    refine ⟨_, rfl, x, _, dx, _, _, rfl, hx, T.clPolice, T.n_entered, pget_le _ _ _ _ _ _ _, le, _, rfl, .inl (SqL.of he), fun u hu => ?_⟩
    exact k _ u (Same.upd (Same.refl _) hu) hu upd_same
end
end VK


namespace VK
open PySem PySem.Spec PyProof.Rows L2 VM
/-- how many enter in a tick -/
def stE (f : Int → Int) (es : List Int) (h u k : Int) (cz : Bool) : Int := if cz = true then 0 else min (h + u) (max 0 (freeM f es) + k)
def sp_P_step (_ : PySem.W.Frag) (A : Ad) : Sp := fun vs H Q _ => ∃ (x c : Addr) (cs : List Int) (p g q h r : Int) (cl : Bool) (es : List Int) (dx le ll : Addr) (u k : Int) (cz : Bool), vs = [.ref x, .int u, .int k, .bl cz] ∧
  PolAt A H x c cs p g q h r cl es dx le ll ∧ 0 < p ∧ p ≤ cs.length ∧ cs.length ≤ 1000 ∧ es.length ≤ 900 ∧ 0 ≤ u ∧ 0 ≤ k ∧
  ∀ H' t, (∀ b o, b ≠ x → b ≠ le → b ≠ ll → H b = some o → H' b = some o) → H t = none →
    H' t = some (.tup [.int (stE (cvAt cs p g) es h u k cz), .int (h + u - stE (cvAt cs p g) es h u k cz - min (h + u - stE (cvAt cs p g) es h u k cz) q)]) →
    PolAt A H' x c cs p g q (min (h + u - stE (cvAt cs p g) es h u k cz) q) (r + (h + u - stE (cvAt cs p g) es h u k cz - min (h + u - stE (cvAt cs p g) es h u k cz) q)) cz (es ++ [stE (cvAt cs p g) es h u k cz]) dx le ll → Q (.ref t) H'
section
variable {P : Program} {w : World} {K : PySem.W.Frag} {mg : Str → Option Value} {base : Heap} {A : Ad}
theorem min_if {a b : Int} : (if b < a then b else a) = min a b := by split <;> omega
theorem ok_P_step (T : Txt K mg A) : FnOk P w K mg base CX0 5 A.f_P_step A.d_P_step ["self", "units", "leak", "closed"] (sp_P_step K A) := by
  have G_C_at := ok_C_at (P := P) (w := w) (base := base) T
  have G_free_after := ok_free_after (P := P) (w := w) (base := base) T
  have G_require_count := ok_require_count (P := P) (w := w) (base := base) T
  refine T.F_P_step.ok sc_P_step (fun vs H Q E h => ?_) (fun cdv A0 outer s H vs Q E hr h => ?_)
  · obtain ⟨x, c, cs, p, g, q, h, r, cl, es, dx, le, ll, u, k, cz, rfl, PA, hp, hpn, hn, hes, hu, hk, kk⟩ := h
    rfl
  · obtain ⟨x, c, cs, p, g, q, h, r, cl, es, dx, le, ll, u, k, cz, rfl, PA, hp, hpn, hn, hes, hu, hk, kk⟩ := h
    refine ⟨_, (pss_cons (ps_expr (pe_call G_require_count (hr.mono (by decide)) rfl T.m_require_count T.k_require_count T.b_require_count .nil pass0 (pa_cons (pv 1) pa_nil)))
    (pss_cons (ps_expr (pe_call G_require_count (hr.mono (by decide)) rfl T.m_require_count T.k_require_count T.b_require_count .nil pass0 (pa_cons (pv 2) pa_nil)))
    (pss_cons (ps_expr (pe_bm PySem.F.plainAttrs_list PySem.F.slot_list_append PySem.F.type_list_append mt_append (pe_fld (pv 0) rfl) (pa_cons (pe_meth (pe_fld (pv 0) rfl) T.cl T.me_at G_C_at (hr.mono (by decide)) T.b_C_at .nil pass0 (pa_cons (pe_op op_add (pe_callB (r := VG.rLen K) VG.call_len (by rfl) T.len (by decide +kernel) (pa_cons (pe_fld (pv 0) rfl) pa_nil)) pe_int) pa_nil)) pa_nil)))
    (pss_cons (ps_set (i := 4) sc_P_step.nd rfl (by first | exact Or.inl rfl | exact Or.inr rfl) (pe_op op_add (pe_fld (pv 0) rfl) (pv 1)))
    (pss_cons (ps_set (i := 5) sc_P_step.nd rfl (by first | exact Or.inl rfl | exact Or.inr rfl) pe_int)
    (VG.pss_join (ps_if (pt_not (pt_val (pv 3))) (pss_cons (ps_set (i := 6) sc_P_step.nd rfl (by first | exact Or.inl rfl | exact Or.inr rfl) (pe_callB (call_max2 rfl) (by rfl) T.max (by decide +kernel) (pa_cons pe_int (pa_cons (pe_call G_free_after (hr.mono (by decide)) rfl T.m_free_after T.k_free_after T.b_free_after .nil pass0 (pa_cons (pe_fld (pv 0) rfl) (pa_cons (pe_fld (pv 0) rfl) pa_nil))) pa_nil))))
    (pss_one (ps_set (i := 5) sc_P_step.nd rfl (by first | exact Or.inl rfl | exact Or.inr rfl) (pe_callB (call_min2 rfl) (by rfl) T.min (by decide +kernel) (pa_cons (pv 4) (pa_cons (pe_op op_add (pv 6) (pv 2)) pa_nil)))))) pss_nil)
    (pss_cons (ps_set (i := 7) sc_P_step.nd rfl (by first | exact Or.inl rfl | exact Or.inr rfl) (pe_op op_sub (pv 4) (pv 5)))
    (pss_cons (ps_fld (pv 0) (pe_callB (call_min2 rfl) (by rfl) T.min (by decide +kernel) (pa_cons (pv 7) (pa_cons (pe_fld (pv 0) rfl) pa_nil))) rfl)
    (pss_cons (ps_set (i := 8) sc_P_step.nd rfl (by first | exact Or.inl rfl | exact Or.inr rfl) (pe_op op_sub (pv 7) (pe_fld (pv 0) rfl)))
    (pss_cons (ps_fldaug (pv 0) (pv 8) in_add)
    (pss_cons (ps_expr (pe_bm PySem.F.plainAttrs_list PySem.F.slot_list_append PySem.F.type_list_append mt_append (pe_fld (pv 0) rfl) (pa_cons (pv 5) pa_nil)))
    (pss_cons (ps_fld (pv 0) (pv 3) rfl)
    (pss_one (ps_ret (pe_tup (pa_cons (pv 5) (pa_cons (pv 8) pa_nil))))))))))))))))), ?_⟩
    obtain ⟨dc, lc, hc, hlc, n1, n2, ncx⟩ := PA.crv'
    obtain ⟨nle, nll, nce, ncl⟩ := PA.ne
    have hx := PA.obj
    have two := PA.two
    have nlx : lc ≠ x := fun z => by rw [z, hx] at hlc; cases hlc
    refine ⟨_, rfl, u, rfl, hu, ?_⟩
    refine ⟨_, rfl, k, rfl, hk, ?_⟩
    refine ⟨_, rfl, x, _, dx, _, _, rfl, hx, T.clPolice, T.n_limits, pget_ll _ _ _ _ _ _ _, .inl ⟨rfl, _, SqL.of PA.lim⟩, _, rfl, x, _, dx, _, _, rfl, hx, T.clPolice, T.n_curve, pget_c _ _ _ _ _ _ _, c, dc, _, rfl, hc, cfs_no _ _ _ (by decide +kernel) (by decide +kernel) (by decide +kernel),
      _, rfl, x, _, dx, _, _, rfl, hx, T.clPolice, T.n_entered, pget_le _ _ _ _ _ _ _, le, _, rfl, .inl (SqL.of PA.ent), _, _, rfl, rfl, c, cs, p, g, _, rfl, PA.crv, hp, hpn, hn, by omega, by rw [List.length_map]; omega, ll, _, _, rfl, rfl, PA.lim, small (by rw [List.length_map, row_length]; omega), ?_⟩
    have hl1 : upd H ll (.lst ((row (fun s => cvAt cs p g (1 + s)) es.length).map V.int ++ [V.int (cvAt cs p g (((es.map V.int).length : Int) + 1))])) ll = some (.lst ((row (fun s => cvAt cs p g (1 + s)) (es.length + 1)).map V.int)) := by
      rw [upd_same, rowI_succ, List.length_map, show (es.length : Int) + 1 = 1 + es.length by omega]
    have k1 : ∀ b o, b ≠ ll → H b = some o → upd H ll (.lst ((row (fun s => cvAt cs p g (1 + s)) es.length).map V.int ++ [V.int (cvAt cs p g (((es.map V.int).length : Int) + 1))])) b = some o := fun b o hb e => (upd_ne hb).trans e
    have f1 : ∀ b, upd H ll (.lst ((row (fun s => cvAt cs p g (1 + s)) es.length).map V.int ++ [V.int (cvAt cs p g (((es.map V.int).length : Int) + 1))])) b = none → H b = none := fun b e => by
      by_cases z : b = ll
      · rw [z, upd_same] at e; cases e
      · rw [upd_ne z] at e; exact e
    generalize upd H ll (.lst ((row (fun s => cvAt cs p g (1 + s)) es.length).map V.int ++ [V.int (cvAt cs p g (((es.map V.int).length : Int) + 1))])) = H1 at *
    have hx1 := k1 _ _ (Ne.symm nll) hx
    have he1 := k1 _ _ two PA.ent
    refine ⟨_, rfl, x, _, dx, _, _, rfl, hx1, T.clPolice, T.n_held, pget_h _ _ _ _ _ _ _, _, rfl, _, _, rfl, rfl, ?_⟩
    refine ⟨fun σ' H2 => ∃ v6, σ' = [some (.ref x), some (.int u), some (.int k), some (.bl cz), some (.int (h + u)), some (.int (stE (cvAt cs p g) es h u k cz)), v6, none, none] ∧ Same H1 H2, ?_, ?_⟩
    · refine ⟨_, rfl, _, rfl, ?_⟩
      cases cz with
      | true => exact iteF ⟨_, rfl, Same.refl _⟩
      | false =>
        refine iteT ?_
        refine ⟨_, rfl, x, _, dx, _, _, rfl, hx1, T.clPolice, T.n_entered, pget_le _ _ _ _ _ _ _, _, rfl, x, _, dx, _, _, rfl, hx1, T.clPolice, T.n_limits, pget_ll _ _ _ _ _ _ _, le, ll, es, cvAt cs p g, es.length + 1, rfl, SqL.of he1, SqL.of hl1, by omega, by omega, fun H2 s2 => ⟨_, _, rfl, ?_⟩⟩
        refine ⟨_, rfl, _, rfl, _, rfl, _, _, rfl, rfl, _, _, rfl, ?_⟩
        refine ⟨some (.int (max 0 (freeM (cvAt cs p g) es))), ?_, s2⟩
        have e1 : (if freeM (cvAt cs p g) es > 0 then freeM (cvAt cs p g) es else 0) = max 0 (freeM (cvAt cs p g) es) := by split <;> omega
        rw [e1, min_if]
        rfl
    rintro σ' H2 ⟨v6, rfl, s2⟩
    generalize he : stE (cvAt cs p g) es h u k cz = e at *
    have hx2 := s2 _ _ hx1
    have hle2 := s2 _ _ he1
    have hll2 := s2 _ _ hl1
    refine ⟨_, rfl, _, rfl, _, _, rfl, rfl, ?_⟩
    refine ⟨_, rfl, _, rfl, x, _, dx, _, _, rfl, hx2, T.clPolice, T.n_queue, pget_q _ _ _ _ _ _ _, _, _, rfl, _, rfl, x, _, dx, _, rfl, hx2, T.clPolice, T.n_held, (by show 7 < 1000; decide), ?_⟩
    rw [min_if, pset_h]
    refine ⟨_, rfl, _, rfl, x, _, dx, _, _, rfl, upd_same, T.clPolice, T.n_held, pget_h _ _ _ _ _ _ _, _, _, rfl, rfl, ?_⟩
    refine ⟨_, rfl, x, _, dx, _, _, rfl, upd_same, T.clPolice, T.n_returned, pget_r _ _ _ _ _ _ _, _, rfl, _, _, rfl, rfl, dx, _, upd_same, (by show 7 < 1000; decide), ?_⟩
    rw [pset_r]
    refine ⟨_, rfl, x, _, dx, _, _, rfl, upd_same, T.clPolice, T.n_entered, pget_le _ _ _ _ _ _ _, .inl ⟨rfl, _, SqL.of ((upd_ne nle).trans ((upd_ne nle).trans hle2))⟩, _, rfl, le, _, _, rfl, rfl, (upd_ne nle).trans ((upd_ne nle).trans hle2), small (by rw [List.length_map]; omega), ?_⟩
    refine ⟨_, rfl, _, rfl, x, _, dx, _, rfl, (upd_ne (Ne.symm nle)).trans upd_same, T.clPolice, T.n_was_closed, (by show 7 < 1000; decide), ?_⟩
    rw [pset_cl]
    refine ⟨_, rfl, _, rfl, (by show 2 ≤ sizeLine; decide), fun t ht => ?_⟩
    have ntx : t ≠ x := fun z => by rw [z, upd_same] at ht; cases ht
    rw [upd_ne ntx] at ht
    have ntl : t ≠ le := fun z => by rw [z, upd_same] at ht; cases ht
    rw [upd_ne ntl, upd_ne ntx, upd_ne ntx] at ht
    have ht0 : H t = none := f1 _ (s2.free ht)
    have ntL : ll ≠ t := fun z => by rw [← z, hll2] at ht; cases ht
    refine kk _ t (fun b o b1 b2 b3 e0 => ?_) ht0 upd_same ⟨?_, ⟨dc, lc, ?_, ?_, n1, n2, ncx⟩, ?_, ?_, two⟩
    · have e2 := s2 _ _ (k1 _ _ b3 e0)
      rw [upd_ne (ne_of_none e2 ht), upd_ne b1, upd_ne b2, upd_ne b1, upd_ne b1]; exact e2
    · rw [upd_ne (Ne.symm ntx), upd_same]
    · have e2 := s2 _ _ (k1 _ _ ncl hc)
      rw [upd_ne (ne_of_none e2 ht), upd_ne ncx, upd_ne nce, upd_ne ncx, upd_ne ncx]; exact e2
    · have e2 := s2 _ _ (k1 _ _ n2 hlc)
      rw [upd_ne (ne_of_none e2 ht), upd_ne nlx, upd_ne n1, upd_ne nlx, upd_ne nlx]; exact e2
    · rw [upd_ne (Ne.symm ntl), upd_ne nle, upd_same, List.map_append]; rfl
    · rw [upd_ne ntL, upd_ne nll, upd_ne (Ne.symm two), upd_ne nll, upd_ne nll, hll2, List.length_append]; rfl
end
end VK


namespace VK
open PySem PySem.Spec PyProof.Rows L2 VM
theorem cut_from {us : List Int} {s : Nat} (h : s ≤ us.length) : cutV (us.map V.int) (some (s : Int)) none = (us.drop s).map V.int := by
  unfold cutV
  rw [HT.sIx_nat, HT.sIx_none, List.length_map, Nat.min_eq_left h, List.take_of_length_le (by rw [List.length_drop, List.length_map]; omega), List.map_drop]
theorem sum_from {us : List Int} {k : Nat} (h : k ≤ us.length) : (us.drop (us.length - k)).sum = tl us k := by
  have e := sum_cut us (us.length - k) k
  rw [List.take_of_length_le (by rw [List.length_drop]; omega)] at e
  rw [e]
  unfold tl
  rw [show ((us.length - k : Nat) : Int) = (us.length : Int) - k by omega]
theorem shaped_ints (us : List Int) : SeqAt.shaped (.list (us.map PyData.int)) = true := by
  have a : ∀ us : List Int, PyData.canLayAll0 (us.map PyData.int) = true := by
    intro us
    induction us with
    | nil => rfl
    | cons u us ih =>
      simp only [List.map_cons, PyData.canLayAll0, ih, Bool.and_true]
      rfl
  have b : ∀ us : List Int, PyData.depthAll (us.map PyData.int) ≤ 1 := by
    intro us
    induction us with
    | nil => exact Nat.zero_le _
    | cons u us ih =>
      simp only [List.map_cons, PyData.depthAll, PyData.depth]
      omega
  have c := b us
  refine Bool.and_eq_true_iff.mpr ⟨?_, decide_eq_true ?_⟩
  · simp only [PyData.canLay0]; exact a us
  · simp only [PyData.depth]; omega
theorem dp_ints {K : PySem.W.Frag} {H : Hp} : ∀ us : List Int, DpAll K H (us.map V.int) (us.map PyData.int)
  | [] => .nil
  | u :: us => .cons (.int u) (dp_ints us)
theorem eqvA_ints : ∀ a b : List Int, PyData.eqvAll (a.map PyData.int) (b.map PyData.int) = decide (a = b)
  | [], [] => by simp [PyData.eqvAll]
  | [], _ :: _ => by simp [PyData.eqvAll]
  | _ :: _, [] => by simp [PyData.eqvAll]
  | x :: a, y :: b => by
    simp only [List.map_cons, PyData.eqvAll, PyData.eqv, eqvA_ints a b]
    by_cases h : x = y <;> by_cases h2 : a = b <;> simp [h, h2]
theorem eqv_ints (a b : List Int) : PyData.eqv (.list (a.map PyData.int)) (.list (b.map PyData.int)) = decide (a = b) := by
  simp only [PyData.eqv]
  exact eqvA_ints a b
theorem kb_queue {K : PySem.W.Frag} {mg : Str → Option Value} {A : Ad} (T : Txt K mg A) : ∃ mv : List Value, KBn K A.d_P_init ["self", "curve", "queue"] 2 ["queue"] (fun us ws => us ++ ws) (fun vs zs => vs ++ zs) := by
  obtain ⟨mv, h⟩ := T.F_P_init.kbinds0 (ps := ["self", "curve", "queue"]) 2 ["queue"] [] (fun us _ ws => us ++ ws) (by simp) (by simp) (fun a _ c => a.append c)
    (fun D doc pm an cdv ct us mv ws h1 h2 h3 => match us, mv, ws, h1, h2, h3 with | [_, _], [], [_], _, _, _ => rfl)
  exact ⟨mv, h⟩
theorem db_step {K : PySem.W.Frag} {mg : Str → Option Value} {A : Ad} (T : Txt K mg A) : ∃ ds, Vals [V.int 0, V.bl false] ds ∧ Binds K A.d_P_step ["self", "units", "leak", "closed"] ds :=
  T.F_P_step.binds0 (ps := ["self", "units", "leak", "closed"]) 2 (by simp) rfl (fun D doc pm an cdv ct us ks h1 h2 => match us, ks, h1, h2 with | [_, _], [_, _], _, _ => ⟨_, _, _, _, _, _, rfl, rfl, _, _, _, _, _, _, rfl, rfl, rfl⟩)
def sp_greedy (_ : PySem.W.Frag) (A : Ad) : Sp := fun vs H Q _ => ∃ (x : Addr) (cs : List Int) (p g : Int) (n : Nat), vs = [.ref x, .int n] ∧ CrvAt A H x cs p g ∧ 0 < p ∧ p ≤ cs.length ∧ cs.length ≤ 1000 ∧ GoodC (cvAt cs p g) cs.length ∧ n ≤ 400 ∧
  ∀ H' q, Kp A x H H' → H q = none → H' q = some (.lst ((greedyM (cvAt cs p g) n).map V.int)) → Q (.ref q) H'
def sp_l_sums (K : PySem.W.Frag) (_ : Ad) : Sp := fun vs H Q _ => ∃ (u : Addr) (us : List Int), vs = [.ref u] ∧ SqL K H u (us.map V.int) ∧ us.length ≤ 1000 ∧
  ∀ H' q, Same H H' → H q = none → H' q = some (.lst ((row (fun i => pre us (i + 1)) us.length).map V.int)) → Q (.ref q) H'
section
variable {P : Program} {w : World} {K : PySem.W.Frag} {mg : Str → Option Value} {base : Heap} {A : Ad}
theorem ok_greedy (T : Txt K mg A) : FnOk P w K mg base CX0 7 A.f_greedy A.d_greedy ["curve", "ticks"] (sp_greedy K A) := by
  have G_C_at := ok_C_at (P := P) (w := w) (base := base) T
  have G_require_count_to := ok_require_count_to (P := P) (w := w) (base := base) T
  have G_require_good := ok_require_good (P := P) (w := w) (base := base) T
  refine T.F_greedy.ok sc_greedy (fun vs H Q E h => ?_) (fun cdv A0 outer s H vs Q E hr h => ?_)
  · obtain ⟨x, cs, p, g, n, rfl, hC, hp, hpn, hn, hg, hl, k⟩ := h
    rfl
  · obtain ⟨x, cs, p, g, n, rfl, hC, hp, hpn, hn, hg, hl, k⟩ := h
    refine ⟨_, (pss_cons (ps_expr (pe_call G_require_good (hr.mono (by decide)) rfl T.m_require_good T.k_require_good T.b_require_good .nil pass0 (pa_cons (pv 0) pa_nil)))
    (pss_cons (ps_expr (pe_call G_require_count_to (hr.mono (by decide)) rfl T.m_require_count_to T.k_require_count_to T.b_require_count_to .nil pass0 (pa_cons (pv 1) (pa_cons (pe_glob (v := .int 400) rfl T.v_MAX_TICKS ⟨_, rfl⟩) pa_nil))))
    (pss_one (ps_ret (pe_lc (own := [("tick", 2)]) (g := gName 2) (tt := tYes) rfl sc_greedy.nd (pi_range1 rfl T.range (pa_cons (pv 1) pa_nil)) (blkOk_by (own := [("tick", 2)]) (N := ["curve", "ticks", "tick"]) (sc := defScope s_greedy) (by decide +kernel)) (fun _ _ _ _ _ => pg_name (i := 2) sc_greedy.nd rfl (Or.inl rfl)) (fun _ _ _ _ _ => pts_nil) (fun _ _ _ _ _ => (pe_op op_sub (pe_meth (pv 0) T.cl T.me_at G_C_at (hr.mono (by decide)) T.b_C_at .nil pass0 (pa_cons (pe_op op_add (pv 2) pe_int) pa_nil)) (pe_meth (pv 0) T.cl T.me_at G_C_at (hr.mono (by decide)) T.b_C_at .nil pass0 (pa_cons (pv 2) pa_nil))))))))), ?_⟩
    refine ⟨_, rfl, x, cs, p, g, rfl, hC, hp, hpn, hn, hg, fun H1 s1 => ?_⟩
    refine ⟨_, rfl, n, 400, rfl, by omega, by omega, ?_⟩
    have hC1 := s1.crv _ _ _ hC
    obtain ⟨dx, lv, w, hx, hlv⟩ := id hC1
    refine ⟨_, rfl, _, rfl, by omega, by omega, fun D hD => lc_range (lo := 0) (n := (n : Int).toNat) (fun j H2 => H2 D = some (.lst ((greedyM (cvAt cs p g) j).map V.int)) ∧ Same H1 H2) ⟨upd_same, Same.upd (Same.refl _) hD⟩ ?_ ?_⟩
    · rintro j H2 hj ⟨hD2, s2⟩
      have hC2 := hC1.same s2
      refine ⟨rfl, _, rfl, x, dx, _, rfl, s2 _ _ hx, cfs_no _ _ _ (by decide +kernel) (by decide +kernel) (by decide +kernel), _, rfl, _, _, rfl, rfl, x, cs, p, g, _, rfl, hC2, hp, hpn, hn, by omega, by omega, ?_⟩
      refine ⟨_, rfl, x, dx, _, rfl, s2 _ _ hx, cfs_no _ _ _ (by decide +kernel) (by decide +kernel) (by decide +kernel), _, rfl, x, cs, p, g, _, rfl, hC2, hp, hpn, hn, by omega, by omega, _, _, rfl, rfl, _, hD2, small (by rw [List.length_map, greedy_length]; omega), ?_, Same.upd s2 hD⟩
      rw [upd_same, greedy_succ, List.map_append, Int.zero_add]
      rfl
    · rintro H2 ⟨hD2, s2⟩
      rw [Int.toNat_natCast] at hD2
      exact k H2 D (s1.then s2) (s1.free hD) hD2
theorem ok_l_sums (T : Txt K mg A) : FnOk P w K mg base CX0 1 A.f_l_sums A.d_l_sums ["_law_units"] (sp_l_sums K A) := by
  refine T.F_l_sums.ok sc_l_sums (fun vs H Q E h => ?_) (fun cdv A0 outer s H vs Q E hr h => ?_)
  · obtain ⟨u, us, rfl, hU, hn, k⟩ := h
    rfl
  · obtain ⟨u, us, rfl, hU, hn, k⟩ := h
    refine ⟨_, (pss_one (ps_ret (pe_lc (own := [("_law_k", 1)]) (g := gName 1) (tt := tYes) rfl sc_l_sums.nd (pi_range1 rfl T.range (pa_cons (pe_callB (r := VG.rLen K) VG.call_len (by rfl) T.len (by decide +kernel) (pa_cons (pv 0) pa_nil)) pa_nil)) (blkOk_by (own := [("_law_k", 1)]) (N := ["_law_units", "_law_k"]) (sc := defScope s_l_sums) (by decide +kernel)) (fun _ _ _ _ _ => pg_name (i := 1) sc_l_sums.nd rfl (Or.inl rfl)) (fun _ _ _ _ _ => pts_nil) (fun _ _ _ _ _ => (pe_callB (r := rSum K) (cr_sum rfl) (by rfl) T.sum (by decide +kernel) (pa_cons (pe_slice (r := rSlL K) sl_list (pv 0) po_none (po_some (pe_op op_add (pv 1) pe_int))) pa_nil)))))), ?_⟩
    refine ⟨_, rfl, u, _, rfl, .inl hU, _, rfl, by rw [List.length_map]; omega, by rw [List.length_map]; omega, fun D hD => ?_⟩
    rw [List.length_map]
    refine lc_range (lo := 0) (n := (us.length : Int).toNat) (fun j H2 => H2 D = some (.lst ((row (fun i => pre us (i + 1)) j).map V.int)) ∧ Same H H2) ⟨upd_same, Same.upd (Same.refl _) hD⟩ ?_ ?_
    · rintro j H2 hj ⟨hD2, s2⟩
      refine ⟨rfl, _, rfl, _, rfl, _, _, rfl, rfl, _, rfl, u, _, rfl, s2.seq hU, fun q hq => ?_⟩
      have hqD : D ≠ q := ne_of_none hD2 hq
      have ec : cutV (us.map V.int) none (some (0 + (j : Int) + 1)) = (us.take (j + 1)).map V.int := by
        unfold cutV
        rw [HT.sIx_none, show 0 + (j : Int) + 1 = ((j + 1 : Nat) : Int) by omega, HT.sIx_nat, List.length_map, List.drop_zero, show min (j + 1) us.length - 0 = j + 1 by omega, List.map_take]
      have hq2 : upd H2 q (.lst (cutV (us.map V.int) none (some (0 + (j : Int) + 1)))) q = some (.lst ((us.take (j + 1)).map V.int)) := by rw [upd_same, ec]
      refine ⟨q, _, rfl, SqL.of hq2, _, by rw [upd_ne hqD]; exact hD2, small (by rw [List.length_map, row_length]; omega), ?_, Same.upd (Same.upd s2 (s2.free hq)) hD⟩
      rw [upd_same, rowI_succ, show ((j : Nat) : Int) + 1 = ((j + 1 : Nat) : Int) by omega, pre_take]
    · rintro H2 ⟨hD2, s2⟩
      rw [Int.toNat_natCast] at hD2
      exact k H2 D s2 hD hD2
end
end VK


namespace VK
open PySem PySem.Spec PyProof.Rows L2 VM
theorem RowAt.up {H : Hp} {t l : Addr} {xs : List Int} {p g : Int} (h : RowAt H t l xs p g) : Up (cvAt xs p g) := by
  obtain ⟨p0, p12, pn, xn, x1⟩ := h.pp
  exact up_cv p0 pn (h.ok.lo 0 (by omega)) h.ok.up h.ok.last
/-- counts -/
def NN (us : List Int) : Prop := ∀ u ∈ us, 0 ≤ u
theorem row_one {H : Hp} {t l : Addr} {xs : List Int} {p g : Int} (h : RowAt H t l xs p g) : cvAt xs p g 1 ≤ 20 := by
  obtain ⟨p0, p12, pn, xn, x1⟩ := h.pp
  have e : cvAt xs p g 1 = xs.getD 0 0 := by
    unfold cvAt
    simp
    omega
  rw [e]
  exact h.low 0
def sp_l_room (_ : PySem.W.Frag) (_ : Ad) : Sp := fun vs H Q _ => ∃ (t l u : Addr) (xs es : List Int) (p g : Int), vs = [.ref t, .ref u] ∧ RowAt H t l xs p g ∧ H u = some (.lst (es.map V.int)) ∧ es.length ≤ 500 ∧
  ∀ H', Same H H' → Q (.int (max 0 (freeM (cvAt xs p g) es))) H'
/-- a record that keeps a curve, each tick with as many units as may enter or fewer -/
structure Fits (f : Int → Int) (es : List Int) : Prop where
  nn : ∀ e ∈ es, 0 ≤ e
  kept : Kept f es
def sp_l_kept (_ : PySem.W.Frag) (_ : Ad) : Sp := fun vs H Q _ => ∃ (r t l : Addr) (xs : List Int) (p g n : Int), vs = [.ref r, .ref t, .int n] ∧ Rng H r ∧ RowAt H t l xs p g ∧ l ≠ r ∧ 0 ≤ n ∧ n ≤ 400 ∧
  ∀ H' q es, Ext r H H' → H q = none → H' q = some (.lst (es.map V.int)) → Fits (cvAt xs p g) es → (es.length : Int) = n → Q (.ref q) H'
section
variable {P : Program} {w : World} {K : PySem.W.Frag} {mg : Str → Option Value} {base : Heap} {A : Ad}
theorem ok_l_room (T : Txt K mg A) : FnOk P w K mg base CX0 2 A.f_l_room A.d_l_room ["_law_row_here", "_law_units"] (sp_l_room K A) := by
  have G_l_at := ok_l_at (P := P) (w := w) (base := base) T
  refine T.F_l_room.ok sc_l_room (fun vs H Q E h => ?_) (fun cdv A0 outer s H vs Q E hr h => ?_)
  · obtain ⟨t, l, u, xs, es, p, g, rfl, R, hu, hn, k⟩ := h
    rfl
  · obtain ⟨t, l, u, xs, es, p, g, rfl, R, hu, hn, k⟩ := h
    refine ⟨_, (pss_cons (ps_set (i := 2) sc_l_room.nd rfl (by first | exact Or.inl rfl | exact Or.inr rfl) (pe_call G_l_at (hr.mono (by decide)) rfl T.m_l_at T.k_l_at T.b_l_at .nil pass0 (pa_cons (pv 0) (pa_cons pe_int pa_nil))))
    (pss_cons (ps_for PassesOwn.never rfl (pi_range2 rfl T.range (pa_cons pe_int (pa_cons (pe_op op_add (pe_callB (r := VG.rLen K) VG.call_len (by rfl) T.len (by decide +kernel) (pa_cons (pv 1) pa_nil)) pe_int) pa_nil))) (pg_name (i := 3) sc_l_room.nd rfl (by first | exact Or.inl rfl | exact Or.inr rfl))
      (pss_one (ps_set (i := 2) sc_l_room.nd rfl (by first | exact Or.inl rfl | exact Or.inr rfl) (pe_callB (call_min2 rfl) (by rfl) T.min (by decide +kernel) (pa_cons (pv 2) (pa_cons (pe_op op_sub (pe_call G_l_at (hr.mono (by decide)) rfl T.m_l_at T.k_l_at T.b_l_at .nil pass0 (pa_cons (pv 0) (pa_cons (pv 3) pa_nil))) (pe_callB (r := rSum K) (cr_sum rfl) (by rfl) T.sum (by decide +kernel) (pa_cons (pe_slice (r := rSlL K) sl_list (pv 1) (po_some (pe_op op_sub (pe_op op_add (pe_callB (r := VG.rLen K) VG.call_len (by rfl) T.len (by decide +kernel) (pa_cons (pv 1) pa_nil)) pe_int) (pv 3))) po_none) pa_nil))) pa_nil))))))
    (pss_one (ps_ret (pe_callB (call_max2 rfl) (by rfl) T.max (by decide +kernel) (pa_cons pe_int (pa_cons (pv 2) pa_nil))))))), ?_⟩
    obtain ⟨p0, p12, pn, xn, x1⟩ := R.pp
    refine ⟨_, rfl, t, l, xs, p, g, _, rfl, SqT.of R.tup, SqL.of R.lst, p0, pn, xn, by decide, by decide, ?_⟩
    refine ⟨_, rfl, u, _, rfl, .inl (SqL.of hu), _, _, rfl, rfl, _, _, rfl, ⟨by omega, by omega, by rw [List.length_map]; omega, by rw [List.length_map]; omega⟩, ?_⟩
    rw [List.length_map]
    refine for_range (lo := 2) (n := ((es.length : Int) + 2 - 2).toNat) (fun i σ H' => ∃ v3, σ = [some (.ref t), some (.ref u), some (.int (freeK (cvAt xs p g) es i)), v3] ∧ Same H H')
      ⟨_, rfl, Same.refl _⟩ ?_ ?_
    · rintro i σ H' hi ⟨v3, rfl, s1⟩
      have hi' : i < es.length := by omega
      have R1 := R.same s1
      have hu1 := s1 _ _ hu
      refine ⟨_, rfl, _, rfl, _, rfl, t, l, xs, p, g, _, rfl, SqT.of R1.tup, SqL.of R1.lst, p0, pn, xn, by omega, by omega, ?_⟩
      refine ⟨_, rfl, _, rfl, u, _, rfl, .inl (SqL.of hu1), _, _, rfl, rfl, _, rfl, _, _, rfl, rfl, ?_⟩
      refine ⟨_, rfl, u, _, rfl, SqL.of hu1, fun q hq => ?_⟩
      have eq : ((es.length : Int) + 1 - (2 + (i : Int))) = ((es.length - (i + 1) : Nat) : Int) := by omega
      have ec : cutV (es.map V.int) (some ((es.length : Int) + 1 - (2 + (i : Int)))) none = (es.drop (es.length - (i + 1))).map V.int := by rw [eq]; exact cut_from (by omega)
      have hq2 : upd H' q (.lst (cutV (es.map V.int) (some ((((es.map V.int).length : Nat) : Int) + 1 - (2 + (i : Int)))) none)) q = some (.lst ((es.drop (es.length - (i + 1))).map V.int)) := by rw [upd_same, List.length_map, ec]
      refine ⟨q, _, rfl, SqL.of hq2, _, _, rfl, rfl, _, _, rfl, ?_⟩
      rw [sum_from (by omega)]
      refine ⟨some (.int (2 + (i : Int))), ?_, Same.upd s1 (s1.free hq)⟩
      have ef : (if cvAt xs p g (2 + (i : Int)) - tl es (i + 1) < freeK (cvAt xs p g) es i then cvAt xs p g (2 + (i : Int)) - tl es (i + 1) else freeK (cvAt xs p g) es i) = freeK (cvAt xs p g) es (i + 1) := by
        show _ = min (freeK (cvAt xs p g) es i) (cvAt xs p g ((i : Int) + 2) - tl es (i + 1))
        rw [show 2 + (i : Int) = (i : Int) + 2 by omega]
        split <;> omega
      rw [ef]
      rfl
    · rintro σ H' ⟨v3, rfl, s1⟩
      rw [show ((es.length : Int) + 2 - 2).toNat = es.length by omega]
      refine ⟨_, rfl, _, _, rfl, ?_⟩
      have e : (if freeK (cvAt xs p g) es es.length > 0 then freeK (cvAt xs p g) es es.length else 0) = max 0 (freeM (cvAt xs p g) es) := by
        unfold freeM
        split <;> omega
      show Q (.int (if freeK (cvAt xs p g) es es.length > 0 then freeK (cvAt xs p g) es es.length else 0)) H'
      rw [e]
      exact k _ s1
theorem ok_l_kept (T : Txt K mg A) : FnOk P w K mg base CX0 3 A.f_l_kept A.d_l_kept ["_law_rng_here", "_law_row_here", "_law_span"] (sp_l_kept K A) := by
  have G_l_draw := ok_l_draw (P := P) (w := w) (base := base) T
  have G_l_room := ok_l_room (P := P) (w := w) (base := base) T
  refine T.F_l_kept.ok sc_l_kept (fun vs H Q E h => ?_) (fun cdv A0 outer s H vs Q E hr h => ?_)
  · obtain ⟨r, t, l, xs, p, g, n, rfl, hr0, R, nlr, n0, n4, k⟩ := h
    rfl
  · obtain ⟨r, t, l, xs, p, g, n, rfl, hr0, R, nlr, n0, n4, k⟩ := h
    refine ⟨_, (pss_cons (ps_par (i := 3) (j := 4) (by rfl) sc_l_kept.nd rfl rfl (by decide) rfl rfl (pa_cons (pe_lst pa_nil) (pa_cons (pe_op op_add pe_int (pe_call G_l_draw (hr.mono (by decide)) rfl T.m_l_draw T.k_l_draw T.b_l_draw .nil pass0 (pa_cons (pv 0) (pa_cons pe_int pa_nil)))) pa_nil)) (by rfl))
    (pss_cons (ps_for PassesOwn.never rfl (pi_range1 rfl T.range (pa_cons (pv 2) pa_nil)) (pg_name (i := 5) sc_l_kept.nd rfl (by first | exact Or.inl rfl | exact Or.inr rfl))
      (pss_cons (ps_set (i := 6) sc_l_kept.nd rfl (by first | exact Or.inl rfl | exact Or.inr rfl) (pe_call G_l_room (hr.mono (by decide)) rfl T.m_l_room T.k_l_room T.b_l_room .nil pass0 (pa_cons (pv 1) (pa_cons (pv 3) pa_nil))))
    (pss_one (ps_expr (pe_bm PySem.F.plainAttrs_list PySem.F.slot_list_append PySem.F.type_list_append mt_append (pv 3) (pa_cons (pe_ix (r := rIxL K) ix_list (pe_lst (pa_cons (pv 6) (pa_cons (pe_call G_l_draw (hr.mono (by decide)) rfl T.m_l_draw T.k_l_draw T.b_l_draw .nil pass0 (pa_cons (pv 0) (pa_cons (pe_op op_add (pv 6) pe_int) pa_nil))) pa_nil))) (pe_callTy call_int1 (by rfl) T.int (by decide +kernel) (pa_cons (pe_cmpR op_eq (pe_call G_l_draw (hr.mono (by decide)) rfl T.m_l_draw T.k_l_draw T.b_l_draw .nil pass0 (pa_cons (pv 0) (pa_cons (pv 4) pa_nil))) pe_int (nomark _)) pa_nil)) (fun _ _ => rfl)) pa_nil))))))
    (pss_one (ps_ret (pv 3))))), ?_⟩
    refine ⟨(by show 0 ≤ sizeLine; decide), fun q hq => ?_⟩
    have nqr : q ≠ r := hr0.ne hq
    have sq : Same H (upd H q (.lst [])) := Same.upd (Same.refl _) hq
    refine ⟨_, rfl, r, _, rfl, hr0.same sq, by decide, by decide, fun H1 a e1 a0 a1 => ⟨_, _, rfl, rfl, _, _, rfl, ?_⟩⟩
    have hq1 := e1.keep _ _ nqr (upd_same (H := H) (a := q) (o := .lst []))
    have e01 : Ext r H H1 := (Ext.of hr0 sq).trans e1
    refine ⟨_, rfl, _, rfl, by omega, by omega, ?_⟩
    refine for_range (lo := 0) (n := n.toNat) (fun i σ H' => ∃ v5 v6 es, σ = [some (.ref r), some (.ref t), some (.int n), some (.ref q), some (.int (1 + a)), v5, v6] ∧ Ext r H H' ∧ H' q = some (.lst (es.map V.int)) ∧ Fits (cvAt xs p g) es ∧ es.length = i)
      ⟨_, _, [], rfl, e01, hq1, ⟨fun e he => (nomatch he), Kept.nil⟩, rfl⟩ ?_ ?_
    · rintro i σ H' hi ⟨v5, v6, es, rfl, e, hq', F, hl⟩
      have R1 := e.row R hr0 nlr
      refine ⟨_, rfl, _, rfl, t, l, q, xs, es, p, g, rfl, R1, hq', by omega, fun H2 s2 => ?_⟩
      have rg2 := e.rng.same s2
      have f0 : 0 ≤ freeM (cvAt xs p g) es := R.up.free F.kept
      have fm : freeM (cvAt xs p g) es ≤ 20 := by
        have := le_free.mp (Int.le_refl (freeM (cvAt xs p g) es)) 0 (by omega)
        rw [tl_zero] at this
        have c1 : cvAt xs p g (((0 : Nat) : Int) + 1) ≤ 20 := row_one R
        omega
      rw [show max 0 (freeM (cvAt xs p g) es) = freeM (cvAt xs p g) es by omega]
      generalize hfm : freeM (cvAt xs p g) es = m at *
      refine ⟨_, rfl, .inl ⟨rfl, _, SqL.of (s2 _ _ hq')⟩, _, rfl, _, rfl, _, rfl, _, _, rfl, rfl, r, _, rfl, rg2, by omega, by omega, fun H3 d e3 d0 d1 => ⟨(by show 2 ≤ sizeLine; decide), fun q1 hq1 => ?_⟩⟩
      have nq1 : q1 ≠ r := e3.rng.ne hq1
      have e4 : Ext r H2 (upd H3 q1 (.lst (([m, d] : List Int).map V.int))) := e3.same (Same.upd (Same.refl _) hq1)
      refine ⟨_, rfl, _, rfl, r, _, rfl, e4.rng, by omega, by omega, fun H4 j e5 j0 j1 => ⟨rfl, .inr ⟨_, rfl, ?_⟩⟩⟩
      have h4 := e5.keep _ _ nq1 (upd_same (H := H3) (a := q1) (o := .lst (([m, d] : List Int).map V.int)))
      have e25 := e4.trans e5
      have hq4 := e25.keep _ _ nqr (s2 _ _ hq')
      have hb : 0 ≤ (if decide (V.int j = V.int 0) = true then (1 : Int) else 0) ∧ (if decide (V.int j = V.int 0) = true then (1 : Int) else 0) < 2 := by split <;> omega
      simp only []
      generalize (if decide (V.int j = V.int 0) = true then (1 : Int) else 0) = b at *
      refine ⟨q1, _, _, _, rfl, rfl, SqL.of h4, at_map hb.1 hb.2, ?_⟩
      have hv : 0 ≤ ([m, d] : List Int).getD b.toNat 0 ∧ ([m, d] : List Int).getD b.toNat 0 ≤ m := by
        rcases (show b = 0 ∨ b = 1 by omega) with z | z <;> subst z
        · exact ⟨by show 0 ≤ m; omega, by show m ≤ m; omega⟩
        · exact ⟨by show 0 ≤ d; omega, by show d ≤ m; omega⟩
      generalize ([m, d] : List Int).getD b.toNat 0 = v at *
      refine ⟨q, _, _, rfl, rfl, hq4, small (by rw [List.length_map]; omega), ?_⟩
      have e0 : Ext r H H4 := (e.same s2).trans e25
      refine ⟨_, _, es ++ [v], rfl, e0.put hq nqr, by rw [upd_same, List.map_append]; rfl, ⟨fun y hy => ?_, F.kept.push (by omega)⟩, by rw [List.length_append, hl]; rfl⟩
      rcases List.mem_append.mp hy with z | z
      · exact F.nn y z
      · rw [List.mem_singleton.mp z]; exact hv.1
    · rintro σ H' ⟨v5, v6, es, rfl, e, hq', F, hl⟩
      exact ⟨_, rfl, k _ q es e hq hq' F (by omega)⟩
end
end VK


namespace VK
open PySem PySem.Spec PyProof.Rows L2 VM
theorem greedy_free {f : Int → Int} (h0 : f 0 = 0) (G : ∀ a b : Int, 0 ≤ a → 0 ≤ b → f (a + b) ≤ f a + f b) (n : Nat) : freeM f (greedyM f n) = f ((n : Int) + 1) - f n := by
  have a : f ((n : Int) + 1) - f n ≤ freeM f (greedyM f n) := by
    have z := greedy_kept h0 G (n + 1)
    rw [greedy_succ] at z
    exact z.free
  have b := le_free.mp (Int.le_refl (freeM f (greedyM f n))) n (by rw [greedy_length]; omega)
  have c : tl (greedyM f n) n = f n := by
    have e := greedy_sum h0 n
    have q := tl_pre (us := greedyM f n) (k := n) (by rw [greedy_length]; exact Nat.le_refl _)
    have p0 : pre (greedyM f n) ((0 : Nat) : Int) = 0 := by rw [pre_take]; rfl
    rw [greedy_length, show (n : Int) - n = ((0 : Nat) : Int) by omega, p0, e] at q
    omega
  rw [c] at b
  omega
def hPol (f : Int → Int) (q : Int) (i : Nat) : Int := if i = 0 then 0 else q - f i
theorem kb_qc {K : PySem.W.Frag} {mg : Str → Option Value} {A : Ad} (T : Txt K mg A) : ∃ mv : List Value, KBn K A.d_P_init ["self", "curve", "queue"] 1 ["queue", "curve"] (fun us ws => us ++ (ws.drop 1 ++ ws.take 1)) (fun vs zs => vs ++ (zs.drop 1 ++ zs.take 1)) := by
  obtain ⟨mv, h⟩ := T.F_P_init.kbinds0 (ps := ["self", "curve", "queue"]) 1 ["queue", "curve"] [] (fun us _ ws => us ++ (ws.drop 1 ++ ws.take 1)) (by simp) (by simp) (fun a _ c => a.append ((c.drop 1).append (c.take 1)))
    (fun D doc pm an cdv ct us mv ws h1 h2 h3 => match us, mv, ws, h1, h2, h3 with | [_], [], [_, _], _, _, _ => rfl)
  exact ⟨mv, h⟩
def sp_l_policed (_ : PySem.W.Frag) (A : Ad) : Sp := fun vs H Q _ => ∃ (c : Addr) (cs : List Int) (p g q : Int) (n : Nat), vs = [.ref c, .int n, .int q] ∧ CrvAt A H c cs p g ∧ Srch A H c ∧ 0 < p ∧ p ≤ cs.length ∧ cs.length ≤ 1000 ∧ GoodC (cvAt cs p g) cs.length ∧
  (∀ a b : Int, 0 ≤ a → 0 ≤ b → cvAt cs p g (a + b) ≤ cvAt cs p g a + cvAt cs p g b) ∧ Up (cvAt cs p g) ∧ n ≤ 400 ∧ cvAt cs p g n ≤ q ∧
  ∀ H' r, Same H H' → H r = none → H' r = some (.lst ((greedyM (cvAt cs p g) n).map V.int)) → Q (.ref r) H'
section
variable {P : Program} {w : World} {K : PySem.W.Frag} {mg : Str → Option Value} {base : Heap} {A : Ad}
theorem ok_l_policed (T : Txt K mg A) : FnOk P w K mg base CX0 9 A.f_l_policed A.d_l_policed ["_law_line", "_law_span", "_law_flood"] (sp_l_policed K A) := by
  have G_P_init := ok_P_init (P := P) (w := w) (base := base) T
  have G_P_record := ok_P_record (P := P) (w := w) (base := base) T
  have G_P_step := ok_P_step (P := P) (w := w) (base := base) T
  obtain ⟨mv2, kb_Police_queue_curve⟩ := kb_qc T
  obtain ⟨dt, hvS, hbS⟩ := db_step T
  refine T.F_l_policed.ok sc_l_policed (fun vs H Q E h => ?_) (fun cdv A0 outer s H vs Q E hr h => ?_)
  · obtain ⟨c, cs, p, g, q, n, rfl, hC, hSr, hp, hpn, hn, GD, GA, U, n4, hq, k⟩ := h
    rfl
  · obtain ⟨c, cs, p, g, q, n, rfl, hC, hSr, hp, hpn, hn, GD, GA, U, n4, hq, k⟩ := h
    refine ⟨_, (pss_cons (ps_set (i := 3) sc_l_policed.nd rfl (by first | exact Or.inl rfl | exact Or.inr rfl) (pe_makeK0 T.M_Police G_P_init (hr.mono (by decide)) rfl T.m_Police kb_Police_queue_curve pass0 (pk_cons (pv 2) (pk_cons (pv 0) pk_nil))))
    (pss_cons (ps_for PassesOwn.never rfl (pi_range1 rfl T.range (pa_cons (pv 1) pa_nil)) (pg_name (i := 4) sc_l_policed.nd rfl (by first | exact Or.inl rfl | exact Or.inr rfl))
      (pss_one (ps_expr (pe_meth (pv 3) T.clPolice T.me_step G_P_step (hr.mono (by decide)) hbS hvS pass0 (pa_cons (pe_ix (r := rIxL K) ix_list (pe_lst (pa_cons pe_int (pa_cons (pv 2) pa_nil))) (pe_callTy call_int1 (by rfl) T.int (by decide +kernel) (pa_cons (pe_cmpR op_eq (pv 4) pe_int (nomark _)) pa_nil)) (fun _ _ => rfl)) pa_nil)))))
    (pss_one (ps_ret (pe_meth0 (pv 3) T.clPolice T.me_record G_P_record (hr.mono (by decide)) T.b_P_record .nil pass0))))), ?_⟩
    obtain ⟨dc, lc, w0, hc, hlc⟩ := id hC
    have h0 : cvAt cs p g 0 = 0 := cvAt_zero
    have fup : ∀ i : Nat, cvAt cs p g i ≤ cvAt cs p g ((i : Int) + 1) := fun i => by
      have a := greedy_free h0 GA i
      have b := U.free (greedy_kept h0 GA i)
      omega
    have fle : ∀ m i : Nat, cvAt cs p g i ≤ cvAt cs p g ((i + m : Nat) : Int) := fun m i => by
      induction m with
      | zero => exact Int.le_refl _
      | succ m ih =>
        have := fup (i + m)
        rw [show (((i + m : Nat) : Int) + 1) = ((i + (m + 1) : Nat) : Int) by omega] at this
        omega
    have fnn : ∀ i : Nat, 0 ≤ cvAt cs p g i := fun i => by
      have := fle i 0
      rw [show ((0 + i : Nat) : Int) = (i : Int) by omega] at this
      have h00 : cvAt cs p g ((0 : Nat) : Int) = 0 := h0
      omega
    have fq : ∀ i : Nat, i ≤ n → cvAt cs p g i ≤ q := fun i hi => by
      have := fle (n - i) i
      rw [show i + (n - i) = n by omega] at this
      omega
    have q0 : 0 ≤ q := Int.le_trans (fnn n) hq
    refine ⟨_, rfl, _, rfl, rfl, rfl, fun x dx hx hdx hne => ?_⟩
    have s0 : Same H (upd (upd H dx (.own x)) x (.ins A.Police dx [])) := Same.upd (Same.upd (Same.refl _) hdx) hx
    refine ⟨x, dx, c, cs, p, g, q, rfl, upd_same, hC.same s0, hp, hpn, hn, GD, q0, ne_of_none hc hx, fun H1 le ll keep _ hle hll nel nex nlx P1 => ⟨rfl, ?_⟩⟩
    have s1 : Same H H1 := fun b o e => keep b o (ne_of_none e hx) (fun _ => hSr.same s0) (s0 _ _ e)
    have hle0 : H le = none := s0.free hle
    have hll0 : H ll = none := s0.free hll
    refine ⟨_, rfl, _, rfl, by omega, by omega, ?_⟩
    refine for_range (lo := 0) (n := (n : Int).toNat) (fun i σ H' => ∃ v4, σ = [some (.ref c), some (.int n), some (.int q), some (.ref x), v4] ∧ Same H H' ∧ PolAt A H' x c cs p g q (hPol (cvAt cs p g) q i) 0 false (greedyM (cvAt cs p g) i) dx le ll)
      ⟨_, rfl, s1, P1⟩ ?_ ?_
    · rintro i σ H' hi ⟨v4, rfl, s2, PA⟩
      have hi' : i < n := by omega
      have no : (pfs c q (hPol (cvAt cs p g) q i) 0 le false ll).lookup (Str.ofString "step") = none := pno _ _ _ _ _ _ _ (by decide +kernel) (by decide +kernel) (by decide +kernel) (by decide +kernel) (by decide +kernel) (by decide +kernel) (by decide +kernel)
      refine ⟨_, rfl, x, dx, _, rfl, PA.obj, no, _, rfl, (by show 2 ≤ sizeLine; decide), fun q1 hq1 => ?_⟩
      have s3 : Same H' (upd H' q1 (.lst (([0, q] : List Int).map V.int))) := Same.upd (Same.refl _) hq1
      have PA2 := PA.same s3
      have h4 : upd H' q1 (.lst (([0, q] : List Int).map V.int)) q1 = some (.lst (([0, q] : List Int).map V.int)) := upd_same
      refine ⟨_, rfl, rfl, .inr ⟨_, rfl, ?_⟩⟩
      have hb : 0 ≤ (if decide (V.int (0 + (i : Int)) = V.int 0) = true then (1 : Int) else 0) ∧ (if decide (V.int (0 + (i : Int)) = V.int 0) = true then (1 : Int) else 0) < 2 := by split <;> omega
      have hu : ([0, q] : List Int).getD (if decide (V.int (0 + (i : Int)) = V.int 0) = true then (1 : Int) else 0).toNat 0 = if i = 0 then q else 0 := by
        by_cases z : i = 0
        · subst z; rw [if_pos rfl, if_pos (by decide)]; rfl
        · rw [if_neg z, if_neg]
          · rfl
          · rw [deq_int]; intro y; have := of_decide_eq_true y; omega
      refine ⟨q1, _, _, _, rfl, rfl, SqL.of h4, at_map hb.1 hb.2, ?_⟩
      rw [hu]
      have hsum : hPol (cvAt cs p g) q i + (if i = 0 then q else 0) = q - cvAt cs p g i := by
        unfold hPol
        by_cases z : i = 0
        · subst z; rw [if_pos rfl, if_pos rfl]; have h00 : cvAt cs p g ((0 : Nat) : Int) = 0 := h0; omega
        · rw [if_neg z, if_neg z]; omega
      have hu0 : 0 ≤ (if i = 0 then q else 0) := by split <;> omega
      generalize (if i = 0 then q else 0) = u at *
      have e1 := fup i
      have e2 := fq (i + 1) (by omega)
      have e3 := fnn (i + 1)
      rw [show ((i + 1 : Nat) : Int) = (i : Int) + 1 by omega] at e2 e3
      have st : stE (cvAt cs p g) (greedyM (cvAt cs p g) i) (hPol (cvAt cs p g) q i) u 0 false = cvAt cs p g ((i : Int) + 1) - cvAt cs p g i := by
        unfold stE
        rw [if_neg (by decide), greedy_free h0 GA, hsum]
        omega
      refine ⟨x, c, cs, p, g, q, hPol (cvAt cs p g) q i, 0, false, greedyM (cvAt cs p g) i, dx, le, ll, u, 0, false, rfl, PA2, hp, hpn, hn, by rw [greedy_length]; omega, hu0, by decide, fun H3 t2 kp3 ht20 ht2 PN => ?_⟩
      rw [st, hsum] at PN
      refine ⟨_, rfl, fun b o e => ?_, ?_⟩
      · exact kp3 b o (ne_of_none e hx) (ne_of_none e hle0) (ne_of_none e hll0) (s3 _ _ (s2 _ _ e))
      · have z1 : min (q - cvAt cs p g i - (cvAt cs p g ((i : Int) + 1) - cvAt cs p g i)) q = hPol (cvAt cs p g) q (i + 1) := by
          unfold hPol
          rw [if_neg (by omega), show ((i + 1 : Nat) : Int) = (i : Int) + 1 by omega]
          omega
        have z2 : (0 : Int) + (q - cvAt cs p g i - (cvAt cs p g ((i : Int) + 1) - cvAt cs p g i) - hPol (cvAt cs p g) q (i + 1)) = 0 := by
          unfold hPol
          rw [if_neg (by omega), show ((i + 1 : Nat) : Int) = (i : Int) + 1 by omega]
          omega
        rw [z1, z2, ← greedy_succ] at PN
        exact PN
    · rintro σ H' ⟨v4, rfl, s2, PA⟩
      rw [Int.toNat_natCast] at PA
      have no : (pfs c q (hPol (cvAt cs p g) q n) 0 le false ll).lookup (Str.ofString "record") = none := pno _ _ _ _ _ _ _ (by decide +kernel) (by decide +kernel) (by decide +kernel) (by decide +kernel) (by decide +kernel) (by decide +kernel) (by decide +kernel)
      refine ⟨_, rfl, x, dx, _, rfl, PA.obj, no, x, c, q, hPol (cvAt cs p g) q n, 0, false, dx, le, ll, greedyM (cvAt cs p g) n, rfl, PA.obj, PA.ent, fun H2 u s3 hu0 hu => ?_⟩
      exact k _ u (s2.trans s3) (s2.free hu0) hu
end
end VK


namespace VK
open PySem PySem.Spec PyProof.Rows L2 VM
def badR (f m : Int) (k : Nat) : List Int := List.replicate k f ++ [2 * f + m]
theorem badR_length {f m : Int} {k : Nat} : (badR f m k).length = k + 1 := by simp [badR]
theorem badR_lo {f m t : Int} {k : Nat} (h0 : 0 < t) (h : t ≤ k) : cvAt (badR f m k) 1 0 t = f := by
  rw [cvAt_in h0 (by rw [badR_length]; omega)]
  unfold badR
  have e : t.toNat - 1 < k := by omega
  simp [List.getD, List.getElem?_append, e]
theorem badR_at {f m : Int} {k : Nat} : cvAt (badR f m k) 1 0 ((k : Int) + 1) = 2 * f + m := by
  rw [cvAt_in (by omega) (by rw [badR_length]; omega)]
  unfold badR
  have e : ((k : Int) + 1 - 1).toNat = k := by omega
  rw [e]
  simp [List.getD, List.getElem?_append]
/-- the breaks so far -/
def Brk (H : Hp) (B : Addr) (k : Nat) (c : Prop) (n : Nat) : Prop := ∃ ws : List V, H B = some (.lst ws) ∧ ws.length ≤ n ∧ (¬ c → ws = []) ∧ (c → ∃ b rest, ws = .ref b :: rest ∧ H b = some (.tup [.int 1, .int k]))
theorem at0 {x : V} {xs : List V} : atI (x :: xs) 0 = some x := by
  unfold atI ixN
  simp
theorem Brk.same {H H' : Hp} {B : Addr} {k n : Nat} {c : Prop} (b : Brk H B k c n) (s : Same H H') : Brk H' B k c n := by
  obtain ⟨ws, a, l, x, y⟩ := b
  refine ⟨ws, s _ _ a, l, x, fun h => ?_⟩
  obtain ⟨b, rest, e, q⟩ := y h
  exact ⟨b, rest, e, s _ _ q⟩
theorem Brk.mono {H : Hp} {B : Addr} {k n n' : Nat} {c c' : Prop} (b : Brk H B k c n) (e : c ↔ c') (h : n ≤ n') : Brk H B k c' n' := by
  obtain ⟨ws, a, l, x, y⟩ := b
  exact ⟨ws, a, Nat.le_trans l h, fun z => x fun w => z (e.mp w), fun z => y (e.mpr z)⟩
def sp_l_bad (_ : PySem.W.Frag) (_ : Ad) : Sp := fun vs H Q _ => ∃ (r : Addr), vs = [.ref r] ∧ Rng H r ∧
  ∀ H' w l b (f m : Int) (k : Nat), Ext r H H' → H w = none → H l = none → 1 ≤ f → f ≤ 3 → 1 ≤ m → m ≤ 3 → 1 ≤ k → k ≤ 3 → H' w = some (.tup [.ref l, .ref b]) → H' l = some (.lst ((badR f m k).map V.int)) → H' b = some (.tup [.int 1, .int k]) → Q (.ref w) H'
section
variable {P : Program} {w : World} {K : PySem.W.Frag} {mg : Str → Option Value} {base : Heap} {A : Ad}
theorem ok_l_bad (T : Txt K mg A) : FnOk P w K mg base CX0 2 A.f_l_bad A.d_l_bad ["_law_rng_here"] (sp_l_bad K A) := by
  have G_l_at := ok_l_at (P := P) (w := w) (base := base) T
  have G_l_draw := ok_l_draw (P := P) (w := w) (base := base) T
  refine T.F_l_bad.ok sc_l_bad (fun vs H Q E h => ?_) (fun cdv A0 outer s H vs Q E hr h => ?_)
  · obtain ⟨r, rfl, hr0, kk⟩ := h
    rfl
  · obtain ⟨r, rfl, hr0, kk⟩ := h
    refine ⟨_, (pss_cons (ps_par (i := 1) (j := 2) (by rfl) sc_l_bad.nd rfl rfl (by decide) rfl rfl (pa_cons (pe_op op_add pe_int (pe_call G_l_draw (hr.mono (by decide)) rfl T.m_l_draw T.k_l_draw T.b_l_draw .nil pass0 (pa_cons (pv 0) (pa_cons pe_int pa_nil)))) (pa_cons (pe_op op_add pe_int (pe_call G_l_draw (hr.mono (by decide)) rfl T.m_l_draw T.k_l_draw T.b_l_draw .nil pass0 (pa_cons (pv 0) (pa_cons pe_int pa_nil)))) pa_nil)) (by rfl))
    (pss_cons (ps_set (i := 3) sc_l_bad.nd rfl (by first | exact Or.inl rfl | exact Or.inr rfl) (pe_op op_cat (pe_op op_rep (pe_lst (pa_cons (pv 1) pa_nil)) (pe_op op_add pe_int (pe_call G_l_draw (hr.mono (by decide)) rfl T.m_l_draw T.k_l_draw T.b_l_draw .nil pass0 (pa_cons (pv 0) (pa_cons pe_int pa_nil))))) (pe_lst (pa_cons (pe_op op_add (pe_op op_mul pe_int (pv 1)) (pv 2)) pa_nil))))
    (pss_cons (ps_set (i := 4) sc_l_bad.nd rfl (by first | exact Or.inl rfl | exact Or.inr rfl) (pe_lst pa_nil))
    (pss_cons (ps_for PassesOwn.never rfl (pi_range2 rfl T.range (pa_cons pe_int (pa_cons (pe_op op_add (pe_callB (r := VG.rLen K) VG.call_len (by rfl) T.len (by decide +kernel) (pa_cons (pv 3) pa_nil)) pe_int) pa_nil))) (pg_name (i := 5) sc_l_bad.nd rfl (by first | exact Or.inl rfl | exact Or.inr rfl))
      (pss_one (ps_for PassesOwn.never rfl (pi_range2 rfl T.range (pa_cons pe_int (pa_cons (pe_op op_add (pe_op op_fdiv (pv 5) pe_int) pe_int) pa_nil))) (pg_name (i := 6) sc_l_bad.nd rfl (by first | exact Or.inl rfl | exact Or.inr rfl))
      (pss_one (ps_if (pt_cmpR op_gt (pe_call G_l_at (hr.mono (by decide)) rfl T.m_l_at T.k_l_at T.b_l_at .nil pass0 (pa_cons (pe_tup (pa_cons (pv 3) (pa_cons pe_int (pa_cons pe_int pa_nil)))) (pa_cons (pv 5) pa_nil))) (pe_op op_add (pe_call G_l_at (hr.mono (by decide)) rfl T.m_l_at T.k_l_at T.b_l_at .nil pass0 (pa_cons (pe_tup (pa_cons (pv 3) (pa_cons pe_int (pa_cons pe_int pa_nil)))) (pa_cons (pv 6) pa_nil))) (pe_call G_l_at (hr.mono (by decide)) rfl T.m_l_at T.k_l_at T.b_l_at .nil pass0 (pa_cons (pe_tup (pa_cons (pv 3) (pa_cons pe_int (pa_cons pe_int pa_nil)))) (pa_cons (pe_op op_sub (pv 5) (pv 6)) pa_nil)))) (nomark _)) (pss_one (ps_expr (pe_bm PySem.F.plainAttrs_list PySem.F.slot_list_append PySem.F.type_list_append mt_append (pv 4) (pa_cons (pe_tup (pa_cons (pv 6) (pa_cons (pe_op op_sub (pv 5) (pv 6)) pa_nil))) pa_nil)))) pss_nil)))))
    (pss_one (ps_ret (pe_tup (pa_cons (pv 3) (pa_cons (pe_ix (r := rIxL K) ix_list (pv 4) pe_int (fun _ _ => rfl)) pa_nil))))))))), ?_⟩
    refine ⟨_, rfl, r, _, rfl, hr0, by decide, by decide, fun H1 a e1 a0 a1 => ⟨_, _, rfl, rfl, ?_⟩⟩
    refine ⟨_, rfl, r, _, rfl, e1.rng, by decide, by decide, fun H2 b e2 b0 b1 => ⟨_, _, rfl, rfl, _, _, rfl, ?_⟩⟩
    refine ⟨_, rfl, (by show 1 ≤ sizeLine; decide), fun q1 hq1 => ?_⟩
    have nq1 : q1 ≠ r := e2.rng.ne hq1
    have e3 : Ext r H (upd H2 q1 (.lst [.int (1 + a)])) := (e1.trans e2).same (Same.upd (Same.refl _) hq1)
    refine ⟨_, rfl, r, _, rfl, e3.rng, by decide, by decide, fun H4 c e4 c0 c1 => ⟨_, _, rfl, rfl, ?_⟩⟩
    have h4 := e4.keep _ _ nq1 (upd_same (H := H2) (a := q1) (o := .lst [.int (1 + a)]))
    refine ⟨q1, 1 + c, _, rfl, rfl, h4, by omega, by omega, (by rw [sizeLine_eq]; show 1 * (1 + c).toNat ≤ 16777216; omega), fun q2 hq2 => ?_⟩
    have nq2 : q2 ≠ r := e4.rng.ne hq2
    have e5 : Ext r H (upd H4 q2 (.lst (List.replicate (1 + c).toNat [V.int (1 + a)]).flatten)) := (e3.trans e4).same (Same.upd (Same.refl _) hq2)
    have fl : (List.replicate (1 + c).toNat [V.int (1 + a)]).flatten = List.replicate (1 + c).toNat (V.int (1 + a)) := by
      generalize (1 + c).toNat = z
      induction z with
      | zero => rfl
      | succ z ih => rw [List.replicate_succ, List.flatten_cons, ih, List.replicate_succ]; rfl
    have hz2 : upd H4 q2 (.lst (List.replicate (1 + c).toNat [V.int (1 + a)]).flatten) q2 = some (.lst (List.replicate (1 + c).toNat (V.int (1 + a)))) := by rw [upd_same, fl]
    generalize upd H4 q2 (.lst (List.replicate (1 + c).toNat [V.int (1 + a)]).flatten) = H5 at *
    refine ⟨_, rfl, _, _, rfl, rfl, .inl ⟨by decide, by decide⟩, _, rfl, _, _, rfl, rfl, (by show 1 ≤ sizeLine; decide), fun q3 hq3 => ?_⟩
    have n23 : q2 ≠ q3 := ne_of_none hz2 hq3
    have nq3 : q3 ≠ r := e5.rng.ne hq3
    have e6 : Ext r H (upd H5 q3 (.lst [.int (2 * (1 + a) + (1 + b))])) := e5.same (Same.upd (Same.refl _) hq3)
    have hz2' : upd H5 q3 (.lst [.int (2 * (1 + a) + (1 + b))]) q2 = some (.lst (List.replicate (1 + c).toNat (V.int (1 + a)))) := by rw [upd_ne n23]; exact hz2
    have hz3 : upd H5 q3 (.lst [.int (2 * (1 + a) + (1 + b))]) q3 = some (.lst [.int (2 * (1 + a) + (1 + b))]) := upd_same
    refine ⟨q2, q3, _, _, rfl, rfl, hz2', hz3, ?_⟩
    refine ⟨(by rw [List.length_replicate, sizeLine_eq]; show (1 + c).toNat + 1 ≤ 16777216; omega), fun S hS => ?_⟩
    have nS : S ≠ r := e6.rng.ne hS
    have hSH : H S = none := e6.free hS
    have e7 : Ext r H (upd (upd H5 q3 (.lst [.int (2 * (1 + a) + (1 + b))])) S (.lst ((badR (1 + a) (1 + b) (1 + c).toNat).map V.int))) := e6.same (Same.upd (Same.refl _) hS)
    have eS : (List.replicate (1 + c).toNat (V.int (1 + a)) ++ [V.int (2 * (1 + a) + (1 + b))]) = (badR (1 + a) (1 + b) (1 + c).toNat).map V.int := by
      unfold badR
      rw [List.map_append, List.map_replicate]
      rfl
    simp only []
    rw [eS]
    have hS7 : upd (upd H5 q3 (.lst [.int (2 * (1 + a) + (1 + b))])) S (.lst ((badR (1 + a) (1 + b) (1 + c).toNat).map V.int)) S = some (.lst ((badR (1 + a) (1 + b) (1 + c).toNat).map V.int)) := upd_same
    generalize upd (upd H5 q3 (.lst [.int (2 * (1 + a) + (1 + b))])) S (.lst ((badR (1 + a) (1 + b) (1 + c).toNat).map V.int)) = H7 at *
    have f1 : 1 ≤ 1 + a := by omega
    have f3 : 1 + a ≤ 3 := by omega
    have m1 : 1 ≤ 1 + b := by omega
    have m3 : 1 + b ≤ 3 := by omega
    have k1 : 1 ≤ (1 + c).toNat := by omega
    have k3 : (1 + c).toNat ≤ 3 := by omega
    clear eS hz3 hz2' hz2 h4 e6 e5 e4 e3 e2 e1 fl
    generalize 1 + a = f at *
    generalize 1 + b = m at *
    generalize (1 + c).toNat = k at *
    refine ⟨(by show 0 ≤ sizeLine; decide), fun B hB => ?_⟩
    have nB : B ≠ r := e7.rng.ne hB
    have nSB : S ≠ B := ne_of_none hS7 hB
    have hBH : H B = none := e7.free hB
    have e8 : Ext r H (upd H7 B (.lst [])) := e7.same (Same.upd (Same.refl _) hB)
    have hS8 : upd H7 B (.lst []) S = some (.lst ((badR f m k).map V.int)) := by rw [upd_ne nSB]; exact hS7
    have len : (((badR f m k).map V.int).length : Int) = k + 1 := by rw [List.length_map, badR_length]; omega
    refine ⟨_, rfl, S, _, rfl, .inl (SqL.of hS8), _, _, rfl, rfl, _, _, rfl, ⟨by omega, by omega, by omega, by omega⟩, ?_⟩
    rw [len]
    refine for_range (lo := 2) (n := ((k : Int) + 1 + 2 - 2).toNat) (fun i σ H' => ∃ v5 v6, σ = [some (.ref r), some (.int f), some (.int m), some (.ref S), some (.ref B), v5, v6] ∧ Ext r H H' ∧ H' S = some (.lst ((badR f m k).map V.int)) ∧ Brk H' B k (k ≤ i) (10 * i))
      ⟨_, _, rfl, e8, hS8, ⟨[], upd_same, Nat.le_refl _, fun _ => rfl, fun z => absurd z (by omega)⟩⟩ ?_ ?_
    · rintro i σ H' hi ⟨v5, v6, rfl, e, hs, bk⟩
      have hi' : i ≤ k := by omega
      refine ⟨_, rfl, _, _, rfl, rfl, ⟨by decide, by decide⟩, _, _, rfl, rfl, _, _, rfl, ⟨by omega, by omega, by omega, by omega⟩, ?_⟩
      refine for_range (lo := 1) (n := ((2 + (i : Int)) / 2 + 1 - 1).toNat) (fun j σ H2 => ∃ v6, σ = [some (.ref r), some (.int f), some (.int m), some (.ref S), some (.ref B), some (.int (2 + (i : Int))), v6] ∧ Ext r H H2 ∧ H2 S = some (.lst ((badR f m k).map V.int)) ∧ Brk H2 B k (k < i + 1 ∨ (k = i + 1 ∧ 1 ≤ j)) (10 * i + j))
        ⟨_, rfl, e, hs, bk.mono (by omega) (by omega)⟩ ?_ ?_
      · rintro j σ H2 hj ⟨v6, rfl, e2, hs2, bk2⟩
        have hj' : j < 3 := by omega
        have bl := badR_length (f := f) (m := m) (k := k)
        have nsB : S ≠ B := nSB
        refine ⟨_, rfl, (by show 3 ≤ sizeLine; decide), fun t1 ht1 => ⟨_, rfl, t1, S, badR f m k, 1, 0, _, rfl, SqT.of upd_same, SqL.of (by rw [upd_ne (ne_of_none hs2 ht1)]; exact hs2), by decide, by omega, by omega, by omega, by omega, ?_⟩⟩
        have s1 : Same H2 (upd H2 t1 (.tup [.ref S, .int 1, .int 0])) := Same.upd (Same.refl _) ht1
        generalize upd H2 t1 (.tup [.ref S, .int 1, .int 0]) = Ha at *
        have hsa := s1 _ _ hs2
        refine ⟨_, rfl, (by show 3 ≤ sizeLine; decide), fun t2 ht2 => ⟨_, rfl, t2, S, badR f m k, 1, 0, _, rfl, SqT.of upd_same, SqL.of (by rw [upd_ne (ne_of_none hsa ht2)]; exact hsa), by decide, by omega, by omega, by omega, by omega, ?_⟩⟩
        have s2 : Same H2 (upd Ha t2 (.tup [.ref S, .int 1, .int 0])) := Same.upd s1 (s1.free ht2)
        generalize upd Ha t2 (.tup [.ref S, .int 1, .int 0]) = Hb at *
        have hsb := s2 _ _ hs2
        refine ⟨_, rfl, (by show 3 ≤ sizeLine; decide), fun t3 ht3 => ⟨_, rfl, _, rfl, _, _, rfl, rfl, t3, S, badR f m k, 1, 0, _, rfl, SqT.of upd_same, SqL.of (by rw [upd_ne (ne_of_none hsb ht3)]; exact hsb), by decide, by omega, by omega, by omega, by omega, ?_⟩⟩
        have s3 : Same H2 (upd Hb t3 (.tup [.ref S, .int 1, .int 0])) := Same.upd s2 (s2.free ht3)
        generalize upd Hb t3 (.tup [.ref S, .int 1, .int 0]) = Hc at *
        have e3 := e2.same s3
        have hs3 := s3 _ _ hs2
        have bk3 := bk2.same s3
        refine ⟨_, _, rfl, rfl, _, _, rfl, rfl, _, rfl, ifD (fun cc => ?_) (fun cc => ?_)⟩
        · obtain ⟨ws, hB3, hl, hno, hw⟩ := bk3
          refine ⟨_, rfl, .inl ⟨rfl, _, SqL.of hB3⟩, _, rfl, _, rfl, _, rfl, _, _, rfl, rfl, (by show 2 ≤ sizeLine; decide), fun t4 ht4 => ?_⟩
          have n4 : B ≠ t4 := ne_of_none hB3 ht4
          refine ⟨B, ws, _, rfl, rfl, by rw [upd_ne n4]; exact hB3, small (by omega), ?_⟩
          have sB : ∀ b o, b ≠ B → Hc b = some o → upd (upd Hc t4 (.tup [.int (1 + (j : Int)), .int (2 + (i : Int) - (1 + (j : Int)))])) B (.lst (ws ++ [.ref t4])) b = some o := fun b o n e => by rw [upd_ne n, upd_ne (ne_of_none e ht4)]; exact e
          have e4 : Ext r H (upd (upd Hc t4 (.tup [.int (1 + (j : Int)), .int (2 + (i : Int) - (1 + (j : Int)))])) B (.lst (ws ++ [.ref t4]))) := (e3.same (Same.upd (Same.refl _) ht4)).put hBH nB
          have low : ¬ (k < i + 1 ∨ (k = i + 1 ∧ 1 ≤ j)) → k = i + 1 ∧ j = 0 := fun z => by
            by_cases z1 : i + 1 < k
            · exfalso
              rw [badR_lo (by omega) (by omega), badR_lo (by omega) (by omega), badR_lo (by omega) (by omega)] at cc
              omega
            · omega
          refine ⟨_, rfl, e4, sB _ _ nSB hs3, ⟨ws ++ [.ref t4], upd_same, by rw [List.length_append]; show ws.length + 1 ≤ _; omega, fun z => absurd (low fun y => z (by omega)) (by omega), fun _ => ?_⟩⟩
          by_cases y : k < i + 1 ∨ (k = i + 1 ∧ 1 ≤ j)
          · obtain ⟨b, rest, rfl, hb⟩ := hw y
            exact ⟨b, rest ++ [.ref t4], rfl, sB _ _ (fun z => by rw [z, hB3] at hb; cases hb) hb⟩
          · obtain ⟨ek, ej⟩ := low y
            rw [hno y]
            refine ⟨t4, [], rfl, ?_⟩
            rw [upd_ne (Ne.symm n4), upd_same]
            subst ej
            show some (HO.tup [V.int (1 + ((0 : Nat) : Int)), V.int (2 + (i : Int) - (1 + ((0 : Nat) : Int)))]) = _
            rw [show 1 + ((0 : Nat) : Int) = 1 by omega, show 2 + (i : Int) - 1 = (k : Int) by omega]
        · refine ⟨_, rfl, e3, hs3, bk3.mono ⟨fun z => by omega, fun z => ?_⟩ (by omega)⟩
          by_cases y : k = i + 1 ∧ j = 0
          · exfalso
            obtain ⟨ek, ej⟩ := y
            subst ej
            apply cc
            have v1 : cvAt (badR f m k) 1 0 (2 + (i : Int)) = 2 * f + m := by rw [show 2 + (i : Int) = (k : Int) + 1 by omega]; exact badR_at
            have v2 : cvAt (badR f m k) 1 0 (1 + ((0 : Nat) : Int)) = f := badR_lo (by omega) (by omega)
            have v3 : cvAt (badR f m k) 1 0 (2 + (i : Int) - (1 + ((0 : Nat) : Int))) = f := badR_lo (by omega) (by omega)
            show cvAt (badR f m k) 1 0 (1 + ((0 : Nat) : Int)) + cvAt (badR f m k) 1 0 (2 + (i : Int) - (1 + ((0 : Nat) : Int))) < cvAt (badR f m k) 1 0 (2 + (i : Int))
            omega
          · omega
      · rintro σ H2 ⟨v6, rfl, e2, hs2, bk2⟩
        exact ⟨_, _, rfl, e2, hs2, bk2.mono (by omega) (by omega)⟩
    · rintro σ H' ⟨v5, v6, rfl, e, hs, ⟨ws, hB2, hl, _, hw⟩⟩
      obtain ⟨w1, rest, rfl, hw1⟩ := hw (by omega)
      refine ⟨_, rfl, _, rfl, B, _, _, _, rfl, rfl, SqL.of hB2, at0, (by show 2 ≤ sizeLine; decide), fun w hw0 => ?_⟩
      refine kk _ w S w1 f m k (e.same (Same.upd (Same.refl _) hw0)) (e.free hw0) hSH f1 f3 m1 m3 k1 k3 upd_same ?_ ?_
      · rw [upd_ne (ne_of_none hs hw0)]; exact hs
      · rw [upd_ne (ne_of_none hw1 hw0)]; exact hw1
end
end VK


namespace VK
open PySem PySem.Spec PyProof.Rows L2 VM
theorem f_up {f : Int → Int} (h0 : f 0 = 0) (G : ∀ a b : Int, 0 ≤ a → 0 ≤ b → f (a + b) ≤ f a + f b) (U : Up f) (i : Nat) : f i ≤ f ((i : Int) + 1) := by
  have a := greedy_free h0 G i
  have b := U.free (greedy_kept h0 G i)
  omega
/-- all units at once: the shaped record is the greedy one -/
theorem shaped_flood {f : Int → Int} (h0 : f 0 = 0) (G : ∀ a b : Int, 0 ≤ a → 0 ≤ b → f (a + b) ≤ f a + f b) (U : Up f) {q : Int} : ∀ n : Nat, f ((n : Int) + 1) ≤ q → shG f (q :: List.replicate n 0) = (greedyM f (n + 1), q - f ((n : Int) + 1))
  | 0, h => by
    have e := greedy_free h0 G 0
    have g0 : greedyM f 0 = [] := rfl
    rw [g0, show f ((0 : Nat) : Int) = 0 from h0] at e
    show shS f ([], 0) q = _
    unfold shS
    have g1 : greedyM f (0 + 1) = [f (((0 : Nat) : Int) + 1)] := by rw [greedy_succ, g0, show f ((0 : Nat) : Int) = 0 from h0]; simp
    rw [g1]
    simp only []
    rw [e]
    have m : min (0 + q) (f (((0 : Nat) : Int) + 1) - 0) = f (((0 : Nat) : Int) + 1) := by omega
    rw [m]
    exact Prod.ext rfl (by show 0 + q - _ = q - _; omega)
  | n + 1, h => by
    have up := f_up h0 G U (n + 1)
    have ih := shaped_flood (q := q) h0 G U n (by rw [show ((n + 1 : Nat) : Int) = (n : Int) + 1 by omega] at up h; omega)
    rw [List.replicate_succ', ← List.cons_append, shG_push, ih]
    unfold shS
    simp only []
    rw [greedy_free h0 G (n + 1)]
    rw [show ((n + 1 : Nat) : Int) = (n : Int) + 1 by omega] at up h ⊢
    have m : min (q - f ((n : Int) + 1) + 0) (f ((n : Int) + 1 + 1) - f ((n : Int) + 1)) = f ((n : Int) + 1 + 1) - f ((n : Int) + 1) := by omega
    rw [m]
    refine Prod.ext ?_ (by show _ - _ + 0 - _ = q - _; omega)
    show greedyM f (n + 1) ++ [_] = greedyM f (n + 1 + 1)
    rw [greedy_succ (n := n + 1), show ((n + 1 : Nat) : Int) = (n : Int) + 1 by omega]
theorem firstN_none {p : Nat → Bool} : ∀ k i : Nat, (∀ j, i ≤ j → j < i + k → p j = false) → firstN p k i = none
  | 0, _, _ => rfl
  | k + 1, i, h => by
    unfold firstN
    rw [if_neg (by rw [h i (Nat.le_refl _) (by omega)]; decide)]
    exact firstN_none k (i + 1) fun j a b => h j (by omega) (by omega)
theorem firstN_last {p : Nat → Bool} : ∀ k i : Nat, (∀ j, i ≤ j → j < i + k → p j = false) → p (i + k) = true → firstN p (k + 1) i = some (i + k)
  | 0, i, _, t => by
    unfold firstN
    rw [if_pos (by simpa using t)]
    rfl
  | k + 1, i, h, t => by
    unfold firstN
    rw [if_neg (by rw [h i (Nat.le_refl _) (by omega)]; decide)]
    have := firstN_last k (i + 1) (fun j a b => h j (by omega) (by omega)) (by rw [show i + 1 + k = i + (k + 1) by omega]; exact t)
    rw [this]
    congr 1
    omega
/-- the greedy record with a unit more in its last tick -/
def moreM (f : Int → Int) (m : Nat) : List Int := greedyM f m ++ [f ((m : Int) + 1) - f m + 1]
theorem more_length {f : Int → Int} {m : Nat} : (moreM f m).length = m + 1 := by unfold moreM; rw [List.length_append, greedy_length]; rfl
theorem more_win {f : Int → Int} (h0 : f 0 = 0) {m s t : Nat} (h : s + t ≤ m) : win (moreM f m) s t = f ((s : Int) + t) - f s := by
  unfold win moreM
  rw [pre_push (by rw [greedy_length]; omega), pre_push (by rw [greedy_length]; omega)]
  have a := greedy_pre h0 (n := m) (i := s + t) h
  have b := greedy_pre h0 (n := m) (i := s) (by omega)
  rw [show ((s + t : Nat) : Int) = (s : Int) + t by omega] at a
  rw [a, b]
theorem more_end {f : Int → Int} (h0 : f 0 = 0) {m s t : Nat} (h : s + t = m + 1) (h1 : 1 ≤ t) : win (moreM f m) s t = f ((m : Int) + 1) + 1 - f s := by
  unfold win
  have a : pre (moreM f m) ((s : Int) + t) = f ((m : Int) + 1) + 1 := by
    have l := pre_last (e := greedyM f m) (x := f ((m : Int) + 1) - f m + 1) (i := (s : Int) + t) (by rw [greedy_length]; omega)
    have g := greedy_pre h0 (n := m) (i := m) (Nat.le_refl _)
    rw [greedy_length, g] at l
    unfold moreM
    rw [l]
    omega
  have b : pre (moreM f m) s = f s := by
    unfold moreM
    rw [pre_push (by rw [greedy_length]; omega)]
    exact greedy_pre h0 (by omega)
  rw [a, b]
theorem brk_more {f : Int → Int} (h0 : f 0 = 0) (G : ∀ a b : Int, 0 ≤ a → 0 ≤ b → f (a + b) ≤ f a + f b) {m s : Nat} (hs : s ≤ m + 1) (v : f s < f ((m : Int) + 1) + 1 - f ((m : Int) + 1 - s)) :
    ∀ k len : Nat, len + k = m + 2 → 1 ≤ len → len ≤ s → (∀ t : Nat, len ≤ t → t < s → ¬ f t < f ((m : Int) + 1) + 1 - f ((m : Int) + 1 - t)) → brk f (moreM f m) k len = some ((s : Int), (m : Int) + 1 - s, 1)
  | 0, len, e, _, ls, _ => by omega
  | k + 1, len, e, l1, ls, no => by
    unfold brk
    have sub : ∀ j : Nat, 0 ≤ j → j < 0 + (m + 1 - len) → decide (f len < win (moreM f m) j len) = false := fun j _ hj => by
      rw [more_win h0 (by omega)]
      have := G j len (by omega) (by omega)
      exact decide_eq_false (by omega)
    have lastw : win (moreM f m) ((0 + (m + 1 - len) : Nat) : Int) len = f ((m : Int) + 1) + 1 - f ((m : Int) + 1 - len) := by
      rw [more_end h0 (s := 0 + (m + 1 - len)) (t := len) (by omega) l1]
      rw [show ((0 + (m + 1 - len) : Nat) : Int) = (m : Int) + 1 - len by omega]
    by_cases c : len = s
    · subst c
      rw [more_length, show m + 1 + 1 - len = (m + 1 - len) + 1 by omega, firstN_last (m + 1 - len) 0 sub (by rw [lastw]; exact decide_eq_true v)]
      simp only []
      rw [lastw]
      have g := G ((m : Int) + 1 - len) len (by omega) (by omega)
      rw [show (m : Int) + 1 - len + len = (m : Int) + 1 by omega] at g
      have x : f ((m : Int) + 1) + 1 - f ((m : Int) + 1 - len) - f len = 1 := by omega
      rw [x, show ((0 + (m + 1 - len) : Nat) : Int) = (m : Int) + 1 - len by omega]
    · rw [more_length, firstN_none (m + 1 + 1 - len) 0 fun j a b => by
        by_cases z : j < 0 + (m + 1 - len)
        · exact sub j a z
        · have ej : j = 0 + (m + 1 - len) := by omega
          subst ej
          rw [lastw]
          exact decide_eq_false (no len (Nat.le_refl _) (by omega))]
      simp only []
      exact brk_more h0 G hs v k (len + 1) (by omega) (by omega) (by omega) fun t a b => no t (by omega) b
/-- the shortest window up to the last tick with too many -/
theorem breach_more {f : Int → Int} (h0 : f 0 = 0) (G : ∀ a b : Int, 0 ≤ a → 0 ≤ b → f (a + b) ≤ f a + f b) {m s : Nat} (h1 : 1 ≤ s) (hs : s ≤ m + 1) (v : f s < f ((m : Int) + 1) + 1 - f ((m : Int) + 1 - s))
    (no : ∀ t : Nat, 1 ≤ t → t < s → ¬ f t < f ((m : Int) + 1) + 1 - f ((m : Int) + 1 - t)) : breachM f (moreM f m) = some ((s : Int), (m : Int) + 1 - s, 1) := by
  unfold breachM
  rw [more_length]
  exact brk_more h0 G hs v (m + 1) 1 (by omega) (Nat.le_refl _) h1 no
end VK


namespace VK
open PySem PySem.Spec PyProof.Rows L2 VM
theorem kb_init2 {K : PySem.W.Frag} {mg : Str → Option Value} {A : Ad} (T : Txt K mg A) : ∃ mv : List Value, KBn K A.d_C_init ["self", "values", "period", "gain"] 2 ["period", "gain"] (fun us ws => us ++ ws) (fun vs zs => vs ++ zs) := by
  obtain ⟨mv, h⟩ := T.F_C_init.kbinds0 (ps := ["self", "values", "period", "gain"]) 2 ["period", "gain"] [] (fun us _ ws => us ++ ws) (by simp) (by simp) (fun a _ c => a.append c)
    (fun D doc pm an cdv ct us mv ws h1 h2 h3 => match us, mv, ws, h1, h2, h3 with | [_, _], [], [_, _], _, _, _ => rfl)
  exact ⟨mv, h⟩
/-- a unit more is too many in the last s ticks -/
def Vio (f : Int → Int) (n s : Nat) : Prop := f s < f ((n : Int) + 1) + 1 - f ((n : Int) + 1 - s)
/-- the sizes found so far -/
def Fnd (f : Int → Int) (n : Nat) (H : Hp) (B : Addr) (i : Nat) : Prop := ∃ ws : List V, H B = some (.lst ws) ∧ ws.length ≤ i ∧ ((ws = [] ∧ ∀ s : Nat, 1 ≤ s → s ≤ i → ¬ Vio f n s) ∨
  ∃ (s : Nat) (rest : List V), ws = .int s :: rest ∧ 1 ≤ s ∧ s ≤ i ∧ Vio f n s ∧ ∀ t : Nat, 1 ≤ t → t < s → ¬ Vio f n t)
theorem iteDT23 {c X Y : Prop} [Decidable c] (hc : c) (h : X) : if decide c = true then X else Y := by rw [decide_eq_true hc]; exact iteT h
def sp_l_long_right (_ : PySem.W.Frag) (_ : Ad) : Sp := fun vs H Q _ => ∃ (r : Addr), vs = [.ref r] ∧ Rng H r ∧ ∀ H', Ext r H H' → Q (.bl true) H'
section
variable {P : Program} {w : World} {K : PySem.W.Frag} {mg : Str → Option Value} {base : Heap} {A : Ad}
theorem ok_l_long_right (T : Txt K mg A) : VG.FnG P w K mg base CX0 10 A.f_l_long_right A.d_l_long_right ["_law_rng_here"] (sp_l_long_right K A) := by
  have G_C_init := ok_C_init (P := P) (w := w) (base := base) T
  have G_breach := ok_breach (P := P) (w := w) (base := base) T
  have G_greedy := ok_greedy (P := P) (w := w) (base := base) T
  have G_keeps := ok_keeps (P := P) (w := w) (base := base) T
  have G_l_at := ok_l_at (P := P) (w := w) (base := base) T
  have G_l_draw := ok_l_draw (P := P) (w := w) (base := base) T
  have G_l_policed := ok_l_policed (P := P) (w := w) (base := base) T
  have G_l_row := ok_l_row (P := P) (w := w) (base := base) T
  have G_shaped := ok_shaped (P := P) (w := w) (base := base) T
  obtain ⟨mv1, kb_Curve_period_gain⟩ := kb_init2 T
  refine VG.okG0 T.F_l_long_right sc_l_long_right (fun vs H Q E h => ?_) (fun cdv A0 outer s H vs Q E hA hr h => ?_)
  · obtain ⟨r, rfl, hr0, k⟩ := h
    rfl
  · obtain ⟨r, rfl, hr0, k⟩ := h
    refine ⟨_, (pss_cons (ps_asg (pe_tup (pa_cons (pe_call G_l_row (hr.mono (by decide)) rfl T.m_l_row T.k_l_row T.b_l_row .nil pass0 (pa_cons (pv 0) pa_nil)) (pa_cons (pe_op op_add pe_int (pe_call G_l_draw (hr.mono (by decide)) rfl T.m_l_draw T.k_l_draw T.b_l_draw .nil pass0 (pa_cons (pv 0) (pa_cons pe_int pa_nil)))) pa_nil))) (pg_tup rfl (pgs_cons (pg_name (i := 1) sc_l_long_right.nd rfl (by first | exact Or.inl rfl | exact Or.inr rfl)) (pgs_cons (pg_name (i := 2) sc_l_long_right.nd rfl (by first | exact Or.inl rfl | exact Or.inr rfl)) pgs_nil))))
    (pss_cons (ps_par (i := 3) (j := 4) (by rfl) sc_l_long_right.nd rfl rfl (by decide) rfl rfl (pa_cons (pe_makeK (n := 1) T.M_Curve G_C_init (hr.mono (by decide)) rfl T.m_Curve kb_Curve_period_gain pass0 (pa_cons (pe_callTy (r := VG.rListOf K) VG.call_listOf (by rfl) T.list (by decide +kernel) (pa_cons (pe_ix (r := rIxT K) ix_tup (pv 1) pe_int (fun _ _ => rfl)) pa_nil)) pa_nil) (pk_cons (pe_ix (r := rIxT K) ix_tup (pv 1) pe_int (fun _ _ => rfl)) (pk_cons (pe_ix (r := rIxT K) ix_tup (pv 1) pe_int (fun _ _ => rfl)) pk_nil))) (pa_cons (pe_lst pa_nil) pa_nil)) (by rfl))
    (pss_cons (ps_setLc (i := 5) (own := [("_law_tick", 9)]) (g := gName 9) (tt := tYes) rfl sc_l_long_right.nd rfl rfl (sw_true rfl rfl rfl (by decide +kernel)) (pi_range1 rfl T.range (pa_cons (pv 2) pa_nil)) (blkOk_by (own := [("_law_tick", 9)]) (N := ["_law_rng_here", "_law_row_here", "_law_span", "_law_line", "_law_found", "_law_due", "_law_flood", "_law_told", "_law_size", "_law_tick"]) (sc := defScope s_l_long_right) (by decide +kernel)) (fun _ _ _ _ _ => pg_name (i := 9) sc_l_long_right.nd rfl (Or.inl rfl)) (fun _ _ _ _ _ => pts_nil) (fun _ _ _ _ _ => (pe_op op_sub (pe_call G_l_at (hr.mono (by decide)) rfl T.m_l_at T.k_l_at T.b_l_at .nil pass0 (pa_cons (pv 1) (pa_cons (pe_op op_add (pv 9) pe_int) pa_nil))) (pe_call G_l_at (hr.mono (by decide)) rfl T.m_l_at T.k_l_at T.b_l_at .nil pass0 (pa_cons (pv 1) (pa_cons (pv 9) pa_nil))))))
    (pss_cons (ps_set (i := 6) sc_l_long_right.nd rfl (by first | exact Or.inl rfl | exact Or.inr rfl) (pe_op op_add (pe_callB (r := rSum K) (cr_sum rfl) (by rfl) T.sum (by decide +kernel) (pa_cons (pv 5) pa_nil)) (pe_call G_l_draw (hr.mono (by decide)) rfl T.m_l_draw T.k_l_draw T.b_l_draw .nil pass0 (pa_cons (pv 0) (pa_cons pe_int pa_nil)))))
    (pss_cons (ps_set (i := 7) sc_l_long_right.nd rfl (by first | exact Or.inl rfl | exact Or.inr rfl) (pe_lst (pa_cons (pe_call G_greedy (hr.mono (by decide)) rfl T.m_greedy T.k_greedy T.b_greedy .nil pass0 (pa_cons (pv 3) (pa_cons (pv 2) pa_nil))) (pa_cons (pe_call G_shaped (hr.mono (by decide)) rfl T.m_shaped T.k_shaped T.b_shaped .nil pass0 (pa_cons (pe_op op_cat (pe_lst (pa_cons (pv 6) pa_nil)) (pe_op op_rep (pe_lst (pa_cons pe_int pa_nil)) (pe_op op_sub (pv 2) pe_int))) (pa_cons (pv 3) pa_nil))) (pa_cons (pe_call G_l_policed (hr.mono (by decide)) rfl T.m_l_policed T.k_l_policed T.b_l_policed .nil pass0 (pa_cons (pv 3) (pa_cons (pv 2) (pa_cons (pv 6) pa_nil)))) pa_nil)))))
    (pss_cons (ps_if (PW.pt (pw_or (pt_cmpR op_ne (pe_callB (r := VG.rRepr K) (VG.call_repr hA hr.units) (by rfl) T.repr (by decide +kernel) (pa_cons (pv 7) pa_nil)) (pe_callB (r := VG.rRepr K) (VG.call_repr hA hr.units) (by rfl) T.repr (by decide +kernel) (pa_cons (pe_lst (pa_cons (pv 5) (pa_cons (pv 5) (pa_cons (pv 5) pa_nil)))) pa_nil)) (nomark _)) (pw_or1 (pt_not (pt_val (pe_call G_keeps (hr.mono (by decide)) rfl T.m_keeps T.k_keeps T.b_keeps .nil pass0 (pa_cons (pv 5) (pa_cons (pv 3) pa_nil)))))))) (pss_one (ps_ret pe_bl)) pss_nil)
    (pss_cons (ps_for PassesOwn.never rfl (pi_range2 rfl T.range (pa_cons pe_int (pa_cons (pe_op op_add (pv 2) pe_int) pa_nil))) (pg_name (i := 8) sc_l_long_right.nd rfl (by first | exact Or.inl rfl | exact Or.inr rfl))
      (pss_one (ps_if (pt_cmpR op_gt (pe_op op_add (pe_callB (r := rSum K) (cr_sum rfl) (by rfl) T.sum (by decide +kernel) (pa_cons (pe_slice (r := rSlL K) sl_list (pv 5) (po_some (pe_op op_sub (pv 2) (pv 8))) po_none) pa_nil)) pe_int) (pe_call G_l_at (hr.mono (by decide)) rfl T.m_l_at T.k_l_at T.b_l_at .nil pass0 (pa_cons (pv 1) (pa_cons (pv 8) pa_nil))) (nomark _)) (pss_one (ps_expr (pe_bm PySem.F.plainAttrs_list PySem.F.slot_list_append PySem.F.type_list_append mt_append (pv 4) (pa_cons (pv 8) pa_nil)))) pss_nil)))
    (pss_cons (ps_asg (pe_op op_add (pe_ix (r := rIxL K) ix_list (pv 5) (pe_un un_neg pe_int) (fun _ _ => rfl)) pe_int) (pg_sub (pv 5) (pe_un un_neg pe_int) set_list))
    (pss_one (ps_ret (pe_and (pe_cmpR op_eq (pe_callB (r := VG.rRepr K) (VG.call_repr hA hr.units) (by rfl) T.repr (by decide +kernel) (pa_cons (pe_call G_breach (hr.mono (by decide)) rfl T.m_breach T.k_breach T.b_breach .nil pass0 (pa_cons (pv 5) (pa_cons (pv 3) pa_nil))) pa_nil)) (pe_callB (r := VG.rRepr K) (VG.call_repr hA hr.units) (by rfl) T.repr (by decide +kernel) (pa_cons (pe_tup (pa_cons (pe_ix (r := rIxL K) ix_list (pv 4) pe_int (fun _ _ => rfl)) (pa_cons (pe_op op_sub (pv 2) (pe_ix (r := rIxL K) ix_list (pv 4) pe_int (fun _ _ => rfl))) (pa_cons pe_int pa_nil)))) pa_nil)) (nomark _)) (pe_one (pe_not (pe_call G_keeps (hr.mono (by decide)) rfl T.m_keeps T.k_keeps T.b_keeps .nil pass0 (pa_cons (pv 5) (pa_cons (pv 3) pa_nil)))))))))))))))), ?_⟩
    refine ⟨_, rfl, r, rfl, hr0, fun H1 t l xs p g e1 ht0 hl0 R1 G => ?_⟩
    have nlr := hr0.ne hl0
    refine ⟨_, rfl, r, _, rfl, e1.rng, by decide, by decide, fun H2 d e2 d0 d1 => ⟨_, _, rfl, rfl, (by show 2 ≤ sizeLine; decide), fun w0 hw0 => ?_⟩⟩
    refine ⟨w0, _, rfl, SqT.of upd_same, rfl, _, _, rfl, _, _, rfl, rfl, ?_⟩
    have e3 := e2.same (Same.upd (o := .tup [.ref t, .int (37 + d)]) (Same.refl _) hw0)
    have e03 := e1.trans e3
    have R3 := e3.row R1 e1.rng nlr
    obtain ⟨n, en⟩ : ∃ n : Nat, 37 + d = ((n + 1 : Nat) : Int) := ⟨(36 + d).toNat, by omega⟩
    have n4 : n + 1 ≤ 121 := by omega
    clear e2
    generalize upd H2 w0 (.tup [.ref t, .int (37 + d)]) = H3 at *
    simp only []
    rw [en]
    obtain ⟨p0, p12, pn, xn, x1⟩ := R3.pp
    obtain ⟨f1, f2, f3, f4, f5⟩ := form_spec (vs := xs) (g := g) p0 pn
    refine ⟨_, rfl, t, _, _, _, rfl, rfl, SqT.of R3.tup, rfl, l, _, rfl, .inl (SqL.of R3.lst), fun q hq => ?_⟩
    have s2 : Same H3 (upd H3 q (.lst (xs.map V.int))) := Same.upd (Same.refl _) hq
    have R2q := R3.same s2
    refine ⟨_, rfl, t, _, _, _, rfl, rfl, SqT.of R2q.tup, rfl, _, rfl, t, _, _, _, rfl, rfl, SqT.of R2q.tup, rfl, rfl, rfl, fun x dx hx hdx hne => ?_⟩
    have nqx : q ≠ x := fun z => by rw [← z, upd_same] at hx; cases hx
    have nqd : q ≠ dx := fun z => by rw [← z, upd_same] at hdx; cases hdx
    refine ⟨x, dx, q, xs, p, g, rfl, upd_same, SqL.of (show upd _ x _ q = some (.lst (xs.map V.int)) by rw [upd_ne nqx, upd_ne nqd, upd_same]), R3.ok, fun H5 dxc lc keep hlc c1 c2 => ⟨rfl, ?_⟩⟩
    have s35 : Same H3 H5 := fun b o e => keep b o (ne_of_none (s2 _ _ e) hx) (by rw [upd_ne (ne_of_none (s2 _ _ e) hx), upd_ne (ne_of_none (s2 _ _ e) hdx)]; exact s2 _ _ e)
    have nlcr : lc ≠ r := ((e03.rng.same s2).same (Same.upd (Same.upd (Same.refl _) hdx) hx)).ne hlc
    have hxH : H x = none := e03.free (s2.free hx)
    have hxr : x ≠ r := (e03.rng.same s2).ne hx
    refine ⟨(by show 0 ≤ sizeLine; decide), fun B hB => ⟨_, _, rfl, ?_⟩⟩
    have s36 : Same H3 (upd H5 B (.lst [])) := Same.upd s35 (s35.free hB)
    have c6 : upd H5 B (.lst []) x = some (.ins A.Curve dxc (cfs lc (formP xs p g).1 (formP xs p g).2 false)) := by rw [upd_ne (ne_of_none c1 hB)]; exact c1
    have v6 : upd H5 B (.lst []) lc = some (.lst ((formV xs p g).map V.int)) := by rw [upd_ne (ne_of_none c2 hB)]; exact c2
    have hB6 : upd H5 B (.lst []) B = some (.lst []) := upd_same
    have R6 := R3.same s36
    have e06 := e03.same s36
    have cfg : ∀ t : Int, 0 ≤ t → cvAt (formV xs p g) (formP xs p g).1 (formP xs p g).2 t = cvAt xs p g t := fun t h => by
      by_cases z : t = 0
      · subst z; rw [cvAt_zero, cvAt_zero]
      · exact f5 t (by omega)
    generalize upd H5 B (.lst []) = H6 at *
    have h0 : cvAt xs p g 0 = 0 := cvAt_zero
    refine ⟨_, rfl, _, rfl, by omega, by omega, fun D hD => ?_⟩
    refine lc_range (lo := 0) (n := ((n + 1 : Nat) : Int).toNat) (fun j H7 => H7 D = some (.lst ((greedyM (cvAt xs p g) j).map V.int)) ∧ Same H6 H7) ⟨upd_same, Same.upd (Same.refl _) hD⟩ ?_ ?_
    · rintro j H7 hj ⟨hD7, s7⟩
      have R7 := R6.same s7
      refine ⟨rfl, _, rfl, _, rfl, _, _, rfl, rfl, t, l, xs, p, g, _, rfl, SqT.of R7.tup, SqL.of R7.lst, p0, pn, xn, by omega, by omega, ?_⟩
      refine ⟨_, rfl, _, rfl, t, l, xs, p, g, _, rfl, SqT.of R7.tup, SqL.of R7.lst, p0, pn, xn, by omega, by omega, _, _, rfl, rfl, _, hD7, small (by rw [List.length_map, greedy_length]; omega), ?_, Same.upd s7 hD⟩
      rw [upd_same, greedy_succ, List.map_append, Int.zero_add]
      rfl
    rintro H7 ⟨hD7, s7⟩
    rw [Int.toNat_natCast] at hD7
    refine ⟨_, rfl, D, _, rfl, SqL.of hD7, ?_⟩
    have e07 := e06.same s7
    refine ⟨_, rfl, r, _, rfl, e07.rng, by decide, by decide, fun H8 z e8 z0 z1 => ⟨_, _, rfl, rfl, ?_⟩⟩
    simp only []
    rw [greedy_sum h0]
    have nDr : D ≠ r := fun y => by obtain ⟨a1, a2, a3, _⟩ := e06.rng; rw [y, a3] at hD; cases hD
    have nBr : B ≠ r := fun y => by obtain ⟨a1, a2, a3, _⟩ := e06.rng; rw [y, a3] at hB6; cases hB6
    have hD8 := e8.keep _ _ nDr hD7
    have hB8 := e8.keep _ _ nBr (s7 _ _ hB6)
    have c8 := e8.keep _ _ hxr (s7 _ _ c6)
    have v8 := e8.keep _ _ nlcr (s7 _ _ v6)
    have R8 := e8.row (R6.same s7) e07.rng nlr
    have e08 := e07.trans e8
    have hC8 : CrvAt A H8 x (formV xs p g) (formP xs p g).1 (formP xs p g).2 := ⟨dxc, lc, false, c8, v8⟩
    have GF : GoodC (cvAt (formV xs p g) (formP xs p g).1 (formP xs p g).2) (formV xs p g).length := fun a b h1 h2 h3 => by
      rw [cfg _ (by omega), cfg _ (by omega), cfg _ (by omega)]
      exact G a b h1 h2 (by omega)
    have lF : (formV xs p g).length ≤ 1000 := by omega
    have GA : ∀ a b : Int, 0 ≤ a → 0 ≤ b → cvAt xs p g (a + b) ≤ cvAt xs p g a + cvAt xs p g b := good_all (Rep.cvAt p0 pn) p0 pn h0 G
    have GAF : ∀ a b : Int, 0 ≤ a → 0 ≤ b → cvAt (formV xs p g) (formP xs p g).1 (formP xs p g).2 (a + b) ≤ cvAt (formV xs p g) (formP xs p g).1 (formP xs p g).2 a + cvAt (formV xs p g) (formP xs p g).1 (formP xs p g).2 b := fun a b ha hb => by
      rw [cfg _ (by omega), cfg _ ha, cfg _ hb]; exact GA a b ha hb
    have U := R3.up
    have UF : Up (cvAt (formV xs p g) (formP xs p g).1 (formP xs p g).2) := ⟨by rw [cfg _ (by omega)]; exact U.one, fun k h => by rw [cfg _ (by omega), cfg _ (by omega)]; exact U.up k h⟩
    have fup := f_up h0 GA U
    have fnn : ∀ i : Nat, 0 ≤ cvAt xs p g i := fun i => by
      induction i with
      | zero => exact Int.le_of_eq h0.symm
      | succ i ih => have := fup i; rw [show ((i + 1 : Nat) : Int) = (i : Int) + 1 by omega]; omega
    have gcg : greedyM (cvAt (formV xs p g) (formP xs p g).1 (formP xs p g).2) (n + 1) = greedyM (cvAt xs p g) (n + 1) := by
      unfold greedyM
      exact List.map_congr_left fun t _ => by rw [cfg _ (by omega), cfg _ (by omega)]
    refine ⟨_, rfl, _, rfl, x, formV xs p g, (formP xs p g).1, (formP xs p g).2, n + 1, rfl, hC8, f1, f3, lF, GF, by omega, fun H9 g1 k9 hg10 hg1 => ?_⟩
    rw [gcg] at hg1
    have fl0 : (List.replicate (((n + 1 : Nat) : Int) - 1).toNat [V.int 0]).flatten = (List.replicate n (0 : Int)).map V.int := by
      rw [show (((n + 1 : Nat) : Int) - 1).toNat = n by omega, List.map_replicate]
      generalize n = w
      induction w with
      | zero => rfl
      | succ w ih => rw [List.replicate_succ, List.flatten_cons, ih, List.replicate_succ]; rfl
    refine ⟨_, rfl, (by show 1 ≤ sizeLine; decide), fun a1 ha1 => ⟨(by show 1 ≤ sizeLine; decide), fun a2 ha2 => ⟨_, rfl, _, _, rfl, rfl, a2, _, _, rfl, rfl, upd_same, by omega, by omega, (by rw [sizeLine_eq]; show 1 * (((n + 1 : Nat) : Int) - 1).toNat ≤ 16777216; omega), fun a3 ha3 => ?_⟩⟩⟩
    have sa1 : Same H9 (upd H9 a1 (.lst [.int (cvAt xs p g ((n + 1 : Nat) : Int) + z)])) := Same.upd (Same.refl _) ha1
    have ha1' : upd H9 a1 (.lst [.int (cvAt xs p g ((n + 1 : Nat) : Int) + z)]) a1 = some (.lst [.int (cvAt xs p g ((n + 1 : Nat) : Int) + z)]) := upd_same
    have sa2 : Same (upd H9 a1 (.lst [.int (cvAt xs p g ((n + 1 : Nat) : Int) + z)])) (upd (upd H9 a1 (.lst [.int (cvAt xs p g ((n + 1 : Nat) : Int) + z)])) a2 (.lst [.int 0])) := Same.upd (Same.refl _) ha2
    rw [fl0]
    have ha12 := sa2 _ _ ha1'
    have sa12 := sa1.trans sa2
    generalize upd (upd H9 a1 (.lst [.int (cvAt xs p g ((n + 1 : Nat) : Int) + z)])) a2 (.lst [.int 0]) = Ha at *
    have sa3 : Same Ha (upd Ha a3 (.lst ((List.replicate n (0 : Int)).map V.int))) := Same.upd (Same.refl _) ha3
    have ha13 := sa3 _ _ ha12
    refine ⟨a1, a3, _, _, rfl, rfl, ha13, upd_same, (by rw [List.length_map, List.length_replicate, sizeLine_eq]; show 1 + n ≤ 16777216; omega), fun a4 ha4 => ?_⟩
    have sa4 := sa12.trans (Same.upd (o := .lst (((cvAt xs p g ((n + 1 : Nat) : Int) + z) :: List.replicate n 0).map V.int)) sa3 (sa3.free ha4))
    have h4 : upd (upd Ha a3 (.lst ((List.replicate n (0 : Int)).map V.int))) a4 (.lst (((cvAt xs p g ((n + 1 : Nat) : Int) + z) :: List.replicate n 0).map V.int)) a4 = some (.lst (((cvAt xs p g ((n + 1 : Nat) : Int) + z) :: List.replicate n 0).map V.int)) := upd_same
    refine ⟨_, rfl, a4, x, (cvAt xs p g ((n + 1 : Nat) : Int) + z) :: List.replicate n 0, formV xs p g, (formP xs p g).1, (formP xs p g).2, rfl, SqL.of h4, ?_, ?_, (k9.crv _ _ _ hC8).same sa4, f1, f3, lF, GF, fun H11 sh k11 hsh0 hsh => ?_⟩
    · show (List.replicate n (0 : Int)).length + 1 ≤ 900
      rw [List.length_replicate]; omega
    · intro i hi
      cases i with
      | zero => show 0 ≤ cvAt xs p g ((n + 1 : Nat) : Int) + z; have := fnn (n + 1); omega
      | succ i => show 0 ≤ (List.replicate n (0 : Int)).getD i 0; simp [List.getD, List.getElem?_replicate]; split <;> decide
    have S9 := k9.srch
    have s11 := k11.same (S9.same sa4)
    have shE : shapedM (cvAt (formV xs p g) (formP xs p g).1 (formP xs p g).2) ((cvAt xs p g ((n + 1 : Nat) : Int) + z) :: List.replicate n 0) = greedyM (cvAt xs p g) (n + 1) := by
      unfold shapedM
      rw [shG_congr (g := cvAt xs p g) fun t a _ => cfg t (by omega), shaped_flood h0 GA U n (by rw [show (n : Int) + 1 = ((n + 1 : Nat) : Int) by omega]; omega)]
    rw [shE] at hsh
    have s911 := sa4.trans s11
    have hC11 := (k9.crv _ _ _ hC8).same s911
    refine ⟨_, rfl, _, rfl, _, rfl, x, formV xs p g, (formP xs p g).1, (formP xs p g).2, cvAt xs p g ((n + 1 : Nat) : Int) + z, n + 1, rfl, hC11, S9.same s911, f1, f3, lF, GF, GAF, UF, by omega, by rw [cfg _ (by omega)]; omega, fun H12 po s12 hpo0 hpo => ⟨(by show 3 ≤ sizeLine; decide), fun T hT => ?_⟩⟩
    rw [gcg] at hpo
    have s13 : Same H12 (upd H12 T (.lst [.ref g1, .ref sh, .ref po])) := Same.upd (Same.refl _) hT
    have hTT : upd H12 T (.lst [.ref g1, .ref sh, .ref po]) T = some (.lst [.ref g1, .ref sh, .ref po]) := upd_same
    have s1213 := s12.trans s13
    have s913 := s911.trans s1213
    have nDx : D ≠ x := ne_of hD8 c8 (fun y => by cases y)
    have nBx : B ≠ x := ne_of hB8 c8 (fun y => by cases y)
    have ntx : t ≠ x := ne_of R8.tup c8 (fun y => by cases y)
    have nlx : l ≠ x := ne_of R8.lst c8 (fun y => by cases y)
    have hDz := s913 _ _ (k9.ne nDx hD8)
    have hBz := s913 _ _ (k9.ne nBx hB8)
    have hgz := s913 _ _ hg1
    have hsz := s1213 _ _ hsh
    have hpz := s13 _ _ hpo
    have Rz : RowAt (upd H12 T (.lst [.ref g1, .ref sh, .ref po])) t l xs p g := ⟨s913 _ _ (k9.ne ntx R8.tup), s913 _ _ (k9.ne nlx R8.lst), R8.ok, R8.low⟩
    have hCz := hC11.same s1213
    have e0z : Ext r H (upd H12 T (.lst [.ref g1, .ref sh, .ref po])) := by
      refine ⟨fun b o nb e => s913 _ _ (k9.ne (ne_of_none e hxH) (e08.keep b o nb e)), ?_⟩
      obtain ⟨y1, y2, y3, y4⟩ := e08.rng
      exact ⟨y1, y2, s913 _ _ (k9.ne (Ne.symm hxr) y3), y4⟩
    generalize upd H12 T (.lst [.ref g1, .ref sh, .ref po]) = Hz at *
    have gsz : VR.Sz 2 400000 (.list [.list ((greedyM (cvAt xs p g) (n + 1)).map PyData.int), .list ((greedyM (cvAt xs p g) (n + 1)).map PyData.int), .list ((greedyM (cvAt xs p g) (n + 1)).map PyData.int)]) := by
      have p1 : (1000 : Nat) < 10 ^ 100 := by decide +kernel
      have b1 : VR.Sz 1 110000 (.list ((greedyM (cvAt xs p g) (n + 1)).map PyData.int)) := (VR.Sz.ints (n := 1000) (fun u hu => by
        unfold greedyM at hu
        obtain ⟨i, hi, rfl⟩ := List.mem_map.mp hu
        have a := fup i
        have b := GA i 1 (by omega) (by omega)
        have c := row_one R3
        omega) (by rw [greedy_length]; omega)).mono (by decide) (by decide)
      refine (VR.Sz.list (k := 1) (L := 110000) (n := 3) (fun d hd => ?_) (Nat.le_refl _)).mono (by decide) (by decide)
      simp only [List.mem_cons, List.not_mem_nil, or_false] at hd
      rcases hd with rfl | rfl | rfl <;> exact b1
    obtain ⟨z1', z2', z3'⟩ : (PyData.list [.list ((greedyM (cvAt xs p g) (n + 1)).map PyData.int), .list ((greedyM (cvAt xs p g) (n + 1)).map PyData.int), .list ((greedyM (cvAt xs p g) (n + 1)).map PyData.int)]).showable = true ∧ (PyData.list [.list ((greedyM (cvAt xs p g) (n + 1)).map PyData.int), .list ((greedyM (cvAt xs p g) (n + 1)).map PyData.int), .list ((greedyM (cvAt xs p g) (n + 1)).map PyData.int)]).depth ≤ 60 ∧ (PyData.list [.list ((greedyM (cvAt xs p g) (n + 1)).map PyData.int), .list ((greedyM (cvAt xs p g) (n + 1)).map PyData.int), .list ((greedyM (cvAt xs p g) (n + 1)).map PyData.int)]).shown.length ≤ sizeLine := ⟨gsz.sh, Nat.le_trans gsz.dp (by decide), Nat.le_trans gsz.ln (by rw [sizeLine_eq]; decide)⟩
    refine ⟨_, rfl, .ref T, _, rfl, .lst (SqL.of hTT) (.cons (.lst (SqL.of hgz) (dp_ints _)) (.cons (.lst (SqL.of hsz) (dp_ints _)) (.cons (.lst (SqL.of hpz) (dp_ints _)) .nil))), z1', z2', z3', ?_⟩
    refine ⟨_, rfl, _, rfl, _, rfl, (by show 3 ≤ sizeLine; decide), fun T2 hT2 => ?_⟩
    have sT2 : Same Hz (upd Hz T2 (.lst [.ref D, .ref D, .ref D])) := Same.upd (Same.refl _) hT2
    have dD := sT2 _ _ hDz
    refine ⟨.ref T2, _, rfl, .lst (SqL.of upd_same) (.cons (.lst (SqL.of dD) (dp_ints _)) (.cons (.lst (SqL.of dD) (dp_ints _)) (.cons (.lst (SqL.of dD) (dp_ints _)) .nil))), z1', z2', z3', ?_⟩
    generalize (PyData.list [.list ((greedyM (cvAt xs p g) (n + 1)).map PyData.int), .list ((greedyM (cvAt xs p g) (n + 1)).map PyData.int), .list ((greedyM (cvAt xs p g) (n + 1)).map PyData.int)]).shown = tx
    have kpt : breachM (cvAt (formV xs p g) (formP xs p g).1 (formP xs p g).2) (greedyM (cvAt xs p g) (n + 1)) = none := by rw [← gcg]; exact kept_iff.mpr (greedy_kept cvAt_zero GAF _)
    have gcn : Cnts (greedyM (cvAt xs p g) (n + 1)) := fun i hi => by
      rw [greedy_length] at hi
      have e : (greedyM (cvAt xs p g) (n + 1)).getD i 0 = cvAt xs p g ((i : Int) + 1) - cvAt xs p g i := by
        unfold greedyM
        simp [List.getD, hi]
      rw [e]
      have := fup i
      omega
    refine ⟨rfl, _, rfl, iteNS rfl ?_⟩
    refine ⟨_, rfl, _, rfl, D, x, greedyM (cvAt xs p g) (n + 1), formV xs p g, (formP xs p g).1, (formP xs p g).2, rfl, SqL.of dD, by rw [greedy_length]; omega, gcn, hCz.same sT2, f1, f3, lF, fun Hk sk => ?_⟩
    rw [kpt]
    refine ⟨_, rfl, iteF ?_⟩
    have sz2 := sT2.trans sk
    have nBD : B ≠ D := ne_of_none hB6 hD
    have nlB : l ≠ B := ne_of_none (s35 _ _ R3.lst) hB
    have nlcB : lc ≠ B := ne_of_none c2 hB
    have nlcx : lc ≠ x := ne_of v8 c8 (fun y => by cases y)
    have cK := sz2 _ _ (s913 _ _ (k9.obj _ _ _ _ _ c8))
    have vK := sz2 _ _ (s913 _ _ (k9.ne nlcx v8))
    have dK := sz2 _ _ hDz
    have bK := sz2 _ _ hBz
    have RK := Rz.same sz2
    have eK := e0z.same sz2
    have hBH : H B = none := e03.free (s35.free hB)
    clear kpt gcn sz2 dD sT2 hT2 gsz z1' z2' z3' hCz hpz hsz hgz hBz hDz e0z Rz s913 s1213 s13 hTT hT
    refine ⟨_, rfl, _, _, rfl, rfl, _, _, rfl, ⟨by omega, by omega, by omega, by omega⟩, ?_⟩
    refine for_range (lo := 1) (n := (((n + 1 : Nat) : Int) + 1 - 1).toNat) (fun i σ H' => ∃ v8, σ = [some (.ref r), some (.ref t), some (.int ((n + 1 : Nat) : Int)), some (.ref x), some (.ref B), some (.ref D), some (.int (cvAt xs p g ((n + 1 : Nat) : Int) + z)), some (.ref T), v8, none] ∧
        Ext r H H' ∧ H' D = some (.lst ((greedyM (cvAt xs p g) (n + 1)).map V.int)) ∧ RowAt H' t l xs p g ∧ H' x = some (.ins A.Curve dxc (cfs lc (formP xs p g).1 (formP xs p g).2 true)) ∧ H' lc = some (.lst ((formV xs p g).map V.int)) ∧ Fnd (cvAt xs p g) n H' B i)
      ⟨_, rfl, eK, dK, RK, cK, vK, ⟨[], bK, Nat.le_refl _, .inl ⟨rfl, fun s a b => by omega⟩⟩⟩ ?_ ?_
    · rintro i σ H' hi ⟨v8', rfl, e, hd, R, hc, hv, fd⟩
      have hi' : i < n + 1 := by omega
      obtain ⟨ws, hb, hl, fd⟩ := fd
      refine ⟨_, rfl, _, rfl, _, rfl, _, _, rfl, rfl, _, rfl, D, _, rfl, SqL.of hd, fun q hq => ?_⟩
      have eq : (((n + 1 : Nat) : Int) - (1 + (i : Int))) = ((n - i : Nat) : Int) := by omega
      have ec : cutV ((greedyM (cvAt xs p g) (n + 1)).map V.int) (some (((n + 1 : Nat) : Int) - (1 + (i : Int)))) none = ((greedyM (cvAt xs p g) (n + 1)).drop (n - i)).map V.int := by rw [eq]; exact cut_from (by rw [greedy_length]; omega)
      have hq2 : upd H' q (.lst (cutV ((greedyM (cvAt xs p g) (n + 1)).map V.int) (some (((n + 1 : Nat) : Int) - (1 + (i : Int)))) none)) q = some (.lst (((greedyM (cvAt xs p g) (n + 1)).drop (n - i)).map V.int)) := by rw [upd_same, ec]
      have sq : Same H' (upd H' q (.lst (cutV ((greedyM (cvAt xs p g) (n + 1)).map V.int) (some (((n + 1 : Nat) : Int) - (1 + (i : Int)))) none))) := Same.upd (Same.refl _) hq
      have R2 := R.same sq
      refine ⟨q, _, rfl, SqL.of hq2, _, _, rfl, rfl, _, rfl, _, rfl, t, l, xs, p, g, _, rfl, SqT.of R2.tup, SqL.of R2.lst, p0, pn, xn, by omega, by omega, _, _, rfl, rfl, _, rfl, ?_⟩
      have et : ((greedyM (cvAt xs p g) (n + 1)).drop (n - i)).sum = cvAt xs p g ((n : Int) + 1) - cvAt xs p g ((n : Int) + 1 - ((i + 1 : Nat) : Int)) := by
        have a := sum_from (us := greedyM (cvAt xs p g) (n + 1)) (k := i + 1) (by rw [greedy_length]; omega)
        rw [greedy_length, show n + 1 - (i + 1) = n - i by omega] at a
        rw [a, tl_pre (by rw [greedy_length]; omega), greedy_sum h0, greedy_length]
        have b := greedy_pre h0 (n := n + 1) (i := n - i) (by omega)
        rw [show (((n + 1 : Nat) : Int) - ((i + 1 : Nat) : Int)) = ((n - i : Nat) : Int) by omega, b]
        rw [show ((n + 1 : Nat) : Int) = (n : Int) + 1 by omega, show (n : Int) + 1 - ((i + 1 : Nat) : Int) = ((n - i : Nat) : Int) by omega]
      rw [et]
      have vio : Vio (cvAt xs p g) n (i + 1) ↔ cvAt xs p g (1 + (i : Int)) < cvAt xs p g ((n : Int) + 1) - cvAt xs p g ((n : Int) + 1 - ((i + 1 : Nat) : Int)) + 1 := by
        unfold Vio
        rw [show ((i + 1 : Nat) : Int) = 1 + (i : Int) by omega]
        omega
      refine ifD (fun cc => ?_) (fun cc => ?_)
      · have hv1 := vio.mpr cc
        have hb2 := sq _ _ hb
        have kB : ∀ (o : HO) b u, b ≠ B → H' b = some u → upd (upd H' q (.lst (cutV ((greedyM (cvAt xs p g) (n + 1)).map V.int) (some (((n + 1 : Nat) : Int) - (1 + (i : Int)))) none))) B o b = some u := fun o b u nb e => (upd_ne nb).trans (sq _ _ e)
        refine ⟨_, rfl, .inl ⟨rfl, _, SqL.of hb2⟩, _, rfl, B, ws, _, rfl, rfl, hb2, small (by omega), ?_⟩
        refine ⟨_, rfl, (e.same sq).put hBH nBr, kB _ _ _ (Ne.symm nBD) hd, ⟨kB _ _ _ (ne_of R.tup hb (fun y => by cases y)) R.tup, kB _ _ _ nlB R.lst, R.ok, R.low⟩, kB _ _ _ (Ne.symm nBx) hc, kB _ _ _ nlcB hv, ⟨ws ++ [.int (1 + (i : Int))], upd_same, by rw [List.length_append]; show ws.length + 1 ≤ i + 1; omega, .inr ?_⟩⟩
        rcases fd with ⟨rfl, no⟩ | ⟨s, rest, rfl, s1, s2, sv, no⟩
        · exact ⟨i + 1, [], by rw [show ((i + 1 : Nat) : Int) = 1 + (i : Int) by omega]; rfl, by omega, Nat.le_refl _, hv1, fun t a b => no t a (by omega)⟩
        · exact ⟨s, rest ++ [.int (1 + (i : Int))], rfl, s1, by omega, sv, no⟩
      · refine ⟨_, rfl, e.same sq, sq _ _ hd, R2, sq _ _ hc, sq _ _ hv, ⟨ws, sq _ _ hb, by omega, ?_⟩⟩
        rcases fd with ⟨rfl, no⟩ | ⟨s, rest, rfl, s1, s2, sv, no⟩
        · refine .inl ⟨rfl, fun s a b => ?_⟩
          by_cases y : s = i + 1
          · subst y; exact fun w => cc (vio.mp w)
          · exact no s a (by omega)
        · exact .inr ⟨s, rest, rfl, s1, by omega, sv, no⟩
    · rintro σ H' ⟨v8', rfl, e, hd, R, hc, hv, fd⟩
      rw [show ((((n + 1 : Nat) : Int) + 1 - 1).toNat) = n + 1 by omega] at fd
      obtain ⟨ws, hb, hl, fd⟩ := fd
      have vend : Vio (cvAt xs p g) n (n + 1) := by
        unfold Vio
        rw [show (n : Int) + 1 - ((n + 1 : Nat) : Int) = 0 by omega, h0, show ((n + 1 : Nat) : Int) = (n : Int) + 1 by omega]
        omega
      obtain ⟨s, rest, rfl, s1, s2, sv, no⟩ : ∃ (s : Nat) (rest : List V), ws = .int s :: rest ∧ 1 ≤ s ∧ s ≤ n + 1 ∧ Vio (cvAt xs p g) n s ∧ ∀ t : Nat, 1 ≤ t → t < s → ¬ Vio (cvAt xs p g) n t := by
        rcases fd with ⟨_, nn⟩ | y
        · exact absurd vend (nn (n + 1) (by omega) (Nat.le_refl _))
        · exact y
      have gl : (greedyM (cvAt xs p g) (n + 1)).length = n + 1 := greedy_length
      refine ⟨_, rfl, _, rfl, D, _, _, _, rfl, rfl, SqL.of hd, at_back (by decide) (by rw [gl]; omega), _, _, rfl, rfl, _, rfl, _, rfl, ?_⟩
      refine ⟨D, _, -1, n, rfl, rfl, hd, (by rw [List.length_map, gl]; unfold ixN; rw [if_neg (by decide), if_pos (by omega), show (-1 + ((n + 1 : Nat) : Int)).toNat = n by omega]), ?_⟩
      have em : ((greedyM (cvAt xs p g) (n + 1)).map V.int).set n (.int ((greedyM (cvAt xs p g) (n + 1)).getD (-1 + ((greedyM (cvAt xs p g) (n + 1)).length : Int)).toNat 0 + 1)) = (moreM (cvAt xs p g) n).map V.int := by
        rw [gl, show (-1 + ((n + 1 : Nat) : Int)).toNat = n by omega]
        unfold moreM
        rw [greedy_succ]
        have gn : (greedyM (cvAt xs p g) n).length = n := greedy_length
        have e1 : (greedyM (cvAt xs p g) n ++ [cvAt xs p g ((n : Int) + 1) - cvAt xs p g n]).getD n 0 = cvAt xs p g ((n : Int) + 1) - cvAt xs p g n := by
          simp [List.getD, gn]
        rw [e1, List.map_append, List.map_append, List.set_append_right _ _ (by rw [List.length_map, gn]; exact Nat.le_refl _), List.length_map, gn, Nat.sub_self]
        rfl
      simp only []
      rw [em]
      have kD : ∀ (o : HO) b u, b ≠ D → H' b = some u → upd H' D o b = some u := fun o b u nb e => (upd_ne nb).trans e
      have hDH : H D = none := e06.free hD
      have hB2 := kD (.lst ((moreM (cvAt xs p g) n).map V.int)) _ _ nBD hb
      have hC2 : CrvAt A (upd H' D (.lst ((moreM (cvAt xs p g) n).map V.int))) x (formV xs p g) (formP xs p g).1 (formP xs p g).2 := ⟨dxc, lc, true, kD _ _ _ (ne_of hc hd (fun y => by cases y)) hc, kD _ _ _ (ne_of_none v6 hD) hv⟩
      have e2 : Ext r H (upd H' D (.lst ((moreM (cvAt xs p g) n).map V.int))) := e.put hDH nDr
      have hDn : upd H' D (.lst ((moreM (cvAt xs p g) n).map V.int)) D = some (.lst ((moreM (cvAt xs p g) n).map V.int)) := upd_same
      generalize upd H' D (.lst ((moreM (cvAt xs p g) n).map V.int)) = He at *
      have bm : breachM (cvAt (formV xs p g) (formP xs p g).1 (formP xs p g).2) (moreM (cvAt xs p g) n) = some ((s : Int), (n : Int) + 1 - s, 1) := by
        rw [breachM_congr (g := cvAt xs p g) fun t a _ => cfg t (by omega)]
        exact breach_more h0 GA s1 s2 sv no
      have cm : Cnts (moreM (cvAt xs p g) n) := fun i hi => by
        rw [more_length] at hi
        have up := fup i
        have gn : (greedyM (cvAt xs p g) n).length = n := greedy_length
        by_cases y : i < n
        · have e : (moreM (cvAt xs p g) n).getD i 0 = cvAt xs p g ((i : Int) + 1) - cvAt xs p g i := by
            unfold moreM
            simp [List.getD, List.getElem?_append, gn, y, greedyM]
          rw [e]; omega
        · have ei : i = n := by omega
          subst ei
          have e : (moreM (cvAt xs p g) i).getD i 0 = cvAt xs p g ((i : Int) + 1) - cvAt xs p g i + 1 := by
            unfold moreM
            simp [List.getD, gn]
          rw [e]; omega
      have tsz : VR.Sz 1 400 (.tuple [.int (s : Int), .int ((n : Int) + 1 - s), .int 1]) := by
        have p1 : (1000 : Nat) < 10 ^ 100 := by decide +kernel
        refine (VR.Sz.tuple (k := 0) (L := 101) (n := 3) (fun d hd => ?_) (Nat.le_refl _)).mono (by decide) (by decide)
        simp only [List.mem_cons, List.not_mem_nil, or_false] at hd
        rcases hd with rfl | rfl | rfl
        · exact .int (by omega)
        · exact .int (by omega)
        · exact .int (by omega)
      obtain ⟨y1, y2, y3⟩ : (PyData.tuple [.int (s : Int), .int ((n : Int) + 1 - s), .int 1]).showable = true ∧ (PyData.tuple [.int (s : Int), .int ((n : Int) + 1 - s), .int 1]).depth ≤ 60 ∧ (PyData.tuple [.int (s : Int), .int ((n : Int) + 1 - s), .int 1]).shown.length ≤ sizeLine := ⟨tsz.sh, Nat.le_trans tsz.dp (by decide), Nat.le_trans tsz.ln (by rw [sizeLine_eq]; decide)⟩
      refine ⟨_, rfl, _, rfl, D, x, moreM (cvAt xs p g) n, formV xs p g, (formP xs p g).1, (formP xs p g).2, rfl, SqL.of hDn, by rw [more_length]; omega, cm, hC2, f1, f3, lF, fun H3 v s3 tri => ?_⟩
      rw [bm] at tri
      obtain ⟨t3, rfl, _, ht3⟩ := tri
      refine ⟨.ref t3, _, rfl, .tup (SqT.of ht3) (.cons (.int _) (.cons (.int _) (.cons (.int _) .nil))), y1, y2, y3, ?_⟩
      refine ⟨_, rfl, B, _, _, _, rfl, rfl, SqL.of (s3 _ _ hB2), at0, _, rfl, _, rfl, B, _, _, _, rfl, rfl, SqL.of (s3 _ _ hB2), at0, _, _, rfl, rfl, (by show 3 ≤ sizeLine; decide), fun w3 hw3 => ?_⟩
      have hw : upd H3 w3 (.tup [.int (s : Int), .int (((n + 1 : Nat) : Int) - (s : Int)), .int 1]) w3 = some (.tup [.int (s : Int), .int ((n : Int) + 1 - s), .int 1]) := by
        rw [upd_same, show ((n + 1 : Nat) : Int) = (n : Int) + 1 by omega]
      have sw : Same H3 (upd H3 w3 (.tup [.int (s : Int), .int (((n + 1 : Nat) : Int) - (s : Int)), .int 1])) := Same.upd (Same.refl _) hw3
      refine ⟨.ref w3, _, rfl, .tup (SqT.of hw) (.cons (.int _) (.cons (.int _) (.cons (.int _) .nil))), y1, y2, y3, ?_⟩
      generalize (PyData.tuple [.int (s : Int), .int ((n : Int) + 1 - s), .int 1]).shown = ty
      refine ⟨rfl, _, rfl, iteDT23 rfl ?_⟩
      refine ⟨_, rfl, _, rfl, D, x, moreM (cvAt xs p g) n, formV xs p g, (formP xs p g).1, (formP xs p g).2, rfl, SqL.of (sw _ _ (s3 _ _ hDn)), by rw [more_length]; omega, cm, hC2.same (s3.trans sw), f1, f3, lF, fun H6 s6 => ?_⟩
      rw [bm]
      exact ⟨_, rfl, k _ ((e2.same (s3.trans sw)).same s6)⟩
end
end VK


namespace VK
open PySem PySem.Spec PyProof.Rows L2 VM
/-- (a, b) is the first break of f, both at most n -/
structure Brk1 (f : Int → Int) (n a b : Int) : Prop where
  a1 : 1 ≤ a
  ab : a ≤ b
  bn : b ≤ n
  now : f a + f b < f (a + b)
  before : ∀ x y : Int, 1 ≤ x → x ≤ y → y ≤ n → (x + y < a + b ∨ (x + y = a + b ∧ x < a)) → f (x + y) ≤ f x + f y
/-- all but x stands -/
def But (x : Addr) (H H' : Hp) : Prop := ∀ c o, c ≠ x → H c = some o → H' c = some o
def spB_first_break (K : PySem.W.Frag) (A : Ad) : Sp := fun vs H Q _ => ∃ (x : Addr) (cs : List Int) (p g a b : Int), vs = [.ref x] ∧ CrvAt A H x cs p g ∧ 0 < p ∧ p ≤ cs.length ∧ cs.length ≤ 1000 ∧ Brk1 (cvAt cs p g) cs.length a b ∧
  ∀ H' t, Same H H' → H t = none → H' t = some (.tup [.int a, .int b]) → Q (.ref t) H'
def spB_C_find_break (K : PySem.W.Frag) (A : Ad) : Sp := fun vs H Q _ => ∃ (x dx l : Addr) (cs : List Int) (p g a b : Int), vs = [.ref x] ∧ H x = some (.ins A.Curve dx (cfs l p g false)) ∧ H l = some (.lst (cs.map V.int)) ∧ 0 < p ∧ p ≤ cs.length ∧ cs.length ≤ 1000 ∧ Brk1 (cvAt cs p g) cs.length a b ∧
  ∀ H' t, But x H H' → H' t = some (.tup [.int a, .int b]) → Q (.ref t) H'
def sp_NotGood_init (_ : PySem.W.Frag) (A : Ad) : Sp := fun vs H Q _ => ∃ (e : Addr) (y z : V), vs = [.ref e, y, z] ∧ H e = some (exo e A.NotGood none) ∧
  ∀ d, H d = none → d ≠ e → Q .non (upd (upd (upd H d (exd d [("first", y)])) e (exo e A.NotGood (some d))) d (exd d [("second", z), ("first", y)]))
def spB_require_good (K : PySem.W.Frag) (A : Ad) : Sp := fun vs H _ E => ∃ (x dx l : Addr) (cs : List Int) (p g a b : Int), vs = [.ref x] ∧ H x = some (.ins A.Curve dx (cfs l p g false)) ∧ H l = some (.lst (cs.map V.int)) ∧ 0 < p ∧ p ≤ cs.length ∧ cs.length ≤ 1000 ∧ Brk1 (cvAt cs p g) cs.length a b ∧
  ∀ H' d, But x H H' → H' d = some (.xd [("second", .int b), ("first", .int a)]) → E (.ref A.NotGood) (some d) H'
def spB_greedy (K : PySem.W.Frag) (A : Ad) : Sp := fun vs H _ E => ∃ (x dx l : Addr) (cs : List Int) (p g a b : Int) (n : V), vs = [.ref x, n] ∧ H x = some (.ins A.Curve dx (cfs l p g false)) ∧ H l = some (.lst (cs.map V.int)) ∧ 0 < p ∧ p ≤ cs.length ∧ cs.length ≤ 1000 ∧ Brk1 (cvAt cs p g) cs.length a b ∧
  ∀ H' d, But x H H' → H' d = some (.xd [("second", .int b), ("first", .int a)]) → E (.ref A.NotGood) (some d) H'
theorem brk_kept {t l : Addr} {p g : Int} : (putF "_was_searched" (V.bl true) (putF "_break" (V.ref t) (cfs l p g false))).lookup ("_break" : Str) = some (.ref t) := by
  rw [lookup_putF, if_neg (by decide +kernel), lookup_putF, if_pos rfl]
section
variable {P : Program} {w : World} {K : PySem.W.Frag} {mg : Str → Option Value} {base : Heap} {A : Ad}
theorem okB_first_break (T : Txt K mg A) : FnOk P w K mg base CX0 4 A.f_first_break A.d_first_break ["curve"] (spB_first_break K A) := by
  have G_C_at := ok_C_at (P := P) (w := w) (base := base) T
  have G_C_first_values := ok_C_first_values (P := P) (w := w) (base := base) T
  refine T.F_first_break.ok sc_first_break (fun vs H Q E h => ?_) (fun cdv A0 outer s H vs Q E hr h => ?_)
  · obtain ⟨x, cs, p, g, a, b, rfl, hC, hp, hpn, hn, hB, k⟩ := h
    rfl
  · obtain ⟨x, cs, p, g, a, b, rfl, hC, hp, hpn, hn, hB, k⟩ := h
    refine ⟨_, (pss_cons (ps_set (i := 1) sc_first_break.nd rfl (by first | exact Or.inl rfl | exact Or.inr rfl) (pe_callB (r := VG.rLen K) VG.call_len (by rfl) T.len (by decide +kernel) (pa_cons (pe_meth0 (pv 0) T.cl T.me_first_values G_C_first_values (hr.mono (by decide)) T.b_C_first_values .nil pass0) pa_nil)))
    (pss_cons (ps_setLc (i := 2) (own := [("length", 5)]) (g := gName 5) (tt := tYes) rfl sc_first_break.nd rfl rfl (sw_true rfl rfl rfl (by decide +kernel)) (pi_range1 rfl T.range (pa_cons (pe_op op_add (pe_op op_mul pe_int (pv 1)) pe_int) pa_nil)) (blkOk_by (own := [("length", 5)]) (N := ["curve", "many", "row", "total", "first", "length"]) (sc := defScope s_first_break) (by decide +kernel)) (fun _ _ _ _ _ => pg_name (i := 5) sc_first_break.nd rfl (Or.inl rfl)) (fun _ _ _ _ _ => pts_nil) (fun _ _ _ _ _ => (pe_meth (pv 0) T.cl T.me_at G_C_at (hr.mono (by decide)) T.b_C_at .nil pass0 (pa_cons (pv 5) pa_nil))))
    (pss_cons (ps_for PassesOwn.never rfl (pi_range2 rfl T.range (pa_cons pe_int (pa_cons (pe_op op_add (pe_op op_mul pe_int (pv 1)) pe_int) pa_nil))) (pg_name (i := 3) sc_first_break.nd rfl (by first | exact Or.inl rfl | exact Or.inr rfl))
      (pss_one (ps_for PassesOwn.never rfl (pi_range2 rfl T.range (pa_cons (pe_callB (call_max2 rfl) (by rfl) T.max (by decide +kernel) (pa_cons pe_int (pa_cons (pe_op op_sub (pv 3) (pv 1)) pa_nil))) (pa_cons (pe_op op_add (pe_op op_fdiv (pv 3) pe_int) pe_int) pa_nil))) (pg_name (i := 4) sc_first_break.nd rfl (by first | exact Or.inl rfl | exact Or.inr rfl))
      (pss_one (ps_if (pt_cmpR op_gt (pe_ix (r := rIxL K) ix_list (pv 2) (pv 3) (fun _ _ => rfl)) (pe_op op_add (pe_ix (r := rIxL K) ix_list (pv 2) (pv 4) (fun _ _ => rfl)) (pe_ix (r := rIxL K) ix_list (pv 2) (pe_op op_sub (pv 3) (pv 4)) (fun _ _ => rfl))) (nomark _)) (pss_one (ps_ret (pe_tup (pa_cons (pv 4) (pa_cons (pe_op op_sub (pv 3) (pv 4)) pa_nil))))) pss_nil)))))
    (pss_one (ps_ret pe_non))))), ?_⟩
    obtain ⟨dx, l, w, hx, hl⟩ := id hC
    obtain ⟨a1, ab, bn, now, before⟩ := hB
    refine ⟨_, rfl, x, dx, _, rfl, hx, cfs_no _ _ _ (by decide +kernel) (by decide +kernel) (by decide +kernel), x, cs, p, g, rfl, hC, fun H0 q0 s0 hq0 => ⟨q0, _, rfl, .inl (SqL.of hq0), ?_⟩⟩
    rw [List.length_map]
    refine ⟨_, rfl, _, _, rfl, rfl, .inl ⟨by decide, by decide⟩, _, _, rfl, rfl, _, rfl, by omega, by omega, fun D hD => lc_range (lo := 0) (n := (2 * (cs.length : Int) + 1).toNat)
      (fun j H2 => H2 D = some (.lst ((row (cvAt cs p g) j).map V.int)) ∧ Same H H2) ⟨upd_same, Same.upd s0 (s0.free hD)⟩ ?_ ?_⟩
    · rintro j H2 hj ⟨hD2, s2⟩
      refine ⟨rfl, _, rfl, x, dx, _, rfl, s2 _ _ hx, cfs_no _ _ _ (by decide +kernel) (by decide +kernel) (by decide +kernel), _, rfl, x, cs, p, g, _, rfl, hC.same s2, hp, hpn, hn, by omega, by omega, _, hD2, small (by rw [List.length_map, row_length]; omega), ?_, Same.upd s2 (s0.free hD)⟩
      rw [upd_same, rowI_succ, Int.zero_add]
    · rintro H2 ⟨hD2, s2⟩
      refine ⟨_, rfl, _, _, rfl, rfl, .inl ⟨by decide, by decide⟩, _, _, rfl, rfl, _, _, rfl, ⟨by omega, by omega, by omega, by omega⟩, ?_⟩
      refine for_range (lo := 2) (n := (2 * (cs.length : Int) + 1 - 2).toNat) (fun i σ H' => ∃ v3 v4, σ = [some (.ref x), some (.int (cs.length : Nat)), some (.ref D), v3, v4, none] ∧ H2 = H' ∧ 2 + (i : Int) ≤ a + b)
        ⟨_, _, rfl, rfl, by omega⟩ ?_ ?_
      · rintro i σ H' hi ⟨v3, v4, rfl, rfl, hab⟩
        refine ⟨_, rfl, _, rfl, _, _, rfl, rfl, _, _, rfl, ?_⟩
        have hlo : 1 ≤ (if (2 + (i : Int)) - (cs.length : Int) > 1 then (2 + (i : Int)) - (cs.length : Int) else 1) ∧ (2 + (i : Int)) - (cs.length : Int) ≤ (if (2 + (i : Int)) - (cs.length : Int) > 1 then (2 + (i : Int)) - (cs.length : Int) else 1) ∧ (if (2 + (i : Int)) - (cs.length : Int) > 1 then (2 + (i : Int)) - (cs.length : Int) else 1) ≤ 5000 ∧ (2 + (i : Int) = a + b → (if (2 + (i : Int)) - (cs.length : Int) > 1 then (2 + (i : Int)) - (cs.length : Int) else 1) ≤ a) := by
          split <;> omega
        generalize (if (2 + (i : Int)) - (cs.length : Int) > 1 then (2 + (i : Int)) - (cs.length : Int) else 1) = lo at *
        refine ⟨_, rfl, _, _, rfl, rfl, ⟨by decide, by decide⟩, _, _, rfl, rfl, _, _, rfl, ⟨by omega, by omega, by omega, by omega⟩, ?_⟩
        refine for_range (lo := lo) (n := ((2 + (i : Int)) / 2 + 1 - lo).toNat) (fun j σ H' => ∃ v4, σ = [some (.ref x), some (.int (cs.length : Nat)), some (.ref D), some (.int (2 + (i : Int))), v4, none] ∧ H2 = H' ∧ (2 + (i : Int) < a + b ∨ lo + (j : Int) ≤ a))
          ⟨_, rfl, rfl, by omega⟩ ?_ ?_
        · rintro j σ H' hj ⟨v4, rfl, rfl, hja⟩
          have bef := before (lo + j) (2 + (i : Int) - (lo + j)) (by omega) (by omega) (by omega)
          rw [show lo + (j : Int) + (2 + (i : Int) - (lo + j)) = 2 + (i : Int) by omega] at bef
          refine ⟨_, rfl, _, rfl, D, _, _, _, rfl, rfl, SqL.of hD2, at_row (by omega) (by omega), _, rfl, _, rfl, D, _, _, _, rfl, rfl, SqL.of hD2, at_row (by omega) (by omega), _, rfl, _, rfl, _, rfl, _, _, rfl, rfl, D, _, _, _, rfl, rfl, SqL.of hD2, at_row (by omega) (by omega), _, _, rfl, rfl, _, _, rfl, rfl, _, rfl, ifD (fun c => ?_) (fun c => ?_)⟩
          · have e1 : 2 + (i : Int) = a + b := by
              by_cases z : 2 + (i : Int) < a + b
              · have := bef (.inl z); omega
              · omega
            have e2 : lo + (j : Int) = a := by
              by_cases z : lo + (j : Int) < a
              · have := bef (.inr ⟨e1, z⟩); omega
              · omega
            refine ⟨_, rfl, _, rfl, _, rfl, _, _, rfl, rfl, (by show 2 ≤ sizeLine; decide), fun t ht => k _ t (Same.upd s2 (s2.free ht)) (s2.free ht) ?_⟩
            rw [upd_same, e2]
            show some (HO.tup [V.int a, V.int (2 + (i : Int) - a)]) = _
            rw [show 2 + (i : Int) - a = b by omega]
          · refine ⟨_, rfl, rfl, ?_⟩
            by_cases z : 2 + (i : Int) < a + b
            · exact .inl z
            · by_cases z2 : lo + (j : Int) = a
              · exfalso
                apply c
                rw [z2, show 2 + (i : Int) - a = b by omega, show 2 + (i : Int) = a + b by omega]
                exact now
              · exact .inr (by omega)
        · rintro σ H' ⟨v4, rfl, rfl, hja⟩
          exact ⟨_, _, rfl, rfl, by omega⟩
      · rintro σ H' ⟨v3, v4, rfl, rfl, hab⟩
        exfalso
        omega
theorem okB_C_find_break (T : Txt K mg A) : FnOk P w K mg base CX0 5 A.f_C_find_break A.d_C_find_break ["self"] (spB_C_find_break K A) := by
  have G_first_break := okB_first_break (P := P) (w := w) (base := base) T
  refine T.F_C_find_break.ok sc_C_find_break (fun vs H Q E h => ?_) (fun cdv A0 outer s H vs Q E hr h => ?_)
  · obtain ⟨x, dx, l, cs, p, g, a, b, rfl, hx, hl, hp, hpn, hn, hB, k⟩ := h
    rfl
  · obtain ⟨x, dx, l, cs, p, g, a, b, rfl, hx, hl, hp, hpn, hn, hB, k⟩ := h
    refine ⟨_, (pss_cons (ps_if (pt_not (pt_val (pe_fld (pv 0) rfl))) (pss_cons (ps_fld (pv 0) (pe_call G_first_break (hr.mono (by decide)) rfl T.m_first_break T.k_first_break T.b_first_break .nil pass0 (pa_cons (pv 0) pa_nil)) rfl)
    (pss_one (ps_fld (pv 0) pe_bl rfl))) pss_nil)
    (pss_one (ps_ret (pe_fld (pv 0) rfl)))), ?_⟩
    refine ⟨_, rfl, x, _, dx, _, _, rfl, hx, T.cl, T.n_was_searched, cfs_w _ _ _ _, _, rfl, ?_⟩
    refine iteT ⟨_, rfl, x, cs, p, g, a, b, rfl, ⟨dx, l, false, hx, hl⟩, hp, hpn, hn, hB, fun H1 t s1 ht0 ht => ?_⟩
    refine ⟨_, rfl, x, _, dx, _, rfl, s1 _ _ hx, T.cl, T.n_break, (by show 5 < 1000; decide), ?_⟩
    refine ⟨_, rfl, x, _, dx, _, rfl, upd_same, T.cl, T.n_was_searched, (by show 5 < 1000; decide), ?_⟩
    rw [upd_upd]
    refine ⟨_, rfl, x, _, dx, _, _, rfl, upd_same, T.cl, T.n_break, brk_kept, k _ t (fun c o n e => ?_) ?_⟩
    · rw [upd_ne n]; exact s1 _ _ e
    · rw [upd_ne (Ne.symm (ne_of_none hx ht0))]; exact ht
theorem ok_NotGood_init (T : Txt K mg A) : FnOk P w K mg base CX0 1 A.f_NotGood_init A.d_NotGood_init ["self", "first", "second"] (sp_NotGood_init K A) := by
  refine T.F_NotGood_init.ok sc_NotGood_init (fun vs H Q E h => ?_) (fun cdv A0 outer s H vs Q E hr h => ?_)
  · obtain ⟨e, y, z, rfl, he, k⟩ := h
    rfl
  · obtain ⟨e, y, z, rfl, he, k⟩ := h
    refine ⟨_, (pss_cons (VX.ps_put (pv 0) (pv 1))
    (pss_one (VX.ps_put (pv 0) (pv 2)))), ?_⟩
    refine ⟨_, rfl, _, rfl, e, A.NotGood, rfl, T.O_NotGood, T.n_NotGood_first, .inl ⟨he, fun d hd hde => ?_⟩⟩
    exact ⟨_, rfl, _, rfl, e, A.NotGood, rfl, T.O_NotGood, T.n_NotGood_second, .inr ⟨d, _, upd_same, by rw [upd_ne hde]; exact upd_same, by show 1 ≤ 900; decide, k d hd hde⟩⟩
theorem okB_require_good (T : Txt K mg A) : FnOk P w K mg base (L2.CX P w) 6 A.f_require_good A.d_require_good ["curve"] (spB_require_good K A) := by
  have G_C_find_break := okB_C_find_break (P := P) (w := w) (base := base) T
  have G_NotGood_init := ok_NotGood_init (P := P) (w := w) (base := base) T
  refine T.F_require_good.okX sc_require_good (fun vs H Q E h => ?_) (fun cdv A0 outer s H vs Q E hr h => ?_)
  · obtain ⟨x, dx, l, cs, p, g, a, b, rfl, hx, hl, hp, hpn, hn, hB, k⟩ := h
    rfl
  · obtain ⟨x, dx, l, cs, p, g, a, b, rfl, hx, hl, hp, hpn, hn, hB, k⟩ := h
    refine ⟨_, (pss_cons (ps_set (i := 1) sc_require_good.nd rfl (by first | exact Or.inl rfl | exact Or.inr rfl) (pe_meth0 (pv 0) T.cl T.me_find_break G_C_find_break (hr.mono (by decide)) T.b_C_find_break .nil pass0))
    (pss_one (ps_if (pt_cmp (pc_notN (pv 1)) rfl) (pss_one (ps_raise rfl (takes_of rfl rfl rfl rfl) (VX.pmk_new T.O_NotGood T.iC_NotGood T.tI_NotGood G_NotGood_init (hr.mono (by decide)) T.b_NotGood_init pass0 rfl T.m_NotGood (pa_cons (pe_ix (r := rIxT K) ix_tup (pv 1) pe_int (fun _ _ => rfl)) (pa_cons (pe_ix (r := rIxT K) ix_tup (pv 1) pe_int (fun _ _ => rfl)) pa_nil))))) pss_nil))), ?_⟩
    refine ⟨_, rfl, x, dx, _, rfl, hx, cfs_no _ _ _ (by decide +kernel) (by decide +kernel) (by decide +kernel), x, dx, l, cs, p, g, a, b, rfl, hx, hl, hp, hpn, hn, hB, fun H1 t s1 ht => ?_⟩
    refine ⟨_, rfl, _, rfl, iteT ?_⟩
    refine ⟨_, rfl, t, _, _, _, rfl, rfl, SqT.of ht, rfl, _, rfl, t, _, _, _, rfl, rfl, SqT.of ht, rfl, (by show 2 ≤ 1000; decide), fun e he => ⟨e, _, _, rfl, upd_same, fun d hd hde => ⟨rfl, d, _, ?_, upd_same, ?_, k _ d (fun c o n q => ?_) upd_same⟩⟩⟩
    · rw [upd_ne (Ne.symm hde)]; exact upd_same
    · rw [upd_ne hde] at hd; exact hd
    · rw [upd_ne hde] at hd
      have nd : c ≠ d := ne_of_none (s1 _ _ n q) hd
      have ne : c ≠ e := ne_of_none (s1 _ _ n q) he
      rw [upd_ne nd, del_ne ne, upd_ne nd, upd_ne ne, upd_ne nd, upd_ne ne]
      exact s1 _ _ n q
theorem okB_greedy (T : Txt K mg A) : FnOk P w K mg base (L2.CX P w) 7 A.f_greedy A.d_greedy ["curve", "ticks"] (spB_greedy K A) := by
  have G_C_at := ok_C_at (P := P) (w := w) (base := base) T
  have G_require_count_to := ok_require_count_to (P := P) (w := w) (base := base) T
  have G_require_good := okB_require_good (P := P) (w := w) (base := base) T
  refine T.F_greedy.okX sc_greedy (fun vs H Q E h => ?_) (fun cdv A0 outer s H vs Q E hr h => ?_)
  · obtain ⟨x, dx, l, cs, p, g, a, b, n, rfl, hx, hl, hp, hpn, hn, hB, k⟩ := h
    rfl
  · obtain ⟨x, dx, l, cs, p, g, a, b, n, rfl, hx, hl, hp, hpn, hn, hB, k⟩ := h
    refine ⟨_, (pss_cons (ps_expr (pe_call G_require_good (hr.mono (by decide)) rfl T.m_require_good T.k_require_good T.b_require_good .nil (passes_call (takes_of rfl rfl rfl rfl) (fun _ _ _ _ h => h)) (pa_cons (pv 0) pa_nil)))
    (pss_cons (ps_expr (pe_call G_require_count_to (hr.mono (by decide)) rfl T.m_require_count_to T.k_require_count_to T.b_require_count_to .nil pass0 (pa_cons (pv 1) (pa_cons (pe_glob (v := .int 400) rfl T.v_MAX_TICKS ⟨_, rfl⟩) pa_nil))))
    (pss_one (ps_ret (pe_lc (own := [("tick", 2)]) (g := gName 2) (tt := tYes) rfl sc_greedy.nd (pi_range1 rfl T.range (pa_cons (pv 1) pa_nil)) (blkOk_by (own := [("tick", 2)]) (N := ["curve", "ticks", "tick"]) (sc := defScope s_greedy) (by decide +kernel)) (fun _ _ _ _ _ => pg_name (i := 2) sc_greedy.nd rfl (Or.inl rfl)) (fun _ _ _ _ _ => pts_nil) (fun _ _ _ _ _ => (pe_op op_sub (pe_meth (pv 0) T.cl T.me_at G_C_at (hr.mono (by decide)) T.b_C_at .nil pass0 (pa_cons (pe_op op_add (pv 2) pe_int) pa_nil)) (pe_meth (pv 0) T.cl T.me_at G_C_at (hr.mono (by decide)) T.b_C_at .nil pass0 (pa_cons (pv 2) pa_nil))))))))), ?_⟩
    exact ⟨_, rfl, x, dx, l, cs, p, g, a, b, rfl, hx, hl, hp, hpn, hn, hB, k⟩
end
end VK


namespace VK
open PySem PySem.Spec PyProof.Rows L2 VM
theorem badR_end {f m t : Int} {k : Nat} (h : (k : Int) + 1 ≤ t) : cvAt (badR f m k) 1 0 t = 2 * f + m := by
  have R : Rep (cvAt (badR f m k) 1 0) (badR f m k).length 1 0 := Rep.cvAt (by decide) (by rw [badR_length]; omega)
  obtain ⟨n, rfl⟩ : ∃ n : Nat, t = (k : Int) + 1 + n := ⟨(t - (k + 1)).toNat, by omega⟩
  induction n with
  | zero => rw [show (k : Int) + 1 + ((0 : Nat) : Int) = (k : Int) + 1 by omega]; exact badR_at
  | succ n ih =>
    rw [R _ (by rw [badR_length]; omega), show (k : Int) + 1 + ((n + 1 : Nat) : Int) - 1 = (k : Int) + 1 + (n : Int) by omega, ih (by omega)]
    omega
theorem bad_ok {f m : Int} {k : Nat} (f1 : 1 ≤ f) (f3 : f ≤ 3) (m1 : 1 ≤ m) (m3 : m ≤ 3) (k1 : 1 ≤ k) (k3 : k ≤ 3) : OkRow (badR f m k) 1 0 := by
  have at_ : ∀ i, i < k + 1 → (badR f m k).getD i 0 = if i < k then f else 2 * f + m := fun i hi => by
    unfold badR
    by_cases z : i < k
    · simp [List.getD, List.getElem?_append, z]
    · have e : i = k := by omega
      subst e
      simp [List.getD, List.getElem?_append]
  have len := badR_length (f := f) (m := m) (k := k)
  refine ⟨by omega, by omega, fun i h => ?_, fun i h => ?_, fun i h => ?_, .inl rfl, by omega, by decide, by decide, by show _ ≤ _ + 0; rw [show (1 : Int).toNat = 1 from rfl]; omega⟩
  · rw [at_ i (by omega)]; split <;> omega
  · rw [at_ i (by omega)]; split <;> omega
  · rw [at_ i (by omega), at_ (i + 1) (by omega)]; split <;> split <;> omega
/-- the first break of such a curve -/
theorem bad_brk {f m : Int} {k : Nat} (f1 : 1 ≤ f) (m1 : 1 ≤ m) (k1 : 1 ≤ k) : Brk1 (cvAt (formV (badR f m k) 1 0) (formP (badR f m k) 1 0).1 (formP (badR f m k) 1 0).2) (formV (badR f m k) 1 0).length 1 k := by
  obtain ⟨a1, a2, a3, a4, a5⟩ := form_spec (vs := badR f m k) (g := 0) (show (0 : Int) < 1 by decide) (by rw [badR_length]; omega)
  have pe : (formP (badR f m k) 1 0).1 = 1 := by omega
  have R : Rep (cvAt (formV (badR f m k) 1 0) (formP (badR f m k) 1 0).1 (formP (badR f m k) 1 0).2) (formV (badR f m k) 1 0).length (formP (badR f m k) 1 0).1 (formP (badR f m k) 1 0).2 := Rep.cvAt a1 a3
  have many : (k : Int) ≤ (formV (badR f m k) 1 0).length := by
    by_cases z : (k : Int) ≤ (formV (badR f m k) 1 0).length
    · exact z
    · exfalso
      have r1 := R ((k : Int) + 1) (by omega)
      have r2 := R ((k : Int) + 2) (by omega)
      rw [a5 ((k : Int) + 1) (by omega), a5 ((k : Int) + 1 - (formP (badR f m k) 1 0).1) (by omega), pe] at r1
      rw [a5 ((k : Int) + 2) (by omega), a5 ((k : Int) + 2 - (formP (badR f m k) 1 0).1) (by omega), pe] at r2
      rw [badR_end (by omega), show (k : Int) + 1 - 1 = k by omega, badR_lo (by omega) (by omega)] at r1
      rw [badR_end (by omega), show (k : Int) + 2 - 1 = (k : Int) + 1 by omega, badR_end (by omega)] at r2
      omega
  refine ⟨by decide, by omega, many, ?_, fun x y x1 xy _ lt => ?_⟩
  · rw [a5 _ (by omega), a5 _ (by omega), a5 _ (by omega), badR_lo (by omega) (by omega), badR_lo (by omega) (by omega), badR_end (by omega)]
    omega
  · rw [a5 _ (by omega), a5 _ (by omega), a5 _ (by omega), badR_lo (by omega) (by omega), badR_lo (by omega) (by omega), badR_lo (by omega) (by omega)]
    omega
theorem db_cinit {K : PySem.W.Frag} {mg : Str → Option Value} {A : Ad} (T : Txt K mg A) : ∃ ds, Vals [V.int 1, V.int 0] ds ∧ Binds K A.d_C_init ["self", "values", "period", "gain"] ds :=
  T.F_C_init.binds0 (ps := ["self", "values", "period", "gain"]) 2 (by simp) rfl (fun D doc pm an cdv ct us ks h1 h2 => match us, ks, h1, h2 with | [_, _], [_, _], _, _ => ⟨_, _, _, _, _, _, rfl, rfl, _, _, _, _, _, _, rfl, rfl, rfl⟩)
def sp_l_refused (_ : PySem.W.Frag) (_ : Ad) : Sp := fun vs H Q _ => ∃ (S : Addr) (f m n : Int) (k : Nat), vs = [.ref S, .int n] ∧ H S = some (.lst ((badR f m k).map V.int)) ∧ 1 ≤ f ∧ f ≤ 3 ∧ 1 ≤ m ∧ m ≤ 3 ∧ 1 ≤ k ∧ k ≤ 3 ∧
  ∀ H' t, Same H H' → H' t = some (.tup [.int 1, .int k]) → Q (.ref t) H'
theorem refs3 {a b c : Addr} {ws : List Value} (r : Vals [.ref a, .ref b, .ref c] ws) : ws = [.ref a, .ref b, .ref c] := by
  cases r with
  | cons r1 r => cases r with
    | cons r2 r => cases r with
      | cons r3 r => cases r; cases r1; cases r2; cases r3; rfl
theorem ands {a b : Bool} {X Y : Prop} (ha : a = true) (hb : b = true) (h : X) : if (a && b) = true then X else Y := by subst ha hb; exact h
section
variable {P : Program} {w : World} {K : PySem.W.Frag} {mg : Str → Option Value} {base : Heap} {A : Ad}
theorem ok_l_refused (T : Txt K mg A) : FnOk P w K mg base CX0 9 A.f_l_refused A.d_l_refused ["_law_steps", "_law_span"] (sp_l_refused K A) := by
  have G_C_init := ok_C_init (P := P) (w := w) (base := base) T
  have G_greedy := okB_greedy (P := P) (w := w) (base := base) T
  obtain ⟨dc, hvC, hbC⟩ := db_cinit T
  refine T.F_l_refused.ok sc_l_refused (fun vs H Q E h => ?_) (fun cdv A0 outer s H vs Q E hr h => ?_)
  · obtain ⟨S, f, m, n, k, rfl, hS, f1, f3, m1, m3, k1, k3, kk⟩ := h
    rfl
  · obtain ⟨S, f, m, n, k, rfl, hS, f1, f3, m1, m3, k1, k3, kk⟩ := h
    refine ⟨_, (pss_cons (ps_set (i := 2) sc_l_refused.nd rfl (by first | exact Or.inl rfl | exact Or.inr rfl) pe_str)
    (pss_cons (ps_try_as (i := 3) rfl rfl sc_l_refused.nd rfl rfl ⟨rfl, by decide, .inl T.m_NotGood⟩ takes0 (fun W pn xe tk _ => (pss_one (ps_expr (pe_callS G_greedy (hr.mono (by decide)) rfl T.m_greedy T.k_greedy T.b_greedy (fun σ => passAt tk σ) (pa_cons (pe_make T.M_Curve G_C_init (hr.mono (by decide)) rfl T.m_Curve hbC hvC pass0 (pa_cons (pv 0) pa_nil)) (pa_cons (pv 1) pa_nil)))))) (fun a oe cls d pn hz hf => (pss_cons (ps_set (i := 2) sc_l_refused.nd rfl (by first | exact Or.inl rfl | exact Or.inr rfl) pe_str)
    (pss_one (ps_if (PW.pt (pw_and (pt_val (pe_callB (r := VX.rAsk K _ _ _ _) (VX.call_ask T.as_NotGood hz hf) (by rfl) T.isinstance (by decide +kernel) (pa_cons (pv 3) (pa_cons (pe_bltn (v := .ty "RuntimeError") (u := .type "RuntimeError") (by rfl) T.RuntimeError (by decide +kernel) (by exact rfl)) pa_nil)))) (pw_and1 (pt_not (pt_val (pe_callB (r := VX.rAsk K _ _ _ _) (VX.call_ask T.as_NotGood hz hf) (by rfl) T.isinstance (by decide +kernel) (pa_cons (pv 3) (pa_cons (pe_tup (pa_cons (pe_glob (v := .ref A.DueError) rfl T.m_DueError rfl) (pa_cons (pe_glob (v := .ref A.InvalidCount) rfl T.m_InvalidCount rfl) (pa_cons (pe_glob (v := .ref A.InvalidRecord) rfl T.m_InvalidRecord rfl) pa_nil)))) pa_nil)))))))) (pss_one (ps_set (i := 2) sc_l_refused.nd rfl (by first | exact Or.inl rfl | exact Or.inr rfl) (pe_tup (pa_cons (pe_xf T.xf_NotGood T.n_NotGood_first hz hf (pv 3)) (pa_cons (pe_xf T.xf_NotGood T.n_NotGood_second hz hf (pv 3)) pa_nil))))) pss_nil)))))
    (pss_one (ps_ret (pv 2))))), ?_⟩
    refine ⟨_, rfl, fun x dx hx hdx hne => ⟨x, dx, S, badR f m k, 1, 0, rfl, upd_same, SqL.of ?_, bad_ok f1 f3 m1 m3 k1 k3, fun H1 dxc lc keep hlc c1 c2 => ⟨rfl, ?_⟩⟩⟩
    · rw [upd_ne (ne_of_none hS hx), upd_ne (ne_of_none hS hdx)]; exact hS
    obtain ⟨a1, a2, a3, a4, a5⟩ := form_spec (vs := badR f m k) (g := 0) (show (0 : Int) < 1 by decide) (by rw [badR_length]; omega)
    have ln := badR_length (f := f) (m := m) (k := k)
    have s1 : Same H H1 := fun c o e => keep c o (ne_of_none e hx) (by rw [upd_ne (ne_of_none e hx), upd_ne (ne_of_none e hdx)]; exact e)
    refine ⟨_, rfl, x, dxc, lc, _, _, _, 1, k, _, rfl, c1, c2, a1, a3, by omega, bad_brk f1 m1 k1, fun H2 d s2 hd => ⟨true, T.ex_NotGood, fun _ ea hea => ?_, fun z => nomatch z⟩⟩
    have s02 : Same H H2 := fun c o e => s2 c o (ne_of_none e hx) (s1 _ _ e)
    refine ⟨_, rfl, rfl, d, _, .ty "RuntimeError", true, rfl, hd, rfl, .inl ⟨.type "RuntimeError", fun u r => r, T.kt_NotGood_RuntimeError⟩, ?_⟩
    refine ⟨_, rfl, iteT ?_⟩
    refine ⟨_, rfl, (by show 3 ≤ sizeLine; decide), fun t ht => ?_⟩
    refine ⟨rfl, d, _, .ref t, false, rfl, (upd_ne (ne_of_none hd ht)).trans hd, rfl, .inr ⟨t, _, _, rfl, upd_same, fun ws r => refs3 r, T.kt_NotGood_DueError_InvalidCount_InvalidRecord⟩, ?_⟩
    refine ⟨_, rfl, iteT ?_⟩
    have hd2 := (upd_ne (o := .tup [.ref A.DueError, .ref A.InvalidCount, .ref A.InvalidRecord]) (ne_of_none hd ht)).trans hd
    refine ⟨_, rfl, rfl, rfl, d, _, _, rfl, hd2, rfl, _, rfl, rfl, rfl, d, _, _, rfl, hd2, rfl, (by show 2 ≤ sizeLine; decide), fun t2 ht2 => ?_⟩
    exact ⟨_, rfl, kk _ t2 (Same.upd (Same.upd s02 (s02.free ht)) ((Same.upd s02 (s02.free ht)).free ht2)) upd_same⟩
end
end VK


namespace VK
open PySem PySem.Spec PyProof.Rows L2 VM
theorem repl_all23 (n : Nat) : (List.replicate n true).all id = true := by
  rw [List.all_eq_true]
  intro x hx
  rw [List.eq_of_mem_replicate hx]
  rfl
theorem iteNot {X Y : Prop} (h : Y) : if (!true) = true then X else Y := h
theorem kb_two23 {K : PySem.W.Frag} {x qual : Str} {st : Stmt} {f : Addr} {fd : FuncData} {a b : Str} (F : Fun K x qual st f fd)
    (h : ∀ (kV doc pm : Value) (an : Option Addr) (cdv ct : Value) (u v : Value), bindArgs (PySem.W.fnOf x qual (defArgs st) (defBody st) (defScope st) .none kV doc pm an cdv ct) ⟨[], [(b, u), (a, v)]⟩ = pure [(a, v), (b, u)]) :
    KBn K fd [a, b] 0 [b, a] (fun us ws => us ++ (ws.drop 1 ++ ws.take 1)) (fun vs zs => vs ++ (zs.drop 1 ++ zs.take 1)) :=
  VG.kb_of F (fun us ws => us ++ (ws.drop 1 ++ ws.take 1)) (fun a c => a.append ((c.drop 1).append (c.take 1)))
    (fun kV doc pm an cdv ct us ws h1 h2 => match us, ws, h1, h2 with | [], [u, v], _, _ => h kV doc pm an cdv ct u v)
def sp_l_right (_ : PySem.W.Frag) (_ : Ad) : Sp := fun vs H Q _ => ∃ (r : Addr), vs = [.ref r] ∧ Rng H r ∧ ∀ H', Ext r H H' → Q (.bl true) H'
def spL (K : PySem.W.Frag) : Sp := fun vs H Q _ => ∃ (a : Addr) (ns : List Int), vs = [.ref a] ∧ SqL K H a (ns.map V.int) ∧ ns.length ≤ 63 ∧ ∀ H', Q (.bl true) H'
def sp_law (K : PySem.W.Frag) (_ : Ad) : Sp := spL K
section
variable {P : Program} {w : World} {K : PySem.W.Frag} {mg : Str → Option Value} {base : Heap} {A : Ad}
theorem ok_l_right (T : Txt K mg A) : VG.FnG P w K mg base CX0 11 A.f_l_right A.d_l_right ["_law_rng_here"] (sp_l_right K A) := by
  have G_C_init := ok_C_init (P := P) (w := w) (base := base) T
  have G_breach := ok_breach (P := P) (w := w) (base := base) T
  have G_greedy := ok_greedy (P := P) (w := w) (base := base) T
  have G_keeps := ok_keeps (P := P) (w := w) (base := base) T
  have G_l_at := ok_l_at (P := P) (w := w) (base := base) T
  have G_l_bad := ok_l_bad (P := P) (w := w) (base := base) T
  have G_l_draw := ok_l_draw (P := P) (w := w) (base := base) T
  have G_l_kept := ok_l_kept (P := P) (w := w) (base := base) T
  have G_l_long_right := ok_l_long_right (P := P) (w := w) (base := base) T
  have G_l_refused := ok_l_refused (P := P) (w := w) (base := base) T
  have G_l_row := ok_l_row (P := P) (w := w) (base := base) T
  have G_l_sums := ok_l_sums (P := P) (w := w) (base := base) T
  have G_shaped := ok_shaped (P := P) (w := w) (base := base) T
  obtain ⟨mv1, kb_Curve_period_gain⟩ := kb_init2 T
  have kb_greedy_ticks_curve := kb_two23 (a := "curve") (b := "ticks") T.F_greedy (fun _ _ _ _ _ _ _ _ => rfl)
  refine VG.okG0 T.F_l_right sc_l_right (fun vs H Q E h => ?_) (fun cdv A0 outer s H vs Q E hA hr h => ?_)
  · obtain ⟨r, rfl, hr0, k⟩ := h
    rfl
  · obtain ⟨r, rfl, hr0, k⟩ := h
    refine ⟨_, (pss_cons (ps_asg (pe_tup (pa_cons (pe_call G_l_row (hr.mono (by decide)) rfl T.m_l_row T.k_l_row T.b_l_row .nil pass0 (pa_cons (pv 0) pa_nil)) (pa_cons (pe_call G_l_draw (hr.mono (by decide)) rfl T.m_l_draw T.k_l_draw T.b_l_draw .nil pass0 (pa_cons (pv 0) (pa_cons pe_int pa_nil))) pa_nil))) (pg_tup rfl (pgs_cons (pg_name (i := 1) sc_l_right.nd rfl (by first | exact Or.inl rfl | exact Or.inr rfl)) (pgs_cons (pg_name (i := 2) sc_l_right.nd rfl (by first | exact Or.inl rfl | exact Or.inr rfl)) pgs_nil))))
    (pss_cons (ps_set (i := 3) sc_l_right.nd rfl (by first | exact Or.inl rfl | exact Or.inr rfl) (pe_makeK (n := 1) T.M_Curve G_C_init (hr.mono (by decide)) rfl T.m_Curve kb_Curve_period_gain pass0 (pa_cons (pe_callTy (r := VG.rListOf K) VG.call_listOf (by rfl) T.list (by decide +kernel) (pa_cons (pe_ix (r := rIxT K) ix_tup (pv 1) pe_int (fun _ _ => rfl)) pa_nil)) pa_nil) (pk_cons (pe_ix (r := rIxT K) ix_tup (pv 1) pe_int (fun _ _ => rfl)) (pk_cons (pe_ix (r := rIxT K) ix_tup (pv 1) pe_int (fun _ _ => rfl)) pk_nil))))
    (pss_cons (ps_setLc (i := 4) (own := [("_law_tick", 11)]) (g := gName 11) (tt := tYes) rfl sc_l_right.nd rfl rfl (sw_true rfl rfl rfl (by decide +kernel)) (pi_range1 rfl T.range (pa_cons (pv 2) pa_nil)) (blkOk_by (own := [("_law_tick", 11)]) (N := ["_law_rng_here", "_law_row_here", "_law_span", "_law_line", "_law_due", "_law_told", "_law_turn", "_law_other", "_law_flood", "_law_steps", "_law_at_here", "_law_tick", "_law_one", "_law_most"]) (sc := defScope s_l_right) (by decide +kernel)) (fun _ _ _ _ _ => pg_name (i := 11) sc_l_right.nd rfl (Or.inl rfl)) (fun _ _ _ _ _ => pts_nil) (fun _ _ _ _ _ => (pe_op op_sub (pe_call G_l_at (hr.mono (by decide)) rfl T.m_l_at T.k_l_at T.b_l_at .nil pass0 (pa_cons (pv 1) (pa_cons (pe_op op_add (pv 11) pe_int) pa_nil))) (pe_call G_l_at (hr.mono (by decide)) rfl T.m_l_at T.k_l_at T.b_l_at .nil pass0 (pa_cons (pv 1) (pa_cons (pv 11) pa_nil))))))
    (pss_cons (ps_set (i := 5) sc_l_right.nd rfl (by first | exact Or.inl rfl | exact Or.inr rfl) (pe_call G_greedy (hr.mono (by decide)) rfl T.m_greedy T.k_greedy T.b_greedy .nil pass0 (pa_cons (pv 3) (pa_cons (pv 2) pa_nil))))
    (pss_cons (ps_if (PW.pt (pw_or (pt_cmpR op_ne (pe_callB (r := VG.rRepr K) (VG.call_repr hA hr.units) (by rfl) T.repr (by decide +kernel) (pa_cons (pv 5) pa_nil)) (pe_callB (r := VG.rRepr K) (VG.call_repr hA hr.units) (by rfl) T.repr (by decide +kernel) (pa_cons (pv 4) pa_nil)) (nomark _)) (pw_or (pt_not (pt_val (pe_call G_keeps (hr.mono (by decide)) rfl T.m_keeps T.k_keeps T.b_keeps .nil pass0 (pa_cons (pv 5) (pa_cons (pv 3) pa_nil))))) (pw_or1 (pt_cmp (pc_notN (pe_call G_breach (hr.mono (by decide)) rfl T.m_breach T.k_breach T.b_breach .nil pass0 (pa_cons (pv 5) (pa_cons (pv 3) pa_nil)))) rfl))))) (pss_one (ps_ret pe_bl)) pss_nil)
    (pss_cons (ps_for PassesOwn.never rfl (pi_range1 rfl T.range (pa_cons (pe_op op_add pe_int (pe_call G_l_draw (hr.mono (by decide)) rfl T.m_l_draw T.k_l_draw T.b_l_draw .nil pass0 (pa_cons (pv 0) (pa_cons pe_int pa_nil)))) pa_nil)) (pg_name (i := 6) sc_l_right.nd rfl (by first | exact Or.inl rfl | exact Or.inr rfl))
      (pss_cons (ps_set (i := 7) sc_l_right.nd rfl (by first | exact Or.inl rfl | exact Or.inr rfl) (pe_call G_l_kept (hr.mono (by decide)) rfl T.m_l_kept T.k_l_kept T.b_l_kept .nil pass0 (pa_cons (pv 0) (pa_cons (pv 1) (pa_cons (pv 2) pa_nil)))))
    (pss_cons (ps_if (pt_not (pt_val (pe_call G_keeps (hr.mono (by decide)) rfl T.m_keeps T.k_keeps T.b_keeps .nil pass0 (pa_cons (pv 7) (pa_cons (pv 3) pa_nil))))) (pss_one (ps_ret pe_bl)) pss_nil)
    (pss_one (ps_if (pt_not (pt_val (pe_callB (r := rAll K) (cr_all rfl) (by rfl) T.all (by decide +kernel) (pa_cons (pe_lc (own := [("_law_one", 12), ("_law_most", 13)]) (g := gTup K 2 (gCons (gName 12) (gCons (gName 13) gNil))) (tt := tYes) rfl sc_l_right.nd (pi_zip (by rfl) T.zip (pa_cons (pe_call G_l_sums (hr.mono (by decide)) rfl T.m_l_sums T.k_l_sums T.b_l_sums .nil pass0 (pa_cons (pv 7) pa_nil)) (pa_cons (pe_call G_l_sums (hr.mono (by decide)) rfl T.m_l_sums T.k_l_sums T.b_l_sums .nil pass0 (pa_cons (pv 5) pa_nil)) pa_nil))) (blkOk_by (own := [("_law_one", 12), ("_law_most", 13)]) (N := ["_law_rng_here", "_law_row_here", "_law_span", "_law_line", "_law_due", "_law_told", "_law_turn", "_law_other", "_law_flood", "_law_steps", "_law_at_here", "_law_tick", "_law_one", "_law_most"]) (sc := defScope s_l_right) (by decide +kernel)) (fun _ _ _ _ _ => pg_tup rfl (pgs_cons (pg_name (i := 12) sc_l_right.nd rfl (Or.inl rfl)) (pgs_cons (pg_name (i := 13) sc_l_right.nd rfl (Or.inl rfl)) pgs_nil))) (fun _ _ _ _ _ => pts_nil) (fun _ _ _ _ _ => (pe_cmpR op_le (pv 12) (pv 13) (nomark _)))) pa_nil)))) (pss_one (ps_ret pe_bl)) pss_nil)))))
    (pss_cons (ps_set (i := 8) sc_l_right.nd rfl (by first | exact Or.inl rfl | exact Or.inr rfl) (pe_op op_cat (pe_lst (pa_cons (pe_op op_add (pe_callB (r := rSum K) (cr_sum rfl) (by rfl) T.sum (by decide +kernel) (pa_cons (pv 4) pa_nil)) (pe_call G_l_draw (hr.mono (by decide)) rfl T.m_l_draw T.k_l_draw T.b_l_draw .nil pass0 (pa_cons (pv 0) (pa_cons pe_int pa_nil)))) pa_nil)) (pe_op op_rep (pe_lst (pa_cons pe_int pa_nil)) (pe_op op_sub (pv 2) pe_int))))
    (VG.pss_join (ps_if (PW.pt (pw_and (pt_cmpR op_gt (pv 2) pe_int (nomark _)) (pw_and1 (pt_cmpR op_ne (pe_callB (r := VG.rRepr K) (VG.call_repr hA hr.units) (by rfl) T.repr (by decide +kernel) (pa_cons (pe_call G_shaped (hr.mono (by decide)) rfl T.m_shaped T.k_shaped T.b_shaped .nil pass0 (pa_cons (pv 8) (pa_cons (pv 3) pa_nil))) pa_nil)) (pe_callB (r := VG.rRepr K) (VG.call_repr hA hr.units) (by rfl) T.repr (by decide +kernel) (pa_cons (pv 4) pa_nil)) (nomark _))))) (pss_one (ps_ret pe_bl)) pss_nil)
    (pss_cons (ps_expr (pe_bm PySem.F.plainAttrs_list PySem.F.slot_list_append PySem.F.type_list_append mt_append (pv 5) (pa_cons pe_int pa_nil)))
    (pss_cons (ps_asg (pe_call G_l_bad (hr.mono (by decide)) rfl T.m_l_bad T.k_l_bad T.b_l_bad .nil pass0 (pa_cons (pv 0) pa_nil)) (pg_tup rfl (pgs_cons (pg_name (i := 9) sc_l_right.nd rfl (by first | exact Or.inl rfl | exact Or.inr rfl)) (pgs_cons (pg_name (i := 10) sc_l_right.nd rfl (by first | exact Or.inl rfl | exact Or.inr rfl)) pgs_nil))))
    (pss_cons (ps_if (PW.pt (pw_or (pt_cmpR op_ne (pe_callB (r := VG.rRepr K) (VG.call_repr hA hr.units) (by rfl) T.repr (by decide +kernel) (pa_cons (pe_call G_l_refused (hr.mono (by decide)) rfl T.m_l_refused T.k_l_refused T.b_l_refused .nil pass0 (pa_cons (pv 9) (pa_cons (pv 2) pa_nil))) pa_nil)) (pe_callB (r := VG.rRepr K) (VG.call_repr hA hr.units) (by rfl) T.repr (by decide +kernel) (pa_cons (pv 10) pa_nil)) (nomark _)) (pw_or1 (pt_not (pt_val (VG.pe_callG G_l_long_right hA (hr.mono (by decide)) rfl T.m_l_long_right T.k_l_long_right T.b_l_long_right pass0 (pa_cons (pv 0) pa_nil))))))) (pss_one (ps_ret pe_bl)) pss_nil)
    (pss_one (ps_ret (pe_and (pe_cmpR op_eq (pe_callB (r := VG.rRepr K) (VG.call_repr hA hr.units) (by rfl) T.repr (by decide +kernel) (pa_cons (VG.pe_callK0 G_greedy (hr.mono (by decide)) rfl T.m_greedy T.k_greedy kb_greedy_ticks_curve pass0 (pk_cons (pv 2) (pk_cons (pv 3) pk_nil))) pa_nil)) (pe_callB (r := VG.rRepr K) (VG.call_repr hA hr.units) (by rfl) T.repr (by decide +kernel) (pa_cons (pv 4) pa_nil)) (nomark _)) (pe_one (pe_cmpR (op_eqD hr.units) (pe_call G_greedy (hr.mono (by decide)) rfl T.m_greedy T.k_greedy T.b_greedy .nil pass0 (pa_cons (pv 3) (pa_cons pe_int pa_nil))) (pe_lst pa_nil) (nomark _))))))))))))))))), ?_⟩
    refine ⟨_, rfl, r, rfl, hr0, fun H1 t l xs p g e1 ht0 hl0 R1 G => ?_⟩
    have nlr := hr0.ne hl0
    refine ⟨_, rfl, r, _, rfl, e1.rng, by decide, by decide, fun H2 d e2 d0 d1 => ⟨(by show 2 ≤ sizeLine; decide), fun w0 hw0 => ?_⟩⟩
    refine ⟨w0, _, rfl, SqT.of upd_same, rfl, _, _, rfl, _, _, rfl, rfl, ?_⟩
    have e3 := e2.same (Same.upd (o := .tup [.ref t, .int d]) (Same.refl _) hw0)
    have e03 := e1.trans e3
    have R3 := e3.row R1 e1.rng nlr
    obtain ⟨n, en⟩ : ∃ n : Nat, d = ((n : Nat) : Int) := ⟨d.toNat, by omega⟩
    have n4 : n ≤ 24 := by omega
    clear e2
    generalize upd H2 w0 (.tup [.ref t, .int d]) = H3 at *
    simp only []
    subst en
    obtain ⟨p0, p12, pn, xn, x1⟩ := R3.pp
    obtain ⟨f1, f2, f3, f4, f5⟩ := form_spec (vs := xs) (g := g) p0 pn
    refine ⟨_, rfl, t, _, _, _, rfl, rfl, SqT.of R3.tup, rfl, l, _, rfl, .inl (SqL.of R3.lst), fun q hq => ?_⟩
    have s2 : Same H3 (upd H3 q (.lst (xs.map V.int))) := Same.upd (Same.refl _) hq
    have R2q := R3.same s2
    refine ⟨_, rfl, t, _, _, _, rfl, rfl, SqT.of R2q.tup, rfl, _, rfl, t, _, _, _, rfl, rfl, SqT.of R2q.tup, rfl, rfl, rfl, fun x dx hx hdx hne => ?_⟩
    have nqx : q ≠ x := fun z => by rw [← z, upd_same] at hx; cases hx
    have nqd : q ≠ dx := fun z => by rw [← z, upd_same] at hdx; cases hdx
    refine ⟨x, dx, q, xs, p, g, rfl, upd_same, SqL.of (show upd _ x _ q = some (.lst (xs.map V.int)) by rw [upd_ne nqx, upd_ne nqd, upd_same]), R3.ok, fun H5 dxc lc keep hlc c1 c2 => ⟨rfl, ?_⟩⟩
    have s35 : Same H3 H5 := fun b o e => keep b o (ne_of_none (s2 _ _ e) hx) (by rw [upd_ne (ne_of_none (s2 _ _ e) hx), upd_ne (ne_of_none (s2 _ _ e) hdx)]; exact s2 _ _ e)
    have nlcr : lc ≠ r := ((e03.rng.same s2).same (Same.upd (Same.upd (Same.refl _) hdx) hx)).ne hlc
    have hxH : H x = none := e03.free (s2.free hx)
    have hxr : x ≠ r := (e03.rng.same s2).ne hx
    have R6 := R3.same s35
    have e06 := e03.same s35
    have cfg : ∀ t : Int, 0 ≤ t → cvAt (formV xs p g) (formP xs p g).1 (formP xs p g).2 t = cvAt xs p g t := fun t h => f5 t h
    have h0 : cvAt xs p g 0 = 0 := cvAt_zero
    have GF : GoodC (cvAt (formV xs p g) (formP xs p g).1 (formP xs p g).2) (formV xs p g).length := fun a b h1 h2 h3 => by
      rw [cfg _ (by omega), cfg _ (by omega), cfg _ (by omega)]
      exact G a b h1 h2 (by omega)
    have lF : (formV xs p g).length ≤ 1000 := by omega
    have GA : ∀ a b : Int, 0 ≤ a → 0 ≤ b → cvAt xs p g (a + b) ≤ cvAt xs p g a + cvAt xs p g b := good_all (Rep.cvAt p0 pn) p0 pn h0 G
    have U := R3.up
    have fup := f_up h0 GA U
    have fnn : ∀ i : Nat, 0 ≤ cvAt xs p g i := fun i => by
      induction i with
      | zero => exact Int.le_of_eq h0.symm
      | succ i ih => have := fup i; rw [show ((i + 1 : Nat) : Int) = (i : Int) + 1 by omega]; omega
    have gcg : ∀ n, greedyM (cvAt (formV xs p g) (formP xs p g).1 (formP xs p g).2) n = greedyM (cvAt xs p g) n := fun n => by
      unfold greedyM
      exact List.map_congr_left fun t _ => by rw [cfg _ (by omega), cfg _ (by omega)]
    have brF : ∀ vs : List Int, breachM (cvAt (formV xs p g) (formP xs p g).1 (formP xs p g).2) vs = breachM (cvAt xs p g) vs := fun vs => breachM_congr fun t h1 h2 => cfg t (by omega)
    have row1 := row_one R3
    refine ⟨_, rfl, _, rfl, by omega, by omega, fun D hD => ?_⟩
    refine lc_range (lo := 0) (n := ((n : Nat) : Int).toNat) (fun j H7 => H7 D = some (.lst ((greedyM (cvAt xs p g) j).map V.int)) ∧ Same H5 H7) ⟨upd_same, Same.upd (Same.refl _) hD⟩ ?_ ?_
    · rintro j H7 hj ⟨hD7, s7⟩
      have R7 := R6.same s7
      refine ⟨rfl, _, rfl, _, rfl, _, _, rfl, rfl, t, l, xs, p, g, _, rfl, SqT.of R7.tup, SqL.of R7.lst, p0, pn, xn, by omega, by omega, ?_⟩
      refine ⟨_, rfl, _, rfl, t, l, xs, p, g, _, rfl, SqT.of R7.tup, SqL.of R7.lst, p0, pn, xn, by omega, by omega, _, _, rfl, rfl, _, hD7, small (by rw [List.length_map, greedy_length]; omega), ?_, Same.upd s7 hD⟩
      rw [upd_same, greedy_succ, List.map_append, Int.zero_add]
      rfl
    rintro H7 ⟨hD7, s7⟩
    rw [Int.toNat_natCast] at hD7
    have e07 := e06.same s7
    have nDr : D ≠ r := fun y => by obtain ⟨a1, a2, a3, _⟩ := e06.rng; rw [y, a3] at hD; cases hD
    have hDH : H D = none := e06.free hD
    have c7 := s7 _ _ c1
    have v7 := s7 _ _ c2
    have R7 := R6.same s7
    have hC7 : CrvAt A H7 x (formV xs p g) (formP xs p g).1 (formP xs p g).2 := ⟨dxc, lc, false, c7, v7⟩
    refine ⟨_, rfl, _, rfl, x, formV xs p g, (formP xs p g).1, (formP xs p g).2, n, rfl, hC7, f1, f3, lF, GF, by omega, fun H8 g1 k8 hg10 hg1 => ?_⟩
    rw [gcg] at hg1
    have nDx : D ≠ x := ne_of hD7 c7 (fun y => by cases y)
    have nlcx : lc ≠ x := ne_of v7 c7 (fun y => by cases y)
    have ng1r : g1 ≠ r := fun y => by obtain ⟨a1, a2, a3, _⟩ := e07.rng; rw [y, a3] at hg10; cases hg10
    have hg1H : H g1 = none := e07.free hg10
    have nDg : D ≠ g1 := ne_of_none hD7 hg10
    have ngx : g1 ≠ x := fun y => by rw [y, c7] at hg10; cases hg10
    have nglc : lc ≠ g1 := ne_of_none v7 hg10
    have hD8 := k8.ne nDx hD7
    have c8 := k8.obj _ _ _ _ _ c7
    have v8 := k8.ne nlcx v7
    have R8 : RowAt H8 t l xs p g := ⟨k8.ne (ne_of R7.tup c7 (fun y => by cases y)) R7.tup, k8.ne (ne_of R7.lst c7 (fun y => by cases y)) R7.lst, R7.ok, R7.low⟩
    have ntg : t ≠ g1 := ne_of_none R7.tup hg10
    have nlg : l ≠ g1 := ne_of_none R7.lst hg10
    have e08 : Ext r H H8 := by
      refine ⟨fun b o nb e => k8.ne (ne_of_none e hxH) (e07.keep b o nb e), ?_⟩
      obtain ⟨y1, y2, y3, y4⟩ := e07.rng
      exact ⟨y1, y2, k8.ne (Ne.symm hxr) y3, y4⟩
    clear k8 hC7 R7 c7 v7 hD7 e07 s7 R6 e06 s35 hx hdx keep c1 c2 hD R3 R2q s2 hq e03 e3 nqx nqd hne R1 e1
    have hC8 : CrvAt A H8 x (formV xs p g) (formP xs p g).1 (formP xs p g).2 := ⟨dxc, lc, true, c8, v8⟩
    have z1 : (PyData.list ((greedyM (cvAt xs p g) n).map PyData.int)).showable = true ∧ (PyData.list ((greedyM (cvAt xs p g) n).map PyData.int)).depth ≤ 60 ∧ (PyData.list ((greedyM (cvAt xs p g) n).map PyData.int)).shown.length ≤ sizeLine := by
      have p1 : (1000 : Nat) < 10 ^ 100 := by decide +kernel
      have b1 : VR.Sz 1 110000 (.list ((greedyM (cvAt xs p g) n).map PyData.int)) := (VR.Sz.ints (n := 1000) (fun u hu => by
        unfold greedyM at hu
        obtain ⟨i, hi, rfl⟩ := List.mem_map.mp hu
        have a := fup i
        have b := GA i 1 (by omega) (by omega)
        omega) (by rw [greedy_length]; omega)).mono (by decide) (by decide)
      exact ⟨b1.sh, Nat.le_trans b1.dp (by decide), Nat.le_trans b1.ln (by rw [sizeLine_eq]; decide)⟩
    obtain ⟨z1, z2, z3⟩ := z1
    have gk := greedy_kept h0 GA n
    have gcn : Cnts (greedyM (cvAt xs p g) n) := fun i hi => by
      rw [greedy_length] at hi
      have e : (greedyM (cvAt xs p g) n).getD i 0 = cvAt xs p g ((i : Int) + 1) - cvAt xs p g i := by
        unfold greedyM
        simp [List.getD, hi]
      rw [e]
      have := fup i
      omega
    have gl : (greedyM (cvAt xs p g) n).length = n := greedy_length
    refine ⟨_, rfl, .ref g1, _, rfl, .lst (SqL.of hg1) (dp_ints _), z1, z2, z3, ?_⟩
    refine ⟨_, rfl, .ref D, _, rfl, .lst (SqL.of hD8) (dp_ints _), z1, z2, z3, rfl, _, rfl, iteNS rfl ?_⟩
    refine ⟨_, rfl, _, rfl, g1, x, _, _, _, _, rfl, SqL.of hg1, by omega, gcn, hC8, f1, f3, lF, fun H9 s9 => ?_⟩
    rw [brF, kept_iff.mpr gk]
    refine ⟨_, rfl, iteF ?_⟩
    refine ⟨_, rfl, _, rfl, g1, x, _, _, _, _, rfl, SqL.of (s9 _ _ hg1), by omega, gcn, hC8.same s9, f1, f3, lF, fun H10 v s10 tri => ?_⟩
    rw [brF, kept_iff.mpr gk] at tri
    obtain rfl : v = .non := tri
    refine ⟨_, rfl, iteF ?_⟩
    have s810 := s9.trans s10
    have e10 := e08.same s810
    have g10 := s810 _ _ hg1
    have D10 := s810 _ _ hD8
    have c10 := s810 _ _ c8
    have v10 := s810 _ _ v8
    have R10 := R8.same s810
    clear hC8 hg1 hD8 c8 v8 R8 s810 s9 s10 e08 hg10
    refine ⟨_, rfl, r, _, rfl, e10.rng, by decide, by decide, fun H11 a e11 a0 a1 => ⟨_, _, rfl, rfl, _, rfl, by omega, by omega, ?_⟩⟩
    have ee := e10.trans e11
    have gg := e11.keep _ _ ng1r g10
    have DD := e11.keep _ _ nDr D10
    have cc := e11.keep _ _ hxr c10
    have vv := e11.keep _ _ nlcr v10
    have RR := e11.row R10 e10.rng nlr
    clear g10 D10 c10 v10 R10 e11 e10
    refine for_range (lo := 0) (n := (1 + a).toNat) (fun i σ H' => ∃ v6 v7, σ = [some (.ref r), some (.ref t), some (.int (n : Nat)), some (.ref x), some (.ref D), some (.ref g1), v6, v7, none, none, none, none, none, none] ∧ Ext r H11 H')
      ⟨_, _, rfl, Ext.refl ee.rng⟩ ?_ ?_
    · rintro i σ H' hi ⟨v6, v7, rfl, e⟩
      have hC' : CrvAt A H' x (formV xs p g) (formP xs p g).1 (formP xs p g).2 := ⟨dxc, lc, true, e.keep _ _ hxr cc, e.keep _ _ nlcr vv⟩
      have g' := e.keep _ _ ng1r gg
      refine ⟨_, rfl, _, rfl, _, rfl, r, t, l, xs, p, g, _, rfl, e.rng, e.row RR ee.rng nlr, nlr, by omega, by omega, fun H2 q es e2 hq0 hq F hl => ?_⟩
      have esl : es.length = n := by omega
      have cn : Cnts es := fun j hj => by
        have := F.nn es[j] (List.getElem_mem hj)
        rw [List.getD_eq_getElem?_getD, List.getElem?_eq_getElem hj]; exact this
      have hC2 : CrvAt A H2 x (formV xs p g) (formP xs p g).1 (formP xs p g).2 := ⟨dxc, lc, true, e2.keep _ _ hxr (e.keep _ _ hxr cc), e2.keep _ _ nlcr (e.keep _ _ nlcr vv)⟩
      refine ⟨_, rfl, _, rfl, q, x, es, _, _, _, rfl, SqL.of hq, by omega, cn, hC2, f1, f3, lF, fun H3 s3 => ?_⟩
      rw [brF, kept_iff.mpr F.kept]
      refine ⟨_, rfl, iteF ?_⟩
      refine ⟨_, rfl, q, es, rfl, SqL.of (s3 _ _ hq), by omega, fun H4 sm s4 hsm0 hsm => ?_⟩
      have s24 := s3.trans s4
      refine ⟨_, rfl, g1, greedyM (cvAt xs p g) n, rfl, SqL.of (s24 _ _ (e2.keep _ _ ng1r g')), by omega, fun H5 mo s5 hmo0 hmo => ?_⟩
      refine ⟨sm, mo, _, _, rfl, SqL.of (s5 _ _ hsm), SqL.of hmo, fun B hB => ?_⟩
      refine lc_it (walk_zip (K := K) (a := sm) (b := mo) (xs := (row (fun i => pre es (i + 1)) es.length).map V.int) (ys := (row (fun i => pre (greedyM (cvAt xs p g) n) (i + 1)) (greedyM (cvAt xs p g) n).length).map V.int) (n := n) (by rw [List.length_map, List.length_map, row_length, row_length]; omega))
        (fun j H' => H' B = some (.lst ((List.replicate j true).map V.bl)) ∧ Same H5 H') ⟨upd_same, Same.upd (Same.refl _) hB⟩ (fun j H' _ ⟨_, s⟩ => ⟨s.seq (SqL.of (s5 _ _ hsm)), s.seq (SqL.of hmo)⟩) ?_ ?_
      · rintro j y Hc Hd hj ⟨hB2, sB⟩ ⟨T', a', b', rfl, hT, rfl, ea, eb⟩
        have ea' : some (V.int (pre es ((j : Int) + 1))) = some a' := by
          rw [← ea]
          show _ = (List.map V.int (row (fun i => pre es (i + 1)) es.length))[j]?
          rw [List.getElem?_map]
          unfold row
          rw [List.getElem?_map, List.getElem?_range (by omega)]; rfl
        have eb' : some (V.int (pre (greedyM (cvAt xs p g) n) ((j : Int) + 1))) = some b' := by
          rw [← eb]
          show _ = (List.map V.int (row (fun i => pre (greedyM (cvAt xs p g) n) (i + 1)) (greedyM (cvAt xs p g) n).length))[j]?
          rw [List.getElem?_map]
          unfold row
          rw [List.getElem?_map, List.getElem?_range (by omega)]; rfl
        cases ea'
        cases eb'
        have nBT : B ≠ T' := ne_of_none hB2 hT
        have ah := greedy_ahead h0 F.kept esl (i := j + 1) (by omega)
        rw [show ((j + 1 : Nat) : Int) = (j : Int) + 1 by omega] at ah
        refine ⟨T', _, rfl, SqT.of upd_same, rfl, _, _, rfl, _, _, rfl, rfl, rfl, _, rfl, _, rfl, _, _, rfl, rfl, _, by rw [upd_ne nBT]; exact hB2, small (by rw [List.length_map, List.length_replicate]; omega), ?_, Same.upd (Same.upd sB (sB.free hT)) hB⟩
        rw [upd_same, List.replicate_succ', List.map_append]
        show some (HO.lst (_ ++ [V.bl (decide (pre es ((j : Int) + 1) ≤ pre (greedyM (cvAt xs p g) n) ((j : Int) + 1)))])) = _
        rw [decide_eq_true ah]
        rfl
      · rintro Hc ⟨hB2, sB⟩
        refine ⟨B, _, rfl, SqL.of hB2, ?_⟩
        rw [repl_all23]
        exact ⟨_, rfl, iteF ⟨_, _, rfl, (e.trans e2).same (s24.trans (s5.trans sB))⟩⟩
    · rintro σ H' ⟨v6, v7, rfl, e⟩
      have e0 := ee.trans e
      have g2 := e.keep _ _ ng1r gg
      have D2 := e.keep _ _ nDr DD
      have c2 := e.keep _ _ hxr cc
      have v2 := e.keep _ _ nlcr vv
      clear gg DD cc vv RR ee e
      refine ⟨_, rfl, D, _, rfl, SqL.of D2, ?_⟩
      refine ⟨_, rfl, r, _, rfl, e0.rng, by decide, by decide, fun H3 z e3 z0 z1' => ⟨_, _, rfl, rfl, (by show 1 ≤ sizeLine; decide), fun a1' ha1 => ⟨(by show 1 ≤ sizeLine; decide), fun a2 ha2 => ?_⟩⟩⟩
      have e4 := e0.trans e3
      have g3 := e3.keep _ _ ng1r g2
      have D3 := e3.keep _ _ nDr D2
      have c3 := e3.keep _ _ hxr c2
      have v3 := e3.keep _ _ nlcr v2
      clear e3 g2 D2 c2 v2 e0
      have hsum := greedy_sum h0 n
      have fl0 : (List.replicate (((n : Nat) : Int) - 1).toNat [V.int 0]).flatten = (List.replicate (n - 1) (0 : Int)).map V.int := by
        rw [show (((n : Nat) : Int) - 1).toNat = n - 1 by omega, List.map_replicate]
        generalize n - 1 = w
        induction w with
        | zero => rfl
        | succ w ih => rw [List.replicate_succ, List.flatten_cons, ih, List.replicate_succ]; rfl
      refine ⟨_, rfl, _, _, rfl, rfl, a2, _, _, rfl, rfl, upd_same, by omega, by omega, (by rw [sizeLine_eq]; show 1 * (((n : Nat) : Int) - 1).toNat ≤ 16777216; omega), fun a3 ha3 => ?_⟩
      rw [fl0]
      simp only []
      rw [hsum]
      have sa1 : Same H3 (upd H3 a1' (.lst [.int (cvAt xs p g n + z)])) := Same.upd (Same.refl _) ha1
      have ha1' : upd H3 a1' (.lst [.int (cvAt xs p g n + z)]) a1' = some (.lst [.int (cvAt xs p g n + z)]) := upd_same
      rw [hsum] at ha2 ha3
      have sa2 : Same (upd H3 a1' (.lst [.int (cvAt xs p g n + z)])) (upd (upd H3 a1' (.lst [.int (cvAt xs p g n + z)])) a2 (.lst [.int 0])) := Same.upd (Same.refl _) ha2
      have ha12 := sa2 _ _ ha1'
      have sa12 := sa1.trans sa2
      generalize upd (upd H3 a1' (.lst [.int (cvAt xs p g n + z)])) a2 (.lst [.int 0]) = Ha at *
      have sa3 : Same Ha (upd Ha a3 (.lst ((List.replicate (n - 1) (0 : Int)).map V.int))) := Same.upd (Same.refl _) ha3
      have ha13 := sa3 _ _ ha12
      refine ⟨a1', a3, _, _, rfl, rfl, ha13, upd_same, (by rw [List.length_map, List.length_replicate, sizeLine_eq]; show 1 + (n - 1) ≤ 16777216; omega), fun a4 ha4 => ?_⟩
      have sa4 := sa12.trans (Same.upd (o := .lst (((cvAt xs p g n + z) :: List.replicate (n - 1) 0).map V.int)) sa3 (sa3.free ha4))
      have h4 : upd (upd Ha a3 (.lst ((List.replicate (n - 1) (0 : Int)).map V.int))) a4 (.lst (((cvAt xs p g n + z) :: List.replicate (n - 1) 0).map V.int)) a4 = some (.lst (((cvAt xs p g n + z) :: List.replicate (n - 1) 0).map V.int)) := upd_same
      have e5 := e4.same sa4
      have g5 := sa4 _ _ g3
      have D5 := sa4 _ _ D3
      have c5 := sa4 _ _ c3
      have v5 := sa4 _ _ v3
      clear sa4 e4 g3 D3 c3 v3 ha13 sa3 sa12 ha12 ha3 sa2 ha1' sa1 ha2 ha1 ha4
      show VG.tJoin _ _ _ _ (upd (upd Ha a3 (.lst ((List.replicate (n - 1) (0 : Int)).map V.int))) a4 (.lst (((cvAt xs p g n + z) :: List.replicate (n - 1) 0).map V.int)))
      generalize upd (upd Ha a3 (.lst ((List.replicate (n - 1) (0 : Int)).map V.int))) a4 (.lst (((cvAt xs p g n + z) :: List.replicate (n - 1) 0).map V.int)) = Hb at *
      have hCb : CrvAt A Hb x (formV xs p g) (formP xs p g).1 (formP xs p g).2 := ⟨dxc, lc, true, c5, v5⟩
      have Sb : Srch A Hb x := ⟨dxc, lc, _, _, c5⟩
      refine ⟨fun σ' H' => σ' = [some (.ref r), some (.ref t), some (.int (n : Nat)), some (.ref x), some (.ref D), some (.ref g1), v6, v7, some (.ref a4), none, none, none, none, none] ∧ Same Hb H', ?_, ?_⟩
      · refine ⟨_, rfl, _, _, rfl, rfl, _, rfl, ifD (fun cn => ?_) (fun cn => iteF ⟨rfl, Same.refl _⟩)⟩
        obtain ⟨m, rfl⟩ : ∃ m : Nat, n = m + 1 := ⟨n - 1, by omega⟩
        refine ⟨_, rfl, _, rfl, a4, x, (cvAt xs p g ((m + 1 : Nat) : Int) + z) :: List.replicate m 0, formV xs p g, (formP xs p g).1, (formP xs p g).2, rfl, SqL.of h4, ?_, ?_, hCb, f1, f3, lF, GF, fun Hs sh ks hsh0 hsh => ?_⟩
        · show (List.replicate m (0 : Int)).length + 1 ≤ 900
          rw [List.length_replicate]; omega
        · intro i hi
          cases i with
          | zero => show 0 ≤ cvAt xs p g ((m + 1 : Nat) : Int) + z; have := fnn (m + 1); omega
          | succ i => show 0 ≤ (List.replicate m (0 : Int)).getD i 0; simp [List.getD, List.getElem?_replicate]; split <;> decide
        have ss := ks.same Sb
        have shE : shapedM (cvAt (formV xs p g) (formP xs p g).1 (formP xs p g).2) ((cvAt xs p g ((m + 1 : Nat) : Int) + z) :: List.replicate m 0) = greedyM (cvAt xs p g) (m + 1) := by
          unfold shapedM
          rw [shG_congr (g := cvAt xs p g) fun t a _ => cfg t (by omega), shaped_flood h0 GA U m (by rw [show (m : Int) + 1 = ((m + 1 : Nat) : Int) by omega]; omega)]
        rw [shE] at hsh
        refine ⟨.ref sh, _, rfl, .lst (SqL.of hsh) (dp_ints _), z1, z2, z3, ?_⟩
        refine ⟨_, rfl, .ref D, _, rfl, .lst (SqL.of (ss _ _ D5)) (dp_ints _), z1, z2, z3, rfl, _, rfl, iteNS rfl ?_⟩
        exact ⟨rfl, ss⟩
      rintro σ' Hc ⟨rfl, sc⟩
      have e6 := e5.same sc
      have g6 := sc _ _ g5
      have D6 := sc _ _ D5
      have c6 := sc _ _ c5
      have v6' := sc _ _ v5
      clear e5 g5 D5 c5 v5 hCb Sb h4 sc
      refine ⟨_, rfl, .inl ⟨rfl, _, SqL.of g6⟩, g1, _, _, rfl, rfl, g6, small (by rw [List.length_map, gl]; omega), ?_⟩
      have e7 := e6.put (o := .lst ((greedyM (cvAt xs p g) n).map V.int ++ [.int 7])) hg1H ng1r
      have kg : ∀ b u, b ≠ g1 → Hc b = some u → upd Hc g1 (.lst ((greedyM (cvAt xs p g) n).map V.int ++ [.int 7])) b = some u := fun b u nb e => (upd_ne nb).trans e
      have D7 := kg _ _ nDg D6
      have c7 := kg _ _ (Ne.symm ngx) c6
      have v7' := kg _ _ nglc v6'
      generalize upd Hc g1 (.lst ((greedyM (cvAt xs p g) n).map V.int ++ [.int 7])) = Hd at *
      clear e6 g6 D6 c6 v6' kg
      refine ⟨_, rfl, r, rfl, e7.rng, fun H8 w l8 b8 f m kk e8 hw0 hl80 ff1 ff3 mm1 mm3 kk1 kk3 hw hl8 hb8 => ⟨w, _, rfl, SqT.of hw, rfl, _, _, rfl, _, _, rfl, rfl, ?_⟩⟩
      have ty : VR.Sz 1 400 (.tuple [.int 1, .int (kk : Int)]) := by
        have p1 : (1000 : Nat) < 10 ^ 100 := by decide +kernel
        refine (VR.Sz.tuple (k := 0) (L := 101) (n := 2) (fun d hd => ?_) (Nat.le_refl _)).mono (by decide) (by decide)
        simp only [List.mem_cons, List.not_mem_nil, or_false] at hd
        rcases hd with rfl | rfl
        · exact .int (by omega)
        · exact .int (by omega)
      obtain ⟨y1, y2, y3⟩ : (PyData.tuple [.int 1, .int (kk : Int)]).showable = true ∧ (PyData.tuple [.int 1, .int (kk : Int)]).depth ≤ 60 ∧ (PyData.tuple [.int 1, .int (kk : Int)]).shown.length ≤ sizeLine := ⟨ty.sh, Nat.le_trans ty.dp (by decide), Nat.le_trans ty.ln (by rw [sizeLine_eq]; decide)⟩
      refine ⟨_, rfl, _, rfl, l8, f, m, _, kk, rfl, hl8, ff1, ff3, mm1, mm3, kk1, kk3, fun H9 t9 s9 ht9 => ?_⟩
      refine ⟨.ref t9, _, rfl, .tup (SqT.of ht9) (.cons (.int _) (.cons (.int _) .nil)), y1, y2, y3, ?_⟩
      refine ⟨_, rfl, .ref b8, _, rfl, .tup (SqT.of (s9 _ _ hb8)) (.cons (.int _) (.cons (.int _) .nil)), y1, y2, y3, rfl, _, rfl, iteNS rfl ?_⟩
      have e9 := (e7.trans e8).same s9
      refine ⟨_, rfl, r, rfl, e9.rng, fun H10 e10 => ?_⟩
      refine ⟨_, rfl, iteF ?_⟩
      have e11 := e9.trans e10
      have back : ∀ b o, b ≠ r → Hd b = some o → H10 b = some o := fun b o nb q => e10.keep _ _ nb (s9 _ _ (e8.keep _ _ nb q))
      have D9 := back _ _ nDr D7
      have hC9 : CrvAt A H10 x (formV xs p g) (formP xs p g).1 (formP xs p g).2 := ⟨dxc, lc, true, back _ _ hxr c7, back _ _ nlcr v7'⟩
      have S9 : Srch A H10 x := ⟨dxc, lc, _, _, back _ _ hxr c7⟩
      clear back e10 e9 s9 ht9 e8 hw hl8 hb8
      refine ⟨_, rfl, _, rfl, rfl, x, _, _, _, n, rfl, hC9, f1, f3, lF, GF, by omega, fun H12 q k12 hq0 hq => ?_⟩
      have s12 := k12.same S9
      rw [gcg] at hq
      refine ⟨.ref q, _, rfl, .lst (SqL.of hq) (dp_ints _), z1, z2, z3, ?_⟩
      refine ⟨_, rfl, .ref D, _, rfl, .lst (SqL.of (s12 _ _ D9)) (dp_ints _), z1, z2, z3, ?_⟩
      refine ⟨rfl, _, rfl, iteDT23 rfl ?_⟩
      refine ⟨_, rfl, x, _, _, _, 0, rfl, hC9.same s12, f1, f3, lF, GF, by omega, fun H13 q2 k13 hq20 hq2 => ?_⟩
      have s13 := k13.same (S9.same s12)
      refine ⟨(by show 0 ≤ sizeLine; decide), fun q3 hq3 => ?_⟩
      refine ⟨.list [], .list [], .lst (SqL.of ((upd_ne (ne_of_none hq2 hq3)).trans hq2)) .nil, .lst (SqL.of upd_same) .nil, rfl, rfl, ?_⟩
      exact k _ ((e11.same s12).same (Same.upd s13 (s13.free hq3)))
end
end VK


namespace VK
open PySem PySem.Spec PyProof.Rows L2 VM
section
variable {P : Program} {w : World} {K : PySem.W.Frag} {mg : Str → Option Value} {base : Heap} {A : Ad}
theorem ok_law (T : Txt K mg A) : VG.FnG P w K mg base CX0 12 A.f_law A.d_law ["_law_script"] (sp_law K A) := by
  have G_l_right := ok_l_right (P := P) (w := w) (base := base) T
  have G_l_rng := ok_l_rng (P := P) (w := w) (base := base) T
  refine VG.okG0 T.F_law sc_law (fun vs H Q E h => ?_) (fun cdv A0 outer s H vs Q E hA hr h => ?_)
  · obtain ⟨a, ns, rfl, hS, hn, k⟩ := h
    rfl
  · obtain ⟨a, ns, rfl, hS, hn, k⟩ := h
    refine ⟨_, (pss_one (ps_ret (pe_callB (r := rAll K) (cr_all rfl) (by rfl) T.all (by decide +kernel) (pa_cons (pe_lc (own := [("_law_k", 1)]) (g := gName 1) (tt := tYes) rfl sc_law.nd (pi_range1 rfl T.range (pa_cons (pe_callB (call_max2 rfl) (by rfl) T.max (by decide +kernel) (pa_cons pe_int (pa_cons (pe_callB (call_min2 rfl) (by rfl) T.min (by decide +kernel) (pa_cons (pe_callB (r := VG.rLen K) VG.call_len (by rfl) T.len (by decide +kernel) (pa_cons (pv 0) pa_nil)) (pa_cons pe_int pa_nil))) pa_nil))) pa_nil)) (blkOk_by (own := [("_law_k", 1)]) (N := ["_law_script", "_law_k"]) (sc := defScope s_law) (by decide +kernel)) (fun _ _ _ _ _ => pg_name (i := 1) sc_law.nd rfl (Or.inl rfl)) (fun _ _ _ _ _ => pts_nil) (fun _ _ _ _ _ => (VG.pe_callG G_l_right hA (hr.mono (by decide)) rfl T.m_l_right T.k_l_right T.b_l_right pass0 (pa_cons (pe_call G_l_rng (hr.mono (by decide)) rfl T.m_l_rng T.k_l_rng T.b_l_rng .nil pass0 (pa_cons (pv 0) (pa_cons (pv 1) pa_nil))) pa_nil)))) pa_nil)))), ?_⟩
    refine ⟨_, rfl, a, _, rfl, .inl hS, _, _, rfl, _, _, rfl, _, rfl, ?_⟩
    have b6 : (if (if (5 : Int) < ((ns.map V.int).length : Int) then (5 : Int) else ((ns.map V.int).length : Int)) > 2 then (if (5 : Int) < ((ns.map V.int).length : Int) then (5 : Int) else ((ns.map V.int).length : Int)) else 2) ≤ 5 := by
      split <;> split <;> omega
    have b0 : 0 ≤ (if (if (5 : Int) < ((ns.map V.int).length : Int) then (5 : Int) else ((ns.map V.int).length : Int)) > 2 then (if (5 : Int) < ((ns.map V.int).length : Int) then (5 : Int) else ((ns.map V.int).length : Int)) else 2) := by
      split <;> split <;> omega
    generalize (if (if (5 : Int) < ((ns.map V.int).length : Int) then (5 : Int) else ((ns.map V.int).length : Int)) > 2 then (if (5 : Int) < ((ns.map V.int).length : Int) then (5 : Int) else ((ns.map V.int).length : Int)) else 2) = N at *
    refine ⟨by omega, by omega, fun D hD => lc_range (lo := 0) (n := N.toNat) (fun j H' => H' D = some (.lst ((List.replicate j true).map V.bl)) ∧ Same H H') ⟨upd_same, Same.upd (Same.refl _) hD⟩ ?_ ?_⟩
    · rintro j H' hj ⟨hD2, s2⟩
      refine ⟨rfl, _, rfl, _, rfl, a, ns, _, rfl, s2.seq hS, by omega, by omega, fun H1 p s3 hp0 hp => ⟨p, rfl, hp, fun H2 e2 => ?_⟩⟩
      have nDp : D ≠ p := ne_of_none hD2 hp0
      refine ⟨_, e2.keep _ _ nDp (s3 _ _ hD2), small (by rw [List.length_map, List.length_replicate]; omega), ?_, ?_⟩
      · rw [upd_same, List.replicate_succ', List.map_append]; rfl
      · intro b o e
        rw [upd_ne (ne_of_none e hD)]
        exact e2.keep b o (ne_of_none (s2 _ _ e) hp0) (s3 _ _ (s2 _ _ e))
    · rintro H' ⟨hD2, s2⟩
      refine ⟨D, _, rfl, SqL.of hD2, ?_⟩
      have e : (List.replicate N.toNat true).all id = true := by
        rw [List.all_eq_true]
        intro x hx
        exact (List.eq_of_mem_replicate hx)
      rw [e]
      exact k H'
end
end VK


namespace VK
open PySem PySem.Spec PyProof.Rows L2 VM
theorem all_mk {l : PySem.W.OpenLaw} {w : World} {K : PySem.W.Frag} {h : Heap} {mg : Str → Option Value} {fa : Addr} (X : K.In h) (G : h.Ns mainGlobals mg) (hfa : mg "law" = some (.ref fa))
    {C_DueError : Addr}
    {C_InvalidCount : Addr}
    {C_InvalidRecord : Addr}
    {C_NotGood : Addr}
    {C_Curve : Addr}
    {C_Police : Addr}
    {f_NotGood_init : Addr} {od_NotGood_init an_NotGood_init : Option Addr} {sl_NotGood_init : Array (Option Value)} {oc_NotGood_init kV_NotGood_init dc_NotGood_init pm_NotGood_init cd_NotGood_init ct_NotGood_init : Value}
    {f_is_integer : Addr} {od_is_integer an_is_integer : Option Addr} {sl_is_integer : Array (Option Value)} {oc_is_integer kV_is_integer dc_is_integer pm_is_integer cd_is_integer ct_is_integer : Value}
    {f_is_count : Addr} {od_is_count an_is_count : Option Addr} {sl_is_count : Array (Option Value)} {oc_is_count kV_is_count dc_is_count pm_is_count cd_is_count ct_is_count : Value}
    {f_is_count_to : Addr} {od_is_count_to an_is_count_to : Option Addr} {sl_is_count_to : Array (Option Value)} {oc_is_count_to kV_is_count_to dc_is_count_to pm_is_count_to cd_is_count_to ct_is_count_to : Value}
    {f_require_count : Addr} {od_require_count an_require_count : Option Addr} {sl_require_count : Array (Option Value)} {oc_require_count kV_require_count dc_require_count pm_require_count cd_require_count ct_require_count : Value}
    {f_require_count_to : Addr} {od_require_count_to an_require_count_to : Option Addr} {sl_require_count_to : Array (Option Value)} {oc_require_count_to kV_require_count_to dc_require_count_to pm_require_count_to cd_require_count_to ct_require_count_to : Value}
    {f_rounded_up : Addr} {od_rounded_up an_rounded_up : Option Addr} {sl_rounded_up : Array (Option Value)} {oc_rounded_up kV_rounded_up dc_rounded_up pm_rounded_up cd_rounded_up ct_rounded_up : Value}
    {f_value_at : Addr} {od_value_at an_value_at : Option Addr} {sl_value_at : Array (Option Value)} {oc_value_at kV_value_at dc_value_at pm_value_at cd_value_at ct_value_at : Value}
    {f_least_form : Addr} {od_least_form an_least_form : Option Addr} {sl_least_form : Array (Option Value)} {oc_least_form kV_least_form dc_least_form pm_least_form cd_least_form ct_least_form : Value}
    {f_least_period : Addr} {od_least_period an_least_period : Option Addr} {sl_least_period : Array (Option Value)} {oc_least_period kV_least_period dc_least_period pm_least_period cd_least_period ct_least_period : Value}
    {f_C_init : Addr} {od_C_init an_C_init : Option Addr} {sl_C_init : Array (Option Value)} {oc_C_init dc_C_init pm_C_init cd_C_init ct_C_init : Value}
    {D_C_init : Addr}
    {t_C_init_period : Tok}
    {t_C_init_gain : Tok}
    {f_C_at : Addr} {od_C_at an_C_at : Option Addr} {sl_C_at : Array (Option Value)} {oc_C_at kV_C_at dc_C_at pm_C_at cd_C_at ct_C_at : Value}
    {f_C_first_values : Addr} {od_C_first_values an_C_first_values : Option Addr} {sl_C_first_values : Array (Option Value)} {oc_C_first_values kV_C_first_values dc_C_first_values pm_C_first_values cd_C_first_values ct_C_first_values : Value}
    {f_first_break : Addr} {od_first_break an_first_break : Option Addr} {sl_first_break : Array (Option Value)} {oc_first_break kV_first_break dc_first_break pm_first_break cd_first_break ct_first_break : Value}
    {f_C_find_break : Addr} {od_C_find_break an_C_find_break : Option Addr} {sl_C_find_break : Array (Option Value)} {oc_C_find_break kV_C_find_break dc_C_find_break pm_C_find_break cd_C_find_break ct_C_find_break : Value}
    {f_require_good : Addr} {od_require_good an_require_good : Option Addr} {sl_require_good : Array (Option Value)} {oc_require_good kV_require_good dc_require_good pm_require_good cd_require_good ct_require_good : Value}
    {f_find_problem : Addr} {od_find_problem an_find_problem : Option Addr} {sl_find_problem : Array (Option Value)} {oc_find_problem kV_find_problem dc_find_problem pm_find_problem cd_find_problem ct_find_problem : Value}
    {f_keeps : Addr} {od_keeps an_keeps : Option Addr} {sl_keeps : Array (Option Value)} {oc_keeps kV_keeps dc_keeps pm_keeps cd_keeps ct_keeps : Value}
    {f_breach : Addr} {od_breach an_breach : Option Addr} {sl_breach : Array (Option Value)} {oc_breach kV_breach dc_breach pm_breach cd_breach ct_breach : Value}
    {f_greedy : Addr} {od_greedy an_greedy : Option Addr} {sl_greedy : Array (Option Value)} {oc_greedy kV_greedy dc_greedy pm_greedy cd_greedy ct_greedy : Value}
    {f_shaped : Addr} {od_shaped an_shaped : Option Addr} {sl_shaped : Array (Option Value)} {oc_shaped kV_shaped dc_shaped pm_shaped cd_shaped ct_shaped : Value}
    {f_require_record : Addr} {od_require_record an_require_record : Option Addr} {sl_require_record : Array (Option Value)} {oc_require_record kV_require_record dc_require_record pm_require_record cd_require_record ct_require_record : Value}
    {f_sums_before : Addr} {od_sums_before an_sums_before : Option Addr} {sl_sums_before : Array (Option Value)} {oc_sums_before kV_sums_before dc_sums_before pm_sums_before cd_sums_before ct_sums_before : Value}
    {f_window_sums : Addr} {od_window_sums an_window_sums : Option Addr} {sl_window_sums : Array (Option Value)} {oc_window_sums kV_window_sums dc_window_sums pm_window_sums cd_window_sums ct_window_sums : Value}
    {f_free_after : Addr} {od_free_after an_free_after : Option Addr} {sl_free_after : Array (Option Value)} {oc_free_after kV_free_after dc_free_after pm_free_after cd_free_after ct_free_after : Value}
    {f_P_init : Addr} {od_P_init an_P_init : Option Addr} {sl_P_init : Array (Option Value)} {oc_P_init dc_P_init pm_P_init cd_P_init ct_P_init : Value}
    {D_P_init : Addr}
    {t_P_init_queue : Tok}
    {f_P_step : Addr} {od_P_step an_P_step : Option Addr} {sl_P_step : Array (Option Value)} {oc_P_step dc_P_step pm_P_step cd_P_step ct_P_step : Value}
    {D_P_step : Addr}
    {t_P_step_leak : Tok}
    {f_P_record : Addr} {od_P_record an_P_record : Option Addr} {sl_P_record : Array (Option Value)} {oc_P_record kV_P_record dc_P_record pm_P_record cd_P_record ct_P_record : Value}
    {f_l_rng : Addr} {od_l_rng an_l_rng : Option Addr} {sl_l_rng : Array (Option Value)} {oc_l_rng kV_l_rng dc_l_rng pm_l_rng cd_l_rng ct_l_rng : Value}
    {f_l_draw : Addr} {od_l_draw an_l_draw : Option Addr} {sl_l_draw : Array (Option Value)} {oc_l_draw kV_l_draw dc_l_draw pm_l_draw cd_l_draw ct_l_draw : Value}
    {f_l_choice : Addr} {od_l_choice an_l_choice : Option Addr} {sl_l_choice : Array (Option Value)} {oc_l_choice kV_l_choice dc_l_choice pm_l_choice cd_l_choice ct_l_choice : Value}
    {f_l_at : Addr} {od_l_at an_l_at : Option Addr} {sl_l_at : Array (Option Value)} {oc_l_at kV_l_at dc_l_at pm_l_at cd_l_at ct_l_at : Value}
    {f_l_is_good : Addr} {od_l_is_good an_l_is_good : Option Addr} {sl_l_is_good : Array (Option Value)} {oc_l_is_good kV_l_is_good dc_l_is_good pm_l_is_good cd_l_is_good ct_l_is_good : Value}
    {f_l_rows : Addr} {od_l_rows an_l_rows : Option Addr} {sl_l_rows : Array (Option Value)} {oc_l_rows kV_l_rows dc_l_rows pm_l_rows cd_l_rows ct_l_rows : Value}
    {f_l_row : Addr} {od_l_row an_l_row : Option Addr} {sl_l_row : Array (Option Value)} {oc_l_row kV_l_row dc_l_row pm_l_row cd_l_row ct_l_row : Value}
    {f_l_room : Addr} {od_l_room an_l_room : Option Addr} {sl_l_room : Array (Option Value)} {oc_l_room kV_l_room dc_l_room pm_l_room cd_l_room ct_l_room : Value}
    {f_l_kept : Addr} {od_l_kept an_l_kept : Option Addr} {sl_l_kept : Array (Option Value)} {oc_l_kept kV_l_kept dc_l_kept pm_l_kept cd_l_kept ct_l_kept : Value}
    {f_l_sums : Addr} {od_l_sums an_l_sums : Option Addr} {sl_l_sums : Array (Option Value)} {oc_l_sums kV_l_sums dc_l_sums pm_l_sums cd_l_sums ct_l_sums : Value}
    {f_l_bad : Addr} {od_l_bad an_l_bad : Option Addr} {sl_l_bad : Array (Option Value)} {oc_l_bad kV_l_bad dc_l_bad pm_l_bad cd_l_bad ct_l_bad : Value}
    {f_l_refused : Addr} {od_l_refused an_l_refused : Option Addr} {sl_l_refused : Array (Option Value)} {oc_l_refused kV_l_refused dc_l_refused pm_l_refused cd_l_refused ct_l_refused : Value}
    {f_l_policed : Addr} {od_l_policed an_l_policed : Option Addr} {sl_l_policed : Array (Option Value)} {oc_l_policed kV_l_policed dc_l_policed pm_l_policed cd_l_policed ct_l_policed : Value}
    {f_l_long_right : Addr} {od_l_long_right an_l_long_right : Option Addr} {sl_l_long_right : Array (Option Value)} {oc_l_long_right kV_l_long_right dc_l_long_right pm_l_long_right cd_l_long_right ct_l_long_right : Value}
    {f_l_right : Addr} {od_l_right an_l_right : Option Addr} {sl_l_right : Array (Option Value)} {oc_l_right kV_l_right dc_l_right pm_l_right cd_l_right ct_l_right : Value}
    {f_law : Addr} {od_law an_law : Option Addr} {sl_law : Array (Option Value)} {oc_law kV_law dc_law pm_law cd_law ct_law : Value}
    {t_MAX_TICKS : Tok}
    {t_MAX_VALUE : Tok}
    {t_MAX_VALUES : Tok}
    {a_PERIODS : Addr} {uPERIODS0 uPERIODS1 uPERIODS2 uPERIODS3 uPERIODS4 uPERIODS5 : Tok} {od_PERIODS : Option Addr} {n_PERIODS : Nat} {sl_PERIODS : Array (Option Value)}
    (g_DueError : PySem.W.nsIn K mainGlobals "DueError" = some (some (.ref C_DueError)))
    (g_InvalidCount : PySem.W.nsIn K mainGlobals "InvalidCount" = some (some (.ref C_InvalidCount)))
    (g_InvalidRecord : PySem.W.nsIn K mainGlobals "InvalidRecord" = some (some (.ref C_InvalidRecord)))
    (g_NotGood : PySem.W.nsIn K mainGlobals "NotGood" = some (some (.ref C_NotGood)))
    (xi_NotGood : PySem.W.excInitIn K C_NotGood [.type "RuntimeError", .type "Exception", .type "BaseException", .type "object"] "RuntimeError.__new__" = true)
    (xo_NotGood : PySem.W.excOver K C_NotGood [.type "RuntimeError", .type "Exception", .type "BaseException", .type "object"] = true)
    (hd_NotGood : PySem.W.hasDictIn K C_NotGood = true)
    (sa_NotGood : PySem.W.findIn K (.ref C_NotGood) "__setattr__" = some (some (.builtin "object.__setattr__")))
    (xe_NotGood : PySem.W.subIn K (.ref C_NotGood) (.type "BaseException") = some true)
    (ty_NotGood : PySem.W.typeIn K (.ref C_NotGood) = some (.type "type"))
    (kc_NotGood : PySem.W.keepIn K (.ref C_NotGood) = true)
    (ga_NotGood : PySem.W.findIn K (.ref C_NotGood) "__getattribute__" = some (some (.builtin "BaseException.__getattribute__")))
    (gt_NotGood : PySem.W.findIn K (.ref C_NotGood) "__getattr__" = some none)
    (cc_NotGood : PySem.W.findIn K (.ref C_NotGood) "__class__" = some (some (.builtin "object.__class__")))
    (mr_NotGood : PySem.W.mroIn K C_NotGood (.type "object") = some true)
    (xm_NotGood : PySem.W.subIn K (.ref C_NotGood) (.ref C_NotGood) = some true)
    (n_NotGood_first : PySem.W.findIn K (.ref C_NotGood) "first" = some none)
    (n_NotGood_second : PySem.W.findIn K (.ref C_NotGood) "second" = some none)
    (q_gn : PySem.W.specialIn K (.builtin "object.__class__") "__get__" = some (some (.builtin "getset_descriptor.__get__")))
    (q_tk : PySem.W.takesIn K (.builtin "object.__class__") = some true)
    (kt_NotGood_RuntimeError : PySem.W.kitOne K (.ref C_NotGood) (.type "RuntimeError") = some true)
    (kt_NotGood_DueError_InvalidCount_InvalidRecord : PySem.W.kitAny K (.ref C_NotGood) [.ref C_DueError, .ref C_InvalidCount, .ref C_InvalidRecord] = some false)
    (g_Curve : PySem.W.nsIn K mainGlobals "Curve" = some (some (.ref C_Curve)))
    (pg_Curve : PySem.W.plainGet K C_Curve Str.empty = true)
    (hd_Curve : PySem.W.hasDictIn K C_Curve = true)
    (po_Curve : PySem.W.plainOver K C_Curve = true)
    (sa_Curve : PySem.W.findIn K (.ref C_Curve) "__setattr__" = some (some (.builtin "object.__setattr__")))
    (mk_Curve : PySem.W.makesIn K C_Curve = true)
    (kc_Curve : PySem.W.keepIn K (.ref C_Curve) = true)
    (n_Curve_values : PySem.W.findIn K (.ref C_Curve) "_values" = some none)
    (n_Curve_period : PySem.W.findIn K (.ref C_Curve) "_period" = some none)
    (n_Curve_gain : PySem.W.findIn K (.ref C_Curve) "_gain" = some none)
    (n_Curve_was_searched : PySem.W.findIn K (.ref C_Curve) "_was_searched" = some none)
    (n_Curve_break : PySem.W.findIn K (.ref C_Curve) "_break" = some none)
    (g_Police : PySem.W.nsIn K mainGlobals "Police" = some (some (.ref C_Police)))
    (pg_Police : PySem.W.plainGet K C_Police Str.empty = true)
    (hd_Police : PySem.W.hasDictIn K C_Police = true)
    (po_Police : PySem.W.plainOver K C_Police = true)
    (sa_Police : PySem.W.findIn K (.ref C_Police) "__setattr__" = some (some (.builtin "object.__setattr__")))
    (mk_Police : PySem.W.makesIn K C_Police = true)
    (kc_Police : PySem.W.keepIn K (.ref C_Police) = true)
    (n_Police_curve : PySem.W.findIn K (.ref C_Police) "_curve" = some none)
    (n_Police_queue : PySem.W.findIn K (.ref C_Police) "_queue" = some none)
    (n_Police_held : PySem.W.findIn K (.ref C_Police) "_held" = some none)
    (n_Police_returned : PySem.W.findIn K (.ref C_Police) "_returned" = some none)
    (n_Police_entered : PySem.W.findIn K (.ref C_Police) "_entered" = some none)
    (n_Police_was_closed : PySem.W.findIn K (.ref C_Police) "_was_closed" = some none)
    (n_Police_limits : PySem.W.findIn K (.ref C_Police) "_limits" = some none)
    (a_NotGood_init : PySem.W.findIn K (.ref C_NotGood) "__init__" = some (some (.ref f_NotGood_init)))
    (i_NotGood_init : PySem.W.isFn K (.ref f_NotGood_init) = true)
    (l_NotGood_init : K.lookup f_NotGood_init = some ⟨oc_NotGood_init, od_NotGood_init, .func (PySem.W.fnOf "__init__" "NotGood.__init__" (defArgs s_NotGood_init) (defBody s_NotGood_init) (defScope s_NotGood_init) .none kV_NotGood_init dc_NotGood_init pm_NotGood_init an_NotGood_init cd_NotGood_init ct_NotGood_init), sl_NotGood_init⟩)
    (c_NotGood_init : PySem.W.codeIn K cd_NotGood_init "NotGood.__init__" = true)
    (k_NotGood_init : PySem.W.keepIn K (.ref f_NotGood_init) = true)
    (tI_NotGood : PySem.W.typeIn K (.ref f_NotGood_init) = some (.type "function"))
    (a_is_integer : PySem.W.nsIn K mainGlobals "is_integer" = some (some (.ref f_is_integer)))
    (l_is_integer : K.lookup f_is_integer = some ⟨oc_is_integer, od_is_integer, .func (PySem.W.fnOf "is_integer" "is_integer" (defArgs s_is_integer) (defBody s_is_integer) (defScope s_is_integer) .none kV_is_integer dc_is_integer pm_is_integer an_is_integer cd_is_integer ct_is_integer), sl_is_integer⟩)
    (c_is_integer : PySem.W.codeIn K cd_is_integer "is_integer" = true)
    (k_is_integer : PySem.W.keepIn K (.ref f_is_integer) = true)
    (a_is_count : PySem.W.nsIn K mainGlobals "is_count" = some (some (.ref f_is_count)))
    (l_is_count : K.lookup f_is_count = some ⟨oc_is_count, od_is_count, .func (PySem.W.fnOf "is_count" "is_count" (defArgs s_is_count) (defBody s_is_count) (defScope s_is_count) .none kV_is_count dc_is_count pm_is_count an_is_count cd_is_count ct_is_count), sl_is_count⟩)
    (c_is_count : PySem.W.codeIn K cd_is_count "is_count" = true)
    (k_is_count : PySem.W.keepIn K (.ref f_is_count) = true)
    (a_is_count_to : PySem.W.nsIn K mainGlobals "is_count_to" = some (some (.ref f_is_count_to)))
    (l_is_count_to : K.lookup f_is_count_to = some ⟨oc_is_count_to, od_is_count_to, .func (PySem.W.fnOf "is_count_to" "is_count_to" (defArgs s_is_count_to) (defBody s_is_count_to) (defScope s_is_count_to) .none kV_is_count_to dc_is_count_to pm_is_count_to an_is_count_to cd_is_count_to ct_is_count_to), sl_is_count_to⟩)
    (c_is_count_to : PySem.W.codeIn K cd_is_count_to "is_count_to" = true)
    (k_is_count_to : PySem.W.keepIn K (.ref f_is_count_to) = true)
    (a_require_count : PySem.W.nsIn K mainGlobals "require_count" = some (some (.ref f_require_count)))
    (l_require_count : K.lookup f_require_count = some ⟨oc_require_count, od_require_count, .func (PySem.W.fnOf "require_count" "require_count" (defArgs s_require_count) (defBody s_require_count) (defScope s_require_count) .none kV_require_count dc_require_count pm_require_count an_require_count cd_require_count ct_require_count), sl_require_count⟩)
    (c_require_count : PySem.W.codeIn K cd_require_count "require_count" = true)
    (k_require_count : PySem.W.keepIn K (.ref f_require_count) = true)
    (a_require_count_to : PySem.W.nsIn K mainGlobals "require_count_to" = some (some (.ref f_require_count_to)))
    (l_require_count_to : K.lookup f_require_count_to = some ⟨oc_require_count_to, od_require_count_to, .func (PySem.W.fnOf "require_count_to" "require_count_to" (defArgs s_require_count_to) (defBody s_require_count_to) (defScope s_require_count_to) .none kV_require_count_to dc_require_count_to pm_require_count_to an_require_count_to cd_require_count_to ct_require_count_to), sl_require_count_to⟩)
    (c_require_count_to : PySem.W.codeIn K cd_require_count_to "require_count_to" = true)
    (k_require_count_to : PySem.W.keepIn K (.ref f_require_count_to) = true)
    (a_rounded_up : PySem.W.nsIn K mainGlobals "rounded_up" = some (some (.ref f_rounded_up)))
    (l_rounded_up : K.lookup f_rounded_up = some ⟨oc_rounded_up, od_rounded_up, .func (PySem.W.fnOf "rounded_up" "rounded_up" (defArgs s_rounded_up) (defBody s_rounded_up) (defScope s_rounded_up) .none kV_rounded_up dc_rounded_up pm_rounded_up an_rounded_up cd_rounded_up ct_rounded_up), sl_rounded_up⟩)
    (c_rounded_up : PySem.W.codeIn K cd_rounded_up "rounded_up" = true)
    (k_rounded_up : PySem.W.keepIn K (.ref f_rounded_up) = true)
    (a_value_at : PySem.W.nsIn K mainGlobals "value_at" = some (some (.ref f_value_at)))
    (l_value_at : K.lookup f_value_at = some ⟨oc_value_at, od_value_at, .func (PySem.W.fnOf "value_at" "value_at" (defArgs s_value_at) (defBody s_value_at) (defScope s_value_at) .none kV_value_at dc_value_at pm_value_at an_value_at cd_value_at ct_value_at), sl_value_at⟩)
    (c_value_at : PySem.W.codeIn K cd_value_at "value_at" = true)
    (k_value_at : PySem.W.keepIn K (.ref f_value_at) = true)
    (a_least_form : PySem.W.nsIn K mainGlobals "least_form" = some (some (.ref f_least_form)))
    (l_least_form : K.lookup f_least_form = some ⟨oc_least_form, od_least_form, .func (PySem.W.fnOf "least_form" "least_form" (defArgs s_least_form) (defBody s_least_form) (defScope s_least_form) .none kV_least_form dc_least_form pm_least_form an_least_form cd_least_form ct_least_form), sl_least_form⟩)
    (c_least_form : PySem.W.codeIn K cd_least_form "least_form" = true)
    (k_least_form : PySem.W.keepIn K (.ref f_least_form) = true)
    (a_least_period : PySem.W.nsIn K mainGlobals "least_period" = some (some (.ref f_least_period)))
    (l_least_period : K.lookup f_least_period = some ⟨oc_least_period, od_least_period, .func (PySem.W.fnOf "least_period" "least_period" (defArgs s_least_period) (defBody s_least_period) (defScope s_least_period) .none kV_least_period dc_least_period pm_least_period an_least_period cd_least_period ct_least_period), sl_least_period⟩)
    (c_least_period : PySem.W.codeIn K cd_least_period "least_period" = true)
    (k_least_period : PySem.W.keepIn K (.ref f_least_period) = true)
    (a_C_init : PySem.W.findIn K (.ref C_Curve) "__init__" = some (some (.ref f_C_init)))
    (i_C_init : PySem.W.isFn K (.ref f_C_init) = true)
    (l_C_init : K.lookup f_C_init = some ⟨oc_C_init, od_C_init, .func (PySem.W.fnOf "__init__" "Curve.__init__" (defArgs s_C_init) (defBody s_C_init) (defScope s_C_init) .none (.ref D_C_init) dc_C_init pm_C_init an_C_init cd_C_init ct_C_init), sl_C_init⟩)
    (c_C_init : PySem.W.codeIn K cd_C_init "Curve.__init__" = true)
    (k_C_init : PySem.W.keepIn K (.ref f_C_init) = true)
    (d_C_init_period : PySem.W.nsIn K D_C_init "period" = some (some (.int 1 t_C_init_period)))
    (d_C_init_gain : PySem.W.nsIn K D_C_init "gain" = some (some (.int 0 t_C_init_gain)))
    (a_C_at : PySem.W.findIn K (.ref C_Curve) "at" = some (some (.ref f_C_at)))
    (i_C_at : PySem.W.isFn K (.ref f_C_at) = true)
    (l_C_at : K.lookup f_C_at = some ⟨oc_C_at, od_C_at, .func (PySem.W.fnOf "at" "Curve.at" (defArgs s_C_at) (defBody s_C_at) (defScope s_C_at) .none kV_C_at dc_C_at pm_C_at an_C_at cd_C_at ct_C_at), sl_C_at⟩)
    (c_C_at : PySem.W.codeIn K cd_C_at "Curve.at" = true)
    (k_C_at : PySem.W.keepIn K (.ref f_C_at) = true)
    (a_C_first_values : PySem.W.findIn K (.ref C_Curve) "first_values" = some (some (.ref f_C_first_values)))
    (i_C_first_values : PySem.W.isFn K (.ref f_C_first_values) = true)
    (l_C_first_values : K.lookup f_C_first_values = some ⟨oc_C_first_values, od_C_first_values, .func (PySem.W.fnOf "first_values" "Curve.first_values" (defArgs s_C_first_values) (defBody s_C_first_values) (defScope s_C_first_values) .none kV_C_first_values dc_C_first_values pm_C_first_values an_C_first_values cd_C_first_values ct_C_first_values), sl_C_first_values⟩)
    (c_C_first_values : PySem.W.codeIn K cd_C_first_values "Curve.first_values" = true)
    (k_C_first_values : PySem.W.keepIn K (.ref f_C_first_values) = true)
    (a_first_break : PySem.W.nsIn K mainGlobals "first_break" = some (some (.ref f_first_break)))
    (l_first_break : K.lookup f_first_break = some ⟨oc_first_break, od_first_break, .func (PySem.W.fnOf "first_break" "first_break" (defArgs s_first_break) (defBody s_first_break) (defScope s_first_break) .none kV_first_break dc_first_break pm_first_break an_first_break cd_first_break ct_first_break), sl_first_break⟩)
    (c_first_break : PySem.W.codeIn K cd_first_break "first_break" = true)
    (k_first_break : PySem.W.keepIn K (.ref f_first_break) = true)
    (a_C_find_break : PySem.W.findIn K (.ref C_Curve) "find_break" = some (some (.ref f_C_find_break)))
    (i_C_find_break : PySem.W.isFn K (.ref f_C_find_break) = true)
    (l_C_find_break : K.lookup f_C_find_break = some ⟨oc_C_find_break, od_C_find_break, .func (PySem.W.fnOf "find_break" "Curve.find_break" (defArgs s_C_find_break) (defBody s_C_find_break) (defScope s_C_find_break) .none kV_C_find_break dc_C_find_break pm_C_find_break an_C_find_break cd_C_find_break ct_C_find_break), sl_C_find_break⟩)
    (c_C_find_break : PySem.W.codeIn K cd_C_find_break "Curve.find_break" = true)
    (k_C_find_break : PySem.W.keepIn K (.ref f_C_find_break) = true)
    (a_require_good : PySem.W.nsIn K mainGlobals "require_good" = some (some (.ref f_require_good)))
    (l_require_good : K.lookup f_require_good = some ⟨oc_require_good, od_require_good, .func (PySem.W.fnOf "require_good" "require_good" (defArgs s_require_good) (defBody s_require_good) (defScope s_require_good) .none kV_require_good dc_require_good pm_require_good an_require_good cd_require_good ct_require_good), sl_require_good⟩)
    (c_require_good : PySem.W.codeIn K cd_require_good "require_good" = true)
    (k_require_good : PySem.W.keepIn K (.ref f_require_good) = true)
    (a_find_problem : PySem.W.nsIn K mainGlobals "find_problem" = some (some (.ref f_find_problem)))
    (l_find_problem : K.lookup f_find_problem = some ⟨oc_find_problem, od_find_problem, .func (PySem.W.fnOf "find_problem" "find_problem" (defArgs s_find_problem) (defBody s_find_problem) (defScope s_find_problem) .none kV_find_problem dc_find_problem pm_find_problem an_find_problem cd_find_problem ct_find_problem), sl_find_problem⟩)
    (c_find_problem : PySem.W.codeIn K cd_find_problem "find_problem" = true)
    (k_find_problem : PySem.W.keepIn K (.ref f_find_problem) = true)
    (a_keeps : PySem.W.nsIn K mainGlobals "keeps" = some (some (.ref f_keeps)))
    (l_keeps : K.lookup f_keeps = some ⟨oc_keeps, od_keeps, .func (PySem.W.fnOf "keeps" "keeps" (defArgs s_keeps) (defBody s_keeps) (defScope s_keeps) .none kV_keeps dc_keeps pm_keeps an_keeps cd_keeps ct_keeps), sl_keeps⟩)
    (c_keeps : PySem.W.codeIn K cd_keeps "keeps" = true)
    (k_keeps : PySem.W.keepIn K (.ref f_keeps) = true)
    (a_breach : PySem.W.nsIn K mainGlobals "breach" = some (some (.ref f_breach)))
    (l_breach : K.lookup f_breach = some ⟨oc_breach, od_breach, .func (PySem.W.fnOf "breach" "breach" (defArgs s_breach) (defBody s_breach) (defScope s_breach) .none kV_breach dc_breach pm_breach an_breach cd_breach ct_breach), sl_breach⟩)
    (c_breach : PySem.W.codeIn K cd_breach "breach" = true)
    (k_breach : PySem.W.keepIn K (.ref f_breach) = true)
    (a_greedy : PySem.W.nsIn K mainGlobals "greedy" = some (some (.ref f_greedy)))
    (l_greedy : K.lookup f_greedy = some ⟨oc_greedy, od_greedy, .func (PySem.W.fnOf "greedy" "greedy" (defArgs s_greedy) (defBody s_greedy) (defScope s_greedy) .none kV_greedy dc_greedy pm_greedy an_greedy cd_greedy ct_greedy), sl_greedy⟩)
    (c_greedy : PySem.W.codeIn K cd_greedy "greedy" = true)
    (k_greedy : PySem.W.keepIn K (.ref f_greedy) = true)
    (a_shaped : PySem.W.nsIn K mainGlobals "shaped" = some (some (.ref f_shaped)))
    (l_shaped : K.lookup f_shaped = some ⟨oc_shaped, od_shaped, .func (PySem.W.fnOf "shaped" "shaped" (defArgs s_shaped) (defBody s_shaped) (defScope s_shaped) .none kV_shaped dc_shaped pm_shaped an_shaped cd_shaped ct_shaped), sl_shaped⟩)
    (c_shaped : PySem.W.codeIn K cd_shaped "shaped" = true)
    (k_shaped : PySem.W.keepIn K (.ref f_shaped) = true)
    (a_require_record : PySem.W.nsIn K mainGlobals "require_record" = some (some (.ref f_require_record)))
    (l_require_record : K.lookup f_require_record = some ⟨oc_require_record, od_require_record, .func (PySem.W.fnOf "require_record" "require_record" (defArgs s_require_record) (defBody s_require_record) (defScope s_require_record) .none kV_require_record dc_require_record pm_require_record an_require_record cd_require_record ct_require_record), sl_require_record⟩)
    (c_require_record : PySem.W.codeIn K cd_require_record "require_record" = true)
    (k_require_record : PySem.W.keepIn K (.ref f_require_record) = true)
    (a_sums_before : PySem.W.nsIn K mainGlobals "sums_before" = some (some (.ref f_sums_before)))
    (l_sums_before : K.lookup f_sums_before = some ⟨oc_sums_before, od_sums_before, .func (PySem.W.fnOf "sums_before" "sums_before" (defArgs s_sums_before) (defBody s_sums_before) (defScope s_sums_before) .none kV_sums_before dc_sums_before pm_sums_before an_sums_before cd_sums_before ct_sums_before), sl_sums_before⟩)
    (c_sums_before : PySem.W.codeIn K cd_sums_before "sums_before" = true)
    (k_sums_before : PySem.W.keepIn K (.ref f_sums_before) = true)
    (a_window_sums : PySem.W.nsIn K mainGlobals "window_sums" = some (some (.ref f_window_sums)))
    (l_window_sums : K.lookup f_window_sums = some ⟨oc_window_sums, od_window_sums, .func (PySem.W.fnOf "window_sums" "window_sums" (defArgs s_window_sums) (defBody s_window_sums) (defScope s_window_sums) .none kV_window_sums dc_window_sums pm_window_sums an_window_sums cd_window_sums ct_window_sums), sl_window_sums⟩)
    (c_window_sums : PySem.W.codeIn K cd_window_sums "window_sums" = true)
    (k_window_sums : PySem.W.keepIn K (.ref f_window_sums) = true)
    (a_free_after : PySem.W.nsIn K mainGlobals "free_after" = some (some (.ref f_free_after)))
    (l_free_after : K.lookup f_free_after = some ⟨oc_free_after, od_free_after, .func (PySem.W.fnOf "free_after" "free_after" (defArgs s_free_after) (defBody s_free_after) (defScope s_free_after) .none kV_free_after dc_free_after pm_free_after an_free_after cd_free_after ct_free_after), sl_free_after⟩)
    (c_free_after : PySem.W.codeIn K cd_free_after "free_after" = true)
    (k_free_after : PySem.W.keepIn K (.ref f_free_after) = true)
    (a_P_init : PySem.W.findIn K (.ref C_Police) "__init__" = some (some (.ref f_P_init)))
    (i_P_init : PySem.W.isFn K (.ref f_P_init) = true)
    (l_P_init : K.lookup f_P_init = some ⟨oc_P_init, od_P_init, .func (PySem.W.fnOf "__init__" "Police.__init__" (defArgs s_P_init) (defBody s_P_init) (defScope s_P_init) .none (.ref D_P_init) dc_P_init pm_P_init an_P_init cd_P_init ct_P_init), sl_P_init⟩)
    (c_P_init : PySem.W.codeIn K cd_P_init "Police.__init__" = true)
    (k_P_init : PySem.W.keepIn K (.ref f_P_init) = true)
    (d_P_init_queue : PySem.W.nsIn K D_P_init "queue" = some (some (.int 60 t_P_init_queue)))
    (a_P_step : PySem.W.findIn K (.ref C_Police) "step" = some (some (.ref f_P_step)))
    (i_P_step : PySem.W.isFn K (.ref f_P_step) = true)
    (l_P_step : K.lookup f_P_step = some ⟨oc_P_step, od_P_step, .func (PySem.W.fnOf "step" "Police.step" (defArgs s_P_step) (defBody s_P_step) (defScope s_P_step) .none (.ref D_P_step) dc_P_step pm_P_step an_P_step cd_P_step ct_P_step), sl_P_step⟩)
    (c_P_step : PySem.W.codeIn K cd_P_step "Police.step" = true)
    (k_P_step : PySem.W.keepIn K (.ref f_P_step) = true)
    (d_P_step_leak : PySem.W.nsIn K D_P_step "leak" = some (some (.int 0 t_P_step_leak)))
    (d_P_step_closed : PySem.W.nsIn K D_P_step "closed" = some (some (.bool false)))
    (a_P_record : PySem.W.findIn K (.ref C_Police) "record" = some (some (.ref f_P_record)))
    (i_P_record : PySem.W.isFn K (.ref f_P_record) = true)
    (l_P_record : K.lookup f_P_record = some ⟨oc_P_record, od_P_record, .func (PySem.W.fnOf "record" "Police.record" (defArgs s_P_record) (defBody s_P_record) (defScope s_P_record) .none kV_P_record dc_P_record pm_P_record an_P_record cd_P_record ct_P_record), sl_P_record⟩)
    (c_P_record : PySem.W.codeIn K cd_P_record "Police.record" = true)
    (k_P_record : PySem.W.keepIn K (.ref f_P_record) = true)
    (a_l_rng : PySem.W.nsIn K mainGlobals "_law_rng" = some (some (.ref f_l_rng)))
    (l_l_rng : K.lookup f_l_rng = some ⟨oc_l_rng, od_l_rng, .func (PySem.W.fnOf "_law_rng" "_law_rng" (defArgs s_l_rng) (defBody s_l_rng) (defScope s_l_rng) .none kV_l_rng dc_l_rng pm_l_rng an_l_rng cd_l_rng ct_l_rng), sl_l_rng⟩)
    (c_l_rng : PySem.W.codeIn K cd_l_rng "_law_rng" = true)
    (k_l_rng : PySem.W.keepIn K (.ref f_l_rng) = true)
    (a_l_draw : PySem.W.nsIn K mainGlobals "_law_draw" = some (some (.ref f_l_draw)))
    (l_l_draw : K.lookup f_l_draw = some ⟨oc_l_draw, od_l_draw, .func (PySem.W.fnOf "_law_draw" "_law_draw" (defArgs s_l_draw) (defBody s_l_draw) (defScope s_l_draw) .none kV_l_draw dc_l_draw pm_l_draw an_l_draw cd_l_draw ct_l_draw), sl_l_draw⟩)
    (c_l_draw : PySem.W.codeIn K cd_l_draw "_law_draw" = true)
    (k_l_draw : PySem.W.keepIn K (.ref f_l_draw) = true)
    (a_l_choice : PySem.W.nsIn K mainGlobals "_law_choice" = some (some (.ref f_l_choice)))
    (l_l_choice : K.lookup f_l_choice = some ⟨oc_l_choice, od_l_choice, .func (PySem.W.fnOf "_law_choice" "_law_choice" (defArgs s_l_choice) (defBody s_l_choice) (defScope s_l_choice) .none kV_l_choice dc_l_choice pm_l_choice an_l_choice cd_l_choice ct_l_choice), sl_l_choice⟩)
    (c_l_choice : PySem.W.codeIn K cd_l_choice "_law_choice" = true)
    (k_l_choice : PySem.W.keepIn K (.ref f_l_choice) = true)
    (a_l_at : PySem.W.nsIn K mainGlobals "_law_at" = some (some (.ref f_l_at)))
    (l_l_at : K.lookup f_l_at = some ⟨oc_l_at, od_l_at, .func (PySem.W.fnOf "_law_at" "_law_at" (defArgs s_l_at) (defBody s_l_at) (defScope s_l_at) .none kV_l_at dc_l_at pm_l_at an_l_at cd_l_at ct_l_at), sl_l_at⟩)
    (c_l_at : PySem.W.codeIn K cd_l_at "_law_at" = true)
    (k_l_at : PySem.W.keepIn K (.ref f_l_at) = true)
    (a_l_is_good : PySem.W.nsIn K mainGlobals "_law_is_good" = some (some (.ref f_l_is_good)))
    (l_l_is_good : K.lookup f_l_is_good = some ⟨oc_l_is_good, od_l_is_good, .func (PySem.W.fnOf "_law_is_good" "_law_is_good" (defArgs s_l_is_good) (defBody s_l_is_good) (defScope s_l_is_good) .none kV_l_is_good dc_l_is_good pm_l_is_good an_l_is_good cd_l_is_good ct_l_is_good), sl_l_is_good⟩)
    (c_l_is_good : PySem.W.codeIn K cd_l_is_good "_law_is_good" = true)
    (k_l_is_good : PySem.W.keepIn K (.ref f_l_is_good) = true)
    (a_l_rows : PySem.W.nsIn K mainGlobals "_law_rows" = some (some (.ref f_l_rows)))
    (l_l_rows : K.lookup f_l_rows = some ⟨oc_l_rows, od_l_rows, .func (PySem.W.fnOf "_law_rows" "_law_rows" (defArgs s_l_rows) (defBody s_l_rows) (defScope s_l_rows) .none kV_l_rows dc_l_rows pm_l_rows an_l_rows cd_l_rows ct_l_rows), sl_l_rows⟩)
    (c_l_rows : PySem.W.codeIn K cd_l_rows "_law_rows" = true)
    (k_l_rows : PySem.W.keepIn K (.ref f_l_rows) = true)
    (a_l_row : PySem.W.nsIn K mainGlobals "_law_row" = some (some (.ref f_l_row)))
    (l_l_row : K.lookup f_l_row = some ⟨oc_l_row, od_l_row, .func (PySem.W.fnOf "_law_row" "_law_row" (defArgs s_l_row) (defBody s_l_row) (defScope s_l_row) .none kV_l_row dc_l_row pm_l_row an_l_row cd_l_row ct_l_row), sl_l_row⟩)
    (c_l_row : PySem.W.codeIn K cd_l_row "_law_row" = true)
    (k_l_row : PySem.W.keepIn K (.ref f_l_row) = true)
    (a_l_room : PySem.W.nsIn K mainGlobals "_law_room" = some (some (.ref f_l_room)))
    (l_l_room : K.lookup f_l_room = some ⟨oc_l_room, od_l_room, .func (PySem.W.fnOf "_law_room" "_law_room" (defArgs s_l_room) (defBody s_l_room) (defScope s_l_room) .none kV_l_room dc_l_room pm_l_room an_l_room cd_l_room ct_l_room), sl_l_room⟩)
    (c_l_room : PySem.W.codeIn K cd_l_room "_law_room" = true)
    (k_l_room : PySem.W.keepIn K (.ref f_l_room) = true)
    (a_l_kept : PySem.W.nsIn K mainGlobals "_law_kept" = some (some (.ref f_l_kept)))
    (l_l_kept : K.lookup f_l_kept = some ⟨oc_l_kept, od_l_kept, .func (PySem.W.fnOf "_law_kept" "_law_kept" (defArgs s_l_kept) (defBody s_l_kept) (defScope s_l_kept) .none kV_l_kept dc_l_kept pm_l_kept an_l_kept cd_l_kept ct_l_kept), sl_l_kept⟩)
    (c_l_kept : PySem.W.codeIn K cd_l_kept "_law_kept" = true)
    (k_l_kept : PySem.W.keepIn K (.ref f_l_kept) = true)
    (a_l_sums : PySem.W.nsIn K mainGlobals "_law_sums" = some (some (.ref f_l_sums)))
    (l_l_sums : K.lookup f_l_sums = some ⟨oc_l_sums, od_l_sums, .func (PySem.W.fnOf "_law_sums" "_law_sums" (defArgs s_l_sums) (defBody s_l_sums) (defScope s_l_sums) .none kV_l_sums dc_l_sums pm_l_sums an_l_sums cd_l_sums ct_l_sums), sl_l_sums⟩)
    (c_l_sums : PySem.W.codeIn K cd_l_sums "_law_sums" = true)
    (k_l_sums : PySem.W.keepIn K (.ref f_l_sums) = true)
    (a_l_bad : PySem.W.nsIn K mainGlobals "_law_bad" = some (some (.ref f_l_bad)))
    (l_l_bad : K.lookup f_l_bad = some ⟨oc_l_bad, od_l_bad, .func (PySem.W.fnOf "_law_bad" "_law_bad" (defArgs s_l_bad) (defBody s_l_bad) (defScope s_l_bad) .none kV_l_bad dc_l_bad pm_l_bad an_l_bad cd_l_bad ct_l_bad), sl_l_bad⟩)
    (c_l_bad : PySem.W.codeIn K cd_l_bad "_law_bad" = true)
    (k_l_bad : PySem.W.keepIn K (.ref f_l_bad) = true)
    (a_l_refused : PySem.W.nsIn K mainGlobals "_law_refused" = some (some (.ref f_l_refused)))
    (l_l_refused : K.lookup f_l_refused = some ⟨oc_l_refused, od_l_refused, .func (PySem.W.fnOf "_law_refused" "_law_refused" (defArgs s_l_refused) (defBody s_l_refused) (defScope s_l_refused) .none kV_l_refused dc_l_refused pm_l_refused an_l_refused cd_l_refused ct_l_refused), sl_l_refused⟩)
    (c_l_refused : PySem.W.codeIn K cd_l_refused "_law_refused" = true)
    (k_l_refused : PySem.W.keepIn K (.ref f_l_refused) = true)
    (a_l_policed : PySem.W.nsIn K mainGlobals "_law_policed" = some (some (.ref f_l_policed)))
    (l_l_policed : K.lookup f_l_policed = some ⟨oc_l_policed, od_l_policed, .func (PySem.W.fnOf "_law_policed" "_law_policed" (defArgs s_l_policed) (defBody s_l_policed) (defScope s_l_policed) .none kV_l_policed dc_l_policed pm_l_policed an_l_policed cd_l_policed ct_l_policed), sl_l_policed⟩)
    (c_l_policed : PySem.W.codeIn K cd_l_policed "_law_policed" = true)
    (k_l_policed : PySem.W.keepIn K (.ref f_l_policed) = true)
    (a_l_long_right : PySem.W.nsIn K mainGlobals "_law_long_right" = some (some (.ref f_l_long_right)))
    (l_l_long_right : K.lookup f_l_long_right = some ⟨oc_l_long_right, od_l_long_right, .func (PySem.W.fnOf "_law_long_right" "_law_long_right" (defArgs s_l_long_right) (defBody s_l_long_right) (defScope s_l_long_right) .none kV_l_long_right dc_l_long_right pm_l_long_right an_l_long_right cd_l_long_right ct_l_long_right), sl_l_long_right⟩)
    (c_l_long_right : PySem.W.codeIn K cd_l_long_right "_law_long_right" = true)
    (k_l_long_right : PySem.W.keepIn K (.ref f_l_long_right) = true)
    (a_l_right : PySem.W.nsIn K mainGlobals "_law_right" = some (some (.ref f_l_right)))
    (l_l_right : K.lookup f_l_right = some ⟨oc_l_right, od_l_right, .func (PySem.W.fnOf "_law_right" "_law_right" (defArgs s_l_right) (defBody s_l_right) (defScope s_l_right) .none kV_l_right dc_l_right pm_l_right an_l_right cd_l_right ct_l_right), sl_l_right⟩)
    (c_l_right : PySem.W.codeIn K cd_l_right "_law_right" = true)
    (k_l_right : PySem.W.keepIn K (.ref f_l_right) = true)
    (a_law : PySem.W.nsIn K mainGlobals "law" = some (some (.ref f_law)))
    (l_law : K.lookup f_law = some ⟨oc_law, od_law, .func (PySem.W.fnOf "law" "law" (defArgs s_law) (defBody s_law) (defScope s_law) .none kV_law dc_law pm_law an_law cd_law ct_law), sl_law⟩)
    (c_law : PySem.W.codeIn K cd_law "law" = true)
    (k_law : PySem.W.keepIn K (.ref f_law) = true)
    (v_MAX_TICKS : PySem.W.nsIn K mainGlobals "MAX_TICKS" = some (some (.int 400 t_MAX_TICKS)))
    (v_MAX_VALUE : PySem.W.nsIn K mainGlobals "MAX_VALUE" = some (some (.int 2000 t_MAX_VALUE)))
    (v_MAX_VALUES : PySem.W.nsIn K mainGlobals "MAX_VALUES" = some (some (.int 24 t_MAX_VALUES)))
    (v_PERIODS : PySem.W.nsIn K mainGlobals "PERIODS" = some (some (.ref a_PERIODS)))
    (l_PERIODS : K.lookup a_PERIODS = some ⟨.type "tuple", od_PERIODS, .seq #[.int 1 uPERIODS0, .int 2 uPERIODS1, .int 3 uPERIODS2, .int 4 uPERIODS3, .int 6 uPERIODS4, .int 12 uPERIODS5] n_PERIODS, sl_PERIODS⟩)
    (z_RuntimeError : PySem.W.nsIn K mainGlobals "RuntimeError" = some none)
    (z_abs : PySem.W.nsIn K mainGlobals "abs" = some none)
    (z_all : PySem.W.nsIn K mainGlobals "all" = some none)
    (z_bool : PySem.W.nsIn K mainGlobals "bool" = some none)
    (z_divmod : PySem.W.nsIn K mainGlobals "divmod" = some none)
    (z_enumerate : PySem.W.nsIn K mainGlobals "enumerate" = some none)
    (z_int : PySem.W.nsIn K mainGlobals "int" = some none)
    (z_isinstance : PySem.W.nsIn K mainGlobals "isinstance" = some none)
    (z_len : PySem.W.nsIn K mainGlobals "len" = some none)
    (z_list : PySem.W.nsIn K mainGlobals "list" = some none)
    (z_max : PySem.W.nsIn K mainGlobals "max" = some none)
    (z_min : PySem.W.nsIn K mainGlobals "min" = some none)
    (z_range : PySem.W.nsIn K mainGlobals "range" = some none)
    (z_repr : PySem.W.nsIn K mainGlobals "repr" = some none)
    (z_reversed : PySem.W.nsIn K mainGlobals "reversed" = some none)
    (z_sum : PySem.W.nsIn K mainGlobals "sum" = some none)
    (z_zip : PySem.W.nsIn K mainGlobals "zip" = some none)
    : ∃ fd : FuncData, (∀ (s : Shared) (v : Value), BindsTo s fd ⟨[v], []⟩ [("_law_script", v)]) ∧ ∀ base : Heap, K.In base → base.Ns mainGlobals mg → VG.FnG l.prog w K mg base CX0 12 fa fd ["_law_script"] (spL K) := by
  have e := hfa.symm.trans (PySem.W.mg_of X G a_law)
  cases e
  let A : Ad := {
    DueError := C_DueError,
    InvalidCount := C_InvalidCount,
    InvalidRecord := C_InvalidRecord,
    NotGood := C_NotGood,
    Curve := C_Curve,
    Police := C_Police,
    f_NotGood_init := f_NotGood_init,
    d_NotGood_init := PySem.W.fnOf "__init__" "NotGood.__init__" (defArgs s_NotGood_init) (defBody s_NotGood_init) (defScope s_NotGood_init) .none kV_NotGood_init dc_NotGood_init pm_NotGood_init an_NotGood_init cd_NotGood_init ct_NotGood_init,
    f_is_integer := f_is_integer,
    d_is_integer := PySem.W.fnOf "is_integer" "is_integer" (defArgs s_is_integer) (defBody s_is_integer) (defScope s_is_integer) .none kV_is_integer dc_is_integer pm_is_integer an_is_integer cd_is_integer ct_is_integer,
    f_is_count := f_is_count,
    d_is_count := PySem.W.fnOf "is_count" "is_count" (defArgs s_is_count) (defBody s_is_count) (defScope s_is_count) .none kV_is_count dc_is_count pm_is_count an_is_count cd_is_count ct_is_count,
    f_is_count_to := f_is_count_to,
    d_is_count_to := PySem.W.fnOf "is_count_to" "is_count_to" (defArgs s_is_count_to) (defBody s_is_count_to) (defScope s_is_count_to) .none kV_is_count_to dc_is_count_to pm_is_count_to an_is_count_to cd_is_count_to ct_is_count_to,
    f_require_count := f_require_count,
    d_require_count := PySem.W.fnOf "require_count" "require_count" (defArgs s_require_count) (defBody s_require_count) (defScope s_require_count) .none kV_require_count dc_require_count pm_require_count an_require_count cd_require_count ct_require_count,
    f_require_count_to := f_require_count_to,
    d_require_count_to := PySem.W.fnOf "require_count_to" "require_count_to" (defArgs s_require_count_to) (defBody s_require_count_to) (defScope s_require_count_to) .none kV_require_count_to dc_require_count_to pm_require_count_to an_require_count_to cd_require_count_to ct_require_count_to,
    f_rounded_up := f_rounded_up,
    d_rounded_up := PySem.W.fnOf "rounded_up" "rounded_up" (defArgs s_rounded_up) (defBody s_rounded_up) (defScope s_rounded_up) .none kV_rounded_up dc_rounded_up pm_rounded_up an_rounded_up cd_rounded_up ct_rounded_up,
    f_value_at := f_value_at,
    d_value_at := PySem.W.fnOf "value_at" "value_at" (defArgs s_value_at) (defBody s_value_at) (defScope s_value_at) .none kV_value_at dc_value_at pm_value_at an_value_at cd_value_at ct_value_at,
    f_least_form := f_least_form,
    d_least_form := PySem.W.fnOf "least_form" "least_form" (defArgs s_least_form) (defBody s_least_form) (defScope s_least_form) .none kV_least_form dc_least_form pm_least_form an_least_form cd_least_form ct_least_form,
    f_least_period := f_least_period,
    d_least_period := PySem.W.fnOf "least_period" "least_period" (defArgs s_least_period) (defBody s_least_period) (defScope s_least_period) .none kV_least_period dc_least_period pm_least_period an_least_period cd_least_period ct_least_period,
    f_C_init := f_C_init,
    d_C_init := PySem.W.fnOf "__init__" "Curve.__init__" (defArgs s_C_init) (defBody s_C_init) (defScope s_C_init) .none (.ref D_C_init) dc_C_init pm_C_init an_C_init cd_C_init ct_C_init,
    f_C_at := f_C_at,
    d_C_at := PySem.W.fnOf "at" "Curve.at" (defArgs s_C_at) (defBody s_C_at) (defScope s_C_at) .none kV_C_at dc_C_at pm_C_at an_C_at cd_C_at ct_C_at,
    f_C_first_values := f_C_first_values,
    d_C_first_values := PySem.W.fnOf "first_values" "Curve.first_values" (defArgs s_C_first_values) (defBody s_C_first_values) (defScope s_C_first_values) .none kV_C_first_values dc_C_first_values pm_C_first_values an_C_first_values cd_C_first_values ct_C_first_values,
    f_first_break := f_first_break,
    d_first_break := PySem.W.fnOf "first_break" "first_break" (defArgs s_first_break) (defBody s_first_break) (defScope s_first_break) .none kV_first_break dc_first_break pm_first_break an_first_break cd_first_break ct_first_break,
    f_C_find_break := f_C_find_break,
    d_C_find_break := PySem.W.fnOf "find_break" "Curve.find_break" (defArgs s_C_find_break) (defBody s_C_find_break) (defScope s_C_find_break) .none kV_C_find_break dc_C_find_break pm_C_find_break an_C_find_break cd_C_find_break ct_C_find_break,
    f_require_good := f_require_good,
    d_require_good := PySem.W.fnOf "require_good" "require_good" (defArgs s_require_good) (defBody s_require_good) (defScope s_require_good) .none kV_require_good dc_require_good pm_require_good an_require_good cd_require_good ct_require_good,
    f_find_problem := f_find_problem,
    d_find_problem := PySem.W.fnOf "find_problem" "find_problem" (defArgs s_find_problem) (defBody s_find_problem) (defScope s_find_problem) .none kV_find_problem dc_find_problem pm_find_problem an_find_problem cd_find_problem ct_find_problem,
    f_keeps := f_keeps,
    d_keeps := PySem.W.fnOf "keeps" "keeps" (defArgs s_keeps) (defBody s_keeps) (defScope s_keeps) .none kV_keeps dc_keeps pm_keeps an_keeps cd_keeps ct_keeps,
    f_breach := f_breach,
    d_breach := PySem.W.fnOf "breach" "breach" (defArgs s_breach) (defBody s_breach) (defScope s_breach) .none kV_breach dc_breach pm_breach an_breach cd_breach ct_breach,
    f_greedy := f_greedy,
    d_greedy := PySem.W.fnOf "greedy" "greedy" (defArgs s_greedy) (defBody s_greedy) (defScope s_greedy) .none kV_greedy dc_greedy pm_greedy an_greedy cd_greedy ct_greedy,
    f_shaped := f_shaped,
    d_shaped := PySem.W.fnOf "shaped" "shaped" (defArgs s_shaped) (defBody s_shaped) (defScope s_shaped) .none kV_shaped dc_shaped pm_shaped an_shaped cd_shaped ct_shaped,
    f_require_record := f_require_record,
    d_require_record := PySem.W.fnOf "require_record" "require_record" (defArgs s_require_record) (defBody s_require_record) (defScope s_require_record) .none kV_require_record dc_require_record pm_require_record an_require_record cd_require_record ct_require_record,
    f_sums_before := f_sums_before,
    d_sums_before := PySem.W.fnOf "sums_before" "sums_before" (defArgs s_sums_before) (defBody s_sums_before) (defScope s_sums_before) .none kV_sums_before dc_sums_before pm_sums_before an_sums_before cd_sums_before ct_sums_before,
    f_window_sums := f_window_sums,
    d_window_sums := PySem.W.fnOf "window_sums" "window_sums" (defArgs s_window_sums) (defBody s_window_sums) (defScope s_window_sums) .none kV_window_sums dc_window_sums pm_window_sums an_window_sums cd_window_sums ct_window_sums,
    f_free_after := f_free_after,
    d_free_after := PySem.W.fnOf "free_after" "free_after" (defArgs s_free_after) (defBody s_free_after) (defScope s_free_after) .none kV_free_after dc_free_after pm_free_after an_free_after cd_free_after ct_free_after,
    f_P_init := f_P_init,
    d_P_init := PySem.W.fnOf "__init__" "Police.__init__" (defArgs s_P_init) (defBody s_P_init) (defScope s_P_init) .none (.ref D_P_init) dc_P_init pm_P_init an_P_init cd_P_init ct_P_init,
    f_P_step := f_P_step,
    d_P_step := PySem.W.fnOf "step" "Police.step" (defArgs s_P_step) (defBody s_P_step) (defScope s_P_step) .none (.ref D_P_step) dc_P_step pm_P_step an_P_step cd_P_step ct_P_step,
    f_P_record := f_P_record,
    d_P_record := PySem.W.fnOf "record" "Police.record" (defArgs s_P_record) (defBody s_P_record) (defScope s_P_record) .none kV_P_record dc_P_record pm_P_record an_P_record cd_P_record ct_P_record,
    f_l_rng := f_l_rng,
    d_l_rng := PySem.W.fnOf "_law_rng" "_law_rng" (defArgs s_l_rng) (defBody s_l_rng) (defScope s_l_rng) .none kV_l_rng dc_l_rng pm_l_rng an_l_rng cd_l_rng ct_l_rng,
    f_l_draw := f_l_draw,
    d_l_draw := PySem.W.fnOf "_law_draw" "_law_draw" (defArgs s_l_draw) (defBody s_l_draw) (defScope s_l_draw) .none kV_l_draw dc_l_draw pm_l_draw an_l_draw cd_l_draw ct_l_draw,
    f_l_choice := f_l_choice,
    d_l_choice := PySem.W.fnOf "_law_choice" "_law_choice" (defArgs s_l_choice) (defBody s_l_choice) (defScope s_l_choice) .none kV_l_choice dc_l_choice pm_l_choice an_l_choice cd_l_choice ct_l_choice,
    f_l_at := f_l_at,
    d_l_at := PySem.W.fnOf "_law_at" "_law_at" (defArgs s_l_at) (defBody s_l_at) (defScope s_l_at) .none kV_l_at dc_l_at pm_l_at an_l_at cd_l_at ct_l_at,
    f_l_is_good := f_l_is_good,
    d_l_is_good := PySem.W.fnOf "_law_is_good" "_law_is_good" (defArgs s_l_is_good) (defBody s_l_is_good) (defScope s_l_is_good) .none kV_l_is_good dc_l_is_good pm_l_is_good an_l_is_good cd_l_is_good ct_l_is_good,
    f_l_rows := f_l_rows,
    d_l_rows := PySem.W.fnOf "_law_rows" "_law_rows" (defArgs s_l_rows) (defBody s_l_rows) (defScope s_l_rows) .none kV_l_rows dc_l_rows pm_l_rows an_l_rows cd_l_rows ct_l_rows,
    f_l_row := f_l_row,
    d_l_row := PySem.W.fnOf "_law_row" "_law_row" (defArgs s_l_row) (defBody s_l_row) (defScope s_l_row) .none kV_l_row dc_l_row pm_l_row an_l_row cd_l_row ct_l_row,
    f_l_room := f_l_room,
    d_l_room := PySem.W.fnOf "_law_room" "_law_room" (defArgs s_l_room) (defBody s_l_room) (defScope s_l_room) .none kV_l_room dc_l_room pm_l_room an_l_room cd_l_room ct_l_room,
    f_l_kept := f_l_kept,
    d_l_kept := PySem.W.fnOf "_law_kept" "_law_kept" (defArgs s_l_kept) (defBody s_l_kept) (defScope s_l_kept) .none kV_l_kept dc_l_kept pm_l_kept an_l_kept cd_l_kept ct_l_kept,
    f_l_sums := f_l_sums,
    d_l_sums := PySem.W.fnOf "_law_sums" "_law_sums" (defArgs s_l_sums) (defBody s_l_sums) (defScope s_l_sums) .none kV_l_sums dc_l_sums pm_l_sums an_l_sums cd_l_sums ct_l_sums,
    f_l_bad := f_l_bad,
    d_l_bad := PySem.W.fnOf "_law_bad" "_law_bad" (defArgs s_l_bad) (defBody s_l_bad) (defScope s_l_bad) .none kV_l_bad dc_l_bad pm_l_bad an_l_bad cd_l_bad ct_l_bad,
    f_l_refused := f_l_refused,
    d_l_refused := PySem.W.fnOf "_law_refused" "_law_refused" (defArgs s_l_refused) (defBody s_l_refused) (defScope s_l_refused) .none kV_l_refused dc_l_refused pm_l_refused an_l_refused cd_l_refused ct_l_refused,
    f_l_policed := f_l_policed,
    d_l_policed := PySem.W.fnOf "_law_policed" "_law_policed" (defArgs s_l_policed) (defBody s_l_policed) (defScope s_l_policed) .none kV_l_policed dc_l_policed pm_l_policed an_l_policed cd_l_policed ct_l_policed,
    f_l_long_right := f_l_long_right,
    d_l_long_right := PySem.W.fnOf "_law_long_right" "_law_long_right" (defArgs s_l_long_right) (defBody s_l_long_right) (defScope s_l_long_right) .none kV_l_long_right dc_l_long_right pm_l_long_right an_l_long_right cd_l_long_right ct_l_long_right,
    f_l_right := f_l_right,
    d_l_right := PySem.W.fnOf "_law_right" "_law_right" (defArgs s_l_right) (defBody s_l_right) (defScope s_l_right) .none kV_l_right dc_l_right pm_l_right an_l_right cd_l_right ct_l_right,
    f_law := fa,
    d_law := PySem.W.fnOf "law" "law" (defArgs s_law) (defBody s_law) (defScope s_law) .none kV_law dc_law pm_law an_law cd_law ct_law,
    t_MAX_TICKS := t_MAX_TICKS,
    t_MAX_VALUE := t_MAX_VALUE,
    t_MAX_VALUES := t_MAX_VALUES,
    a_PERIODS := a_PERIODS }
  have T : Txt K mg A := {
    m_DueError := PySem.W.mg_of X G g_DueError,
    m_InvalidCount := PySem.W.mg_of X G g_InvalidCount,
    m_InvalidRecord := PySem.W.mg_of X G g_InvalidRecord,
    m_NotGood := PySem.W.mg_of X G g_NotGood,
    O_NotGood := ⟨⟨_, _, _, _, VX.bsR, xi_NotGood, xo_NotGood⟩, hd_NotGood, sa_NotGood, xe_NotGood, ty_NotGood, kc_NotGood⟩,
    xf_NotGood := ⟨ga_NotGood, gt_NotGood, xe_NotGood, hd_NotGood⟩,
    as_NotGood := ⟨VX.isC hd_NotGood, ga_NotGood, gt_NotGood, xe_NotGood, cc_NotGood, q_gn, q_tk, mr_NotGood⟩,
    ex_NotGood := PySem.W.exm_ref xe_NotGood hd_NotGood ty_NotGood xm_NotGood,
    n_NotGood_first := n_NotGood_first,
    n_NotGood_second := n_NotGood_second,
    kt_NotGood_RuntimeError := kt_NotGood_RuntimeError,
    kt_NotGood_DueError_InvalidCount_InvalidRecord := kt_NotGood_DueError_InvalidCount_InvalidRecord,
    m_Curve := PySem.W.mg_of X G g_Curve,
    cl := ⟨pg_Curve, hd_Curve, po_Curve, sa_Curve⟩,
    M_Curve := ⟨mk_Curve, a_C_init, i_C_init, kc_Curve⟩,
    n_values := n_Curve_values,
    n_period := n_Curve_period,
    n_gain := n_Curve_gain,
    n_was_searched := n_Curve_was_searched,
    n_break := n_Curve_break,
    m_Police := PySem.W.mg_of X G g_Police,
    clPolice := ⟨pg_Police, hd_Police, po_Police, sa_Police⟩,
    M_Police := ⟨mk_Police, a_P_init, i_P_init, kc_Police⟩,
    n_curve := n_Police_curve,
    n_queue := n_Police_queue,
    n_held := n_Police_held,
    n_returned := n_Police_returned,
    n_entered := n_Police_entered,
    n_was_closed := n_Police_was_closed,
    n_limits := n_Police_limits,
    F_NotGood_init := fun_mk (st := s_NotGood_init) l_NotGood_init c_NotGood_init k_NotGood_init,
    b_NotGood_init := ((fun_mk (st := s_NotGood_init) l_NotGood_init c_NotGood_init k_NotGood_init).binds (ps := ["self", "first", "second"]) fun _ _ _ _ _ _ us hl => match us, hl with | [_, _, _], _ => rfl),
    iC_NotGood := a_NotGood_init,
    tI_NotGood := tI_NotGood,
    F_is_integer := fun_mk (st := s_is_integer) l_is_integer c_is_integer k_is_integer,
    m_is_integer := PySem.W.mg_of X G a_is_integer,
    k_is_integer := k_is_integer,
    b_is_integer := ((fun_mk (st := s_is_integer) l_is_integer c_is_integer k_is_integer).binds (ps := ["value"]) fun _ _ _ _ _ _ us hl => match us, hl with | [_], _ => rfl),
    F_is_count := fun_mk (st := s_is_count) l_is_count c_is_count k_is_count,
    m_is_count := PySem.W.mg_of X G a_is_count,
    k_is_count := k_is_count,
    b_is_count := ((fun_mk (st := s_is_count) l_is_count c_is_count k_is_count).binds (ps := ["value"]) fun _ _ _ _ _ _ us hl => match us, hl with | [_], _ => rfl),
    F_is_count_to := fun_mk (st := s_is_count_to) l_is_count_to c_is_count_to k_is_count_to,
    m_is_count_to := PySem.W.mg_of X G a_is_count_to,
    k_is_count_to := k_is_count_to,
    b_is_count_to := ((fun_mk (st := s_is_count_to) l_is_count_to c_is_count_to k_is_count_to).binds (ps := ["value", "most"]) fun _ _ _ _ _ _ us hl => match us, hl with | [_, _], _ => rfl),
    F_require_count := fun_mk (st := s_require_count) l_require_count c_require_count k_require_count,
    m_require_count := PySem.W.mg_of X G a_require_count,
    k_require_count := k_require_count,
    b_require_count := ((fun_mk (st := s_require_count) l_require_count c_require_count k_require_count).binds (ps := ["value"]) fun _ _ _ _ _ _ us hl => match us, hl with | [_], _ => rfl),
    F_require_count_to := fun_mk (st := s_require_count_to) l_require_count_to c_require_count_to k_require_count_to,
    m_require_count_to := PySem.W.mg_of X G a_require_count_to,
    k_require_count_to := k_require_count_to,
    b_require_count_to := ((fun_mk (st := s_require_count_to) l_require_count_to c_require_count_to k_require_count_to).binds (ps := ["value", "most"]) fun _ _ _ _ _ _ us hl => match us, hl with | [_, _], _ => rfl),
    F_rounded_up := fun_mk (st := s_rounded_up) l_rounded_up c_rounded_up k_rounded_up,
    m_rounded_up := PySem.W.mg_of X G a_rounded_up,
    k_rounded_up := k_rounded_up,
    b_rounded_up := ((fun_mk (st := s_rounded_up) l_rounded_up c_rounded_up k_rounded_up).binds (ps := ["units", "parts"]) fun _ _ _ _ _ _ us hl => match us, hl with | [_, _], _ => rfl),
    F_value_at := fun_mk (st := s_value_at) l_value_at c_value_at k_value_at,
    m_value_at := PySem.W.mg_of X G a_value_at,
    k_value_at := k_value_at,
    b_value_at := ((fun_mk (st := s_value_at) l_value_at c_value_at k_value_at).binds (ps := ["values", "period", "gain", "length"]) fun _ _ _ _ _ _ us hl => match us, hl with | [_, _, _, _], _ => rfl),
    F_least_form := fun_mk (st := s_least_form) l_least_form c_least_form k_least_form,
    m_least_form := PySem.W.mg_of X G a_least_form,
    k_least_form := k_least_form,
    b_least_form := ((fun_mk (st := s_least_form) l_least_form c_least_form k_least_form).binds (ps := ["values", "period", "gain"]) fun _ _ _ _ _ _ us hl => match us, hl with | [_, _, _], _ => rfl),
    F_least_period := fun_mk (st := s_least_period) l_least_period c_least_period k_least_period,
    m_least_period := PySem.W.mg_of X G a_least_period,
    k_least_period := k_least_period,
    b_least_period := ((fun_mk (st := s_least_period) l_least_period c_least_period k_least_period).binds (ps := ["row", "many", "period"]) fun _ _ _ _ _ _ us hl => match us, hl with | [_, _, _], _ => rfl),
    F_C_init := ⟨⟨_, _, _, _, _, _, _, _, _, _, rfl, l_C_init, c_C_init, .inl ⟨rfl, rfl⟩, .inr ⟨D_C_init, rfl, by
      intro q hq
      simp only [List.mem_cons, List.not_mem_nil, or_false] at hq
      rcases hq with rfl | rfl
      · exact ⟨_, d_C_init_period, ⟨_, rfl⟩⟩
      · exact ⟨_, d_C_init_gain, ⟨_, rfl⟩⟩⟩⟩, k_C_init⟩,
    F_C_at := fun_mk (st := s_C_at) l_C_at c_C_at k_C_at,
    b_C_at := ((fun_mk (st := s_C_at) l_C_at c_C_at k_C_at).binds (ps := ["self", "length"]) fun _ _ _ _ _ _ us hl => match us, hl with | [_, _], _ => rfl),
    me_at := ⟨a_C_at, i_C_at, k_C_at⟩,
    F_C_first_values := fun_mk (st := s_C_first_values) l_C_first_values c_C_first_values k_C_first_values,
    b_C_first_values := ((fun_mk (st := s_C_first_values) l_C_first_values c_C_first_values k_C_first_values).binds (ps := ["self"]) fun _ _ _ _ _ _ us hl => match us, hl with | [_], _ => rfl),
    me_first_values := ⟨a_C_first_values, i_C_first_values, k_C_first_values⟩,
    F_first_break := fun_mk (st := s_first_break) l_first_break c_first_break k_first_break,
    m_first_break := PySem.W.mg_of X G a_first_break,
    k_first_break := k_first_break,
    b_first_break := ((fun_mk (st := s_first_break) l_first_break c_first_break k_first_break).binds (ps := ["curve"]) fun _ _ _ _ _ _ us hl => match us, hl with | [_], _ => rfl),
    F_C_find_break := fun_mk (st := s_C_find_break) l_C_find_break c_C_find_break k_C_find_break,
    b_C_find_break := ((fun_mk (st := s_C_find_break) l_C_find_break c_C_find_break k_C_find_break).binds (ps := ["self"]) fun _ _ _ _ _ _ us hl => match us, hl with | [_], _ => rfl),
    me_find_break := ⟨a_C_find_break, i_C_find_break, k_C_find_break⟩,
    F_require_good := fun_mk (st := s_require_good) l_require_good c_require_good k_require_good,
    m_require_good := PySem.W.mg_of X G a_require_good,
    k_require_good := k_require_good,
    b_require_good := ((fun_mk (st := s_require_good) l_require_good c_require_good k_require_good).binds (ps := ["curve"]) fun _ _ _ _ _ _ us hl => match us, hl with | [_], _ => rfl),
    F_find_problem := fun_mk (st := s_find_problem) l_find_problem c_find_problem k_find_problem,
    m_find_problem := PySem.W.mg_of X G a_find_problem,
    k_find_problem := k_find_problem,
    b_find_problem := ((fun_mk (st := s_find_problem) l_find_problem c_find_problem k_find_problem).binds (ps := ["values", "period", "gain"]) fun _ _ _ _ _ _ us hl => match us, hl with | [_, _, _], _ => rfl),
    F_keeps := fun_mk (st := s_keeps) l_keeps c_keeps k_keeps,
    m_keeps := PySem.W.mg_of X G a_keeps,
    k_keeps := k_keeps,
    b_keeps := ((fun_mk (st := s_keeps) l_keeps c_keeps k_keeps).binds (ps := ["record", "curve"]) fun _ _ _ _ _ _ us hl => match us, hl with | [_, _], _ => rfl),
    F_breach := fun_mk (st := s_breach) l_breach c_breach k_breach,
    m_breach := PySem.W.mg_of X G a_breach,
    k_breach := k_breach,
    b_breach := ((fun_mk (st := s_breach) l_breach c_breach k_breach).binds (ps := ["record", "curve"]) fun _ _ _ _ _ _ us hl => match us, hl with | [_, _], _ => rfl),
    F_greedy := fun_mk (st := s_greedy) l_greedy c_greedy k_greedy,
    m_greedy := PySem.W.mg_of X G a_greedy,
    k_greedy := k_greedy,
    b_greedy := ((fun_mk (st := s_greedy) l_greedy c_greedy k_greedy).binds (ps := ["curve", "ticks"]) fun _ _ _ _ _ _ us hl => match us, hl with | [_, _], _ => rfl),
    F_shaped := fun_mk (st := s_shaped) l_shaped c_shaped k_shaped,
    m_shaped := PySem.W.mg_of X G a_shaped,
    k_shaped := k_shaped,
    b_shaped := ((fun_mk (st := s_shaped) l_shaped c_shaped k_shaped).binds (ps := ["record", "curve"]) fun _ _ _ _ _ _ us hl => match us, hl with | [_, _], _ => rfl),
    F_require_record := fun_mk (st := s_require_record) l_require_record c_require_record k_require_record,
    m_require_record := PySem.W.mg_of X G a_require_record,
    k_require_record := k_require_record,
    b_require_record := ((fun_mk (st := s_require_record) l_require_record c_require_record k_require_record).binds (ps := ["record"]) fun _ _ _ _ _ _ us hl => match us, hl with | [_], _ => rfl),
    F_sums_before := fun_mk (st := s_sums_before) l_sums_before c_sums_before k_sums_before,
    m_sums_before := PySem.W.mg_of X G a_sums_before,
    k_sums_before := k_sums_before,
    b_sums_before := ((fun_mk (st := s_sums_before) l_sums_before c_sums_before k_sums_before).binds (ps := ["record"]) fun _ _ _ _ _ _ us hl => match us, hl with | [_], _ => rfl),
    F_window_sums := fun_mk (st := s_window_sums) l_window_sums c_window_sums k_window_sums,
    m_window_sums := PySem.W.mg_of X G a_window_sums,
    k_window_sums := k_window_sums,
    b_window_sums := ((fun_mk (st := s_window_sums) l_window_sums c_window_sums k_window_sums).binds (ps := ["sums", "length"]) fun _ _ _ _ _ _ us hl => match us, hl with | [_, _], _ => rfl),
    F_free_after := fun_mk (st := s_free_after) l_free_after c_free_after k_free_after,
    m_free_after := PySem.W.mg_of X G a_free_after,
    k_free_after := k_free_after,
    b_free_after := ((fun_mk (st := s_free_after) l_free_after c_free_after k_free_after).binds (ps := ["record", "limits"]) fun _ _ _ _ _ _ us hl => match us, hl with | [_, _], _ => rfl),
    F_P_init := ⟨⟨_, _, _, _, _, _, _, _, _, _, rfl, l_P_init, c_P_init, .inl ⟨rfl, rfl⟩, .inr ⟨D_P_init, rfl, by
      intro q hq
      simp only [List.mem_cons, List.not_mem_nil, or_false] at hq
      rcases hq with rfl
      · exact ⟨_, d_P_init_queue, ⟨_, rfl⟩⟩⟩⟩, k_P_init⟩,
    F_P_step := ⟨⟨_, _, _, _, _, _, _, _, _, _, rfl, l_P_step, c_P_step, .inl ⟨rfl, rfl⟩, .inr ⟨D_P_step, rfl, by
      intro q hq
      simp only [List.mem_cons, List.not_mem_nil, or_false] at hq
      rcases hq with rfl | rfl
      · exact ⟨_, d_P_step_leak, ⟨_, rfl⟩⟩
      · exact ⟨_, d_P_step_closed, rfl⟩⟩⟩, k_P_step⟩,
    me_step := ⟨a_P_step, i_P_step, k_P_step⟩,
    F_P_record := fun_mk (st := s_P_record) l_P_record c_P_record k_P_record,
    b_P_record := ((fun_mk (st := s_P_record) l_P_record c_P_record k_P_record).binds (ps := ["self"]) fun _ _ _ _ _ _ us hl => match us, hl with | [_], _ => rfl),
    me_record := ⟨a_P_record, i_P_record, k_P_record⟩,
    F_l_rng := fun_mk (st := s_l_rng) l_l_rng c_l_rng k_l_rng,
    m_l_rng := PySem.W.mg_of X G a_l_rng,
    k_l_rng := k_l_rng,
    b_l_rng := ((fun_mk (st := s_l_rng) l_l_rng c_l_rng k_l_rng).binds (ps := ["_law_script", "_law_k"]) fun _ _ _ _ _ _ us hl => match us, hl with | [_, _], _ => rfl),
    F_l_draw := fun_mk (st := s_l_draw) l_l_draw c_l_draw k_l_draw,
    m_l_draw := PySem.W.mg_of X G a_l_draw,
    k_l_draw := k_l_draw,
    b_l_draw := ((fun_mk (st := s_l_draw) l_l_draw c_l_draw k_l_draw).binds (ps := ["_law_rng_here", "_law_many"]) fun _ _ _ _ _ _ us hl => match us, hl with | [_, _], _ => rfl),
    F_l_choice := fun_mk (st := s_l_choice) l_l_choice c_l_choice k_l_choice,
    m_l_choice := PySem.W.mg_of X G a_l_choice,
    k_l_choice := k_l_choice,
    b_l_choice := ((fun_mk (st := s_l_choice) l_l_choice c_l_choice k_l_choice).binds (ps := ["_law_rng_here", "_law_some"]) fun _ _ _ _ _ _ us hl => match us, hl with | [_, _], _ => rfl),
    F_l_at := fun_mk (st := s_l_at) l_l_at c_l_at k_l_at,
    m_l_at := PySem.W.mg_of X G a_l_at,
    k_l_at := k_l_at,
    b_l_at := ((fun_mk (st := s_l_at) l_l_at c_l_at k_l_at).binds (ps := ["_law_row_here", "_law_size"]) fun _ _ _ _ _ _ us hl => match us, hl with | [_, _], _ => rfl),
    F_l_is_good := fun_mk (st := s_l_is_good) l_l_is_good c_l_is_good k_l_is_good,
    m_l_is_good := PySem.W.mg_of X G a_l_is_good,
    k_l_is_good := k_l_is_good,
    b_l_is_good := ((fun_mk (st := s_l_is_good) l_l_is_good c_l_is_good k_l_is_good).binds (ps := ["_law_row_here"]) fun _ _ _ _ _ _ us hl => match us, hl with | [_], _ => rfl),
    F_l_rows := fun_mk (st := s_l_rows) l_l_rows c_l_rows k_l_rows,
    m_l_rows := PySem.W.mg_of X G a_l_rows,
    k_l_rows := k_l_rows,
    b_l_rows := ((fun_mk (st := s_l_rows) l_l_rows c_l_rows k_l_rows).binds (ps := []) fun _ _ _ _ _ _ us hl => match us, hl with | [], _ => rfl),
    F_l_row := fun_mk (st := s_l_row) l_l_row c_l_row k_l_row,
    m_l_row := PySem.W.mg_of X G a_l_row,
    k_l_row := k_l_row,
    b_l_row := ((fun_mk (st := s_l_row) l_l_row c_l_row k_l_row).binds (ps := ["_law_rng_here"]) fun _ _ _ _ _ _ us hl => match us, hl with | [_], _ => rfl),
    F_l_room := fun_mk (st := s_l_room) l_l_room c_l_room k_l_room,
    m_l_room := PySem.W.mg_of X G a_l_room,
    k_l_room := k_l_room,
    b_l_room := ((fun_mk (st := s_l_room) l_l_room c_l_room k_l_room).binds (ps := ["_law_row_here", "_law_units"]) fun _ _ _ _ _ _ us hl => match us, hl with | [_, _], _ => rfl),
    F_l_kept := fun_mk (st := s_l_kept) l_l_kept c_l_kept k_l_kept,
    m_l_kept := PySem.W.mg_of X G a_l_kept,
    k_l_kept := k_l_kept,
    b_l_kept := ((fun_mk (st := s_l_kept) l_l_kept c_l_kept k_l_kept).binds (ps := ["_law_rng_here", "_law_row_here", "_law_span"]) fun _ _ _ _ _ _ us hl => match us, hl with | [_, _, _], _ => rfl),
    F_l_sums := fun_mk (st := s_l_sums) l_l_sums c_l_sums k_l_sums,
    m_l_sums := PySem.W.mg_of X G a_l_sums,
    k_l_sums := k_l_sums,
    b_l_sums := ((fun_mk (st := s_l_sums) l_l_sums c_l_sums k_l_sums).binds (ps := ["_law_units"]) fun _ _ _ _ _ _ us hl => match us, hl with | [_], _ => rfl),
    F_l_bad := fun_mk (st := s_l_bad) l_l_bad c_l_bad k_l_bad,
    m_l_bad := PySem.W.mg_of X G a_l_bad,
    k_l_bad := k_l_bad,
    b_l_bad := ((fun_mk (st := s_l_bad) l_l_bad c_l_bad k_l_bad).binds (ps := ["_law_rng_here"]) fun _ _ _ _ _ _ us hl => match us, hl with | [_], _ => rfl),
    F_l_refused := fun_mk (st := s_l_refused) l_l_refused c_l_refused k_l_refused,
    m_l_refused := PySem.W.mg_of X G a_l_refused,
    k_l_refused := k_l_refused,
    b_l_refused := ((fun_mk (st := s_l_refused) l_l_refused c_l_refused k_l_refused).binds (ps := ["_law_steps", "_law_span"]) fun _ _ _ _ _ _ us hl => match us, hl with | [_, _], _ => rfl),
    F_l_policed := fun_mk (st := s_l_policed) l_l_policed c_l_policed k_l_policed,
    m_l_policed := PySem.W.mg_of X G a_l_policed,
    k_l_policed := k_l_policed,
    b_l_policed := ((fun_mk (st := s_l_policed) l_l_policed c_l_policed k_l_policed).binds (ps := ["_law_line", "_law_span", "_law_flood"]) fun _ _ _ _ _ _ us hl => match us, hl with | [_, _, _], _ => rfl),
    F_l_long_right := fun_mk (st := s_l_long_right) l_l_long_right c_l_long_right k_l_long_right,
    m_l_long_right := PySem.W.mg_of X G a_l_long_right,
    k_l_long_right := k_l_long_right,
    b_l_long_right := ((fun_mk (st := s_l_long_right) l_l_long_right c_l_long_right k_l_long_right).binds (ps := ["_law_rng_here"]) fun _ _ _ _ _ _ us hl => match us, hl with | [_], _ => rfl),
    F_l_right := fun_mk (st := s_l_right) l_l_right c_l_right k_l_right,
    m_l_right := PySem.W.mg_of X G a_l_right,
    k_l_right := k_l_right,
    b_l_right := ((fun_mk (st := s_l_right) l_l_right c_l_right k_l_right).binds (ps := ["_law_rng_here"]) fun _ _ _ _ _ _ us hl => match us, hl with | [_], _ => rfl),
    F_law := fun_mk (st := s_law) l_law c_law k_law,
    m_law := PySem.W.mg_of X G a_law,
    k_law := k_law,
    b_law := ((fun_mk (st := s_law) l_law c_law k_law).binds (ps := ["_law_script"]) fun _ _ _ _ _ _ us hl => match us, hl with | [_], _ => rfl),
    v_MAX_TICKS := PySem.W.mg_of X G v_MAX_TICKS,
    v_MAX_VALUE := PySem.W.mg_of X G v_MAX_VALUE,
    v_MAX_VALUES := PySem.W.mg_of X G v_MAX_VALUES,
    v_PERIODS := PySem.W.mg_of X G v_PERIODS,
    periods := fun H => .inr ⟨_, _, _, l_PERIODS, rfl, rfl, (by rw [sizeLine_eq]; show 6 ≤ _; decide), (.cons ⟨_, rfl⟩ (.cons ⟨_, rfl⟩ (.cons ⟨_, rfl⟩ (.cons ⟨_, rfl⟩ (.cons ⟨_, rfl⟩ (.cons ⟨_, rfl⟩ .nil))))))⟩,
    RuntimeError := PySem.W.mg_none_of X G z_RuntimeError,
    abs := PySem.W.mg_none_of X G z_abs,
    all := PySem.W.mg_none_of X G z_all,
    bool := PySem.W.mg_none_of X G z_bool,
    divmod := PySem.W.mg_none_of X G z_divmod,
    enumerate := PySem.W.mg_none_of X G z_enumerate,
    int := PySem.W.mg_none_of X G z_int,
    isinstance := PySem.W.mg_none_of X G z_isinstance,
    len := PySem.W.mg_none_of X G z_len,
    list := PySem.W.mg_none_of X G z_list,
    max := PySem.W.mg_none_of X G z_max,
    min := PySem.W.mg_none_of X G z_min,
    range := PySem.W.mg_none_of X G z_range,
    repr := PySem.W.mg_none_of X G z_repr,
    reversed := PySem.W.mg_none_of X G z_reversed,
    sum := PySem.W.mg_none_of X G z_sum,
    zip := PySem.W.mg_none_of X G z_zip }
  exact ⟨_, fun s v => .of_eq rfl, fun base _ _ => ok_law (P := l.prog) (w := w) (base := base) T⟩
end VK

open PySem PySem.W PyProof.Rows in
set_option maxRecDepth 100000 in
set_option maxHeartbeats 0 in
theorem PySem.Challenge.cw_dueways_k23_whole_greedy_is_ahead_holds : PySem.Challenge.rw_dueways_k23_whole_greedy_is_ahead.Holds := by
  w_on; o_law; k_head; (case hw => w_witness2)
  k_fill
  refine VG.walkG (n := 63) (k := 12) (x := "_law_script") (CX := fun _ => L2.CX0) (sp := fun w => VK.spL _) rfl (by decide) rfl ⟨rfl, by decide, by decide⟩ (fun w h Y => PySem.W.kIn_of Y) ?F (fun _ _ a ns hl _ hS => ⟨a, ns, rfl, hS, hl, fun _ => rfl⟩) fun _ _ _ _ _ z => z
  case F =>
    intro w mg fa h KX G hmg
    refine' VK.all_mk KX G hmg ?g_DueError ?g_InvalidCount ?g_InvalidRecord ?g_NotGood ?xi_NotGood ?xo_NotGood ?hd_NotGood ?sa_NotGood ?xe_NotGood ?ty_NotGood ?kc_NotGood ?ga_NotGood ?gt_NotGood ?cc_NotGood ?mr_NotGood ?xm_NotGood ?n_NotGood_first ?n_NotGood_second ?q_gn ?q_tk ?kt_NotGood_RuntimeError ?kt_NotGood_DueError_InvalidCount_InvalidRecord ?g_Curve ?pg_Curve ?hd_Curve ?po_Curve ?sa_Curve ?mk_Curve ?kc_Curve ?n_Curve_values ?n_Curve_period ?n_Curve_gain ?n_Curve_was_searched ?n_Curve_break ?g_Police ?pg_Police ?hd_Police ?po_Police ?sa_Police ?mk_Police ?kc_Police ?n_Police_curve ?n_Police_queue ?n_Police_held ?n_Police_returned ?n_Police_entered ?n_Police_was_closed ?n_Police_limits ?a_NotGood_init ?i_NotGood_init ?l_NotGood_init ?c_NotGood_init ?k_NotGood_init ?tI_NotGood ?a_is_integer ?l_is_integer ?c_is_integer ?k_is_integer ?a_is_count ?l_is_count ?c_is_count ?k_is_count ?a_is_count_to ?l_is_count_to ?c_is_count_to ?k_is_count_to ?a_require_count ?l_require_count ?c_require_count ?k_require_count ?a_require_count_to ?l_require_count_to ?c_require_count_to ?k_require_count_to ?a_rounded_up ?l_rounded_up ?c_rounded_up ?k_rounded_up ?a_value_at ?l_value_at ?c_value_at ?k_value_at ?a_least_form ?l_least_form ?c_least_form ?k_least_form ?a_least_period ?l_least_period ?c_least_period ?k_least_period ?a_C_init ?i_C_init ?l_C_init ?c_C_init ?k_C_init ?d_C_init_period ?d_C_init_gain ?a_C_at ?i_C_at ?l_C_at ?c_C_at ?k_C_at ?a_C_first_values ?i_C_first_values ?l_C_first_values ?c_C_first_values ?k_C_first_values ?a_first_break ?l_first_break ?c_first_break ?k_first_break ?a_C_find_break ?i_C_find_break ?l_C_find_break ?c_C_find_break ?k_C_find_break ?a_require_good ?l_require_good ?c_require_good ?k_require_good ?a_find_problem ?l_find_problem ?c_find_problem ?k_find_problem ?a_keeps ?l_keeps ?c_keeps ?k_keeps ?a_breach ?l_breach ?c_breach ?k_breach ?a_greedy ?l_greedy ?c_greedy ?k_greedy ?a_shaped ?l_shaped ?c_shaped ?k_shaped ?a_require_record ?l_require_record ?c_require_record ?k_require_record ?a_sums_before ?l_sums_before ?c_sums_before ?k_sums_before ?a_window_sums ?l_window_sums ?c_window_sums ?k_window_sums ?a_free_after ?l_free_after ?c_free_after ?k_free_after ?a_P_init ?i_P_init ?l_P_init ?c_P_init ?k_P_init ?d_P_init_queue ?a_P_step ?i_P_step ?l_P_step ?c_P_step ?k_P_step ?d_P_step_leak ?d_P_step_closed ?a_P_record ?i_P_record ?l_P_record ?c_P_record ?k_P_record ?a_l_rng ?l_l_rng ?c_l_rng ?k_l_rng ?a_l_draw ?l_l_draw ?c_l_draw ?k_l_draw ?a_l_choice ?l_l_choice ?c_l_choice ?k_l_choice ?a_l_at ?l_l_at ?c_l_at ?k_l_at ?a_l_is_good ?l_l_is_good ?c_l_is_good ?k_l_is_good ?a_l_rows ?l_l_rows ?c_l_rows ?k_l_rows ?a_l_row ?l_l_row ?c_l_row ?k_l_row ?a_l_room ?l_l_room ?c_l_room ?k_l_room ?a_l_kept ?l_l_kept ?c_l_kept ?k_l_kept ?a_l_sums ?l_l_sums ?c_l_sums ?k_l_sums ?a_l_bad ?l_l_bad ?c_l_bad ?k_l_bad ?a_l_refused ?l_l_refused ?c_l_refused ?k_l_refused ?a_l_policed ?l_l_policed ?c_l_policed ?k_l_policed ?a_l_long_right ?l_l_long_right ?c_l_long_right ?k_l_long_right ?a_l_right ?l_l_right ?c_l_right ?k_l_right ?a_law ?l_law ?c_law ?k_law ?v_MAX_TICKS ?v_MAX_VALUE ?v_MAX_VALUES ?v_PERIODS ?l_PERIODS ?z_RuntimeError ?z_abs ?z_all ?z_bool ?z_divmod ?z_enumerate ?z_int ?z_isinstance ?z_len ?z_list ?z_max ?z_min ?z_range ?z_repr ?z_reversed ?z_sum ?z_zip
    (case g_DueError => k_is)
    (case g_InvalidCount => k_is)
    (case g_InvalidRecord => k_is)
    (case g_NotGood => k_is)
    (case xi_NotGood => kx_is)
    (case xo_NotGood => kx_is)
    (case hd_NotGood => k_is)
    (case sa_NotGood => k_is)
    (case xe_NotGood => k_is)
    (case ty_NotGood => k_is)
    (case kc_NotGood => k_is)
    (case ga_NotGood => k_is)
    (case gt_NotGood => k_is)
    (case cc_NotGood => k_is)
    (case mr_NotGood => k_is)
    (case xm_NotGood => k_is)
    (case n_NotGood_first => k_is)
    (case n_NotGood_second => k_is)
    (case q_gn => k_is)
    (case q_tk => k_is)
    (case kt_NotGood_RuntimeError => kit_is)
    (case kt_NotGood_DueError_InvalidCount_InvalidRecord => kit_is)
    (case g_Curve => k_is)
    (case pg_Curve => k_is)
    (case hd_Curve => k_is)
    (case po_Curve => k_is)
    (case sa_Curve => k_is)
    (case mk_Curve => k_is)
    (case kc_Curve => k_is)
    (case n_Curve_values => k_is)
    (case n_Curve_period => k_is)
    (case n_Curve_gain => k_is)
    (case n_Curve_was_searched => k_is)
    (case n_Curve_break => k_is)
    (case g_Police => k_is)
    (case pg_Police => k_is)
    (case hd_Police => k_is)
    (case po_Police => k_is)
    (case sa_Police => k_is)
    (case mk_Police => k_is)
    (case kc_Police => k_is)
    (case n_Police_curve => k_is)
    (case n_Police_queue => k_is)
    (case n_Police_held => k_is)
    (case n_Police_returned => k_is)
    (case n_Police_entered => k_is)
    (case n_Police_was_closed => k_is)
    (case n_Police_limits => k_is)
    (case a_NotGood_init => k_is)
    (case i_NotGood_init => k_is)
    (case l_NotGood_init => k_is)
    (case c_NotGood_init => k_is)
    (case k_NotGood_init => k_is)
    (case tI_NotGood => k_is)
    (case a_is_integer => k_is)
    (case l_is_integer => k_is)
    (case c_is_integer => k_is)
    (case k_is_integer => k_is)
    (case a_is_count => k_is)
    (case l_is_count => k_is)
    (case c_is_count => k_is)
    (case k_is_count => k_is)
    (case a_is_count_to => k_is)
    (case l_is_count_to => k_is)
    (case c_is_count_to => k_is)
    (case k_is_count_to => k_is)
    (case a_require_count => k_is)
    (case l_require_count => k_is)
    (case c_require_count => k_is)
    (case k_require_count => k_is)
    (case a_require_count_to => k_is)
    (case l_require_count_to => k_is)
    (case c_require_count_to => k_is)
    (case k_require_count_to => k_is)
    (case a_rounded_up => k_is)
    (case l_rounded_up => k_is)
    (case c_rounded_up => k_is)
    (case k_rounded_up => k_is)
    (case a_value_at => k_is)
    (case l_value_at => k_is)
    (case c_value_at => k_is)
    (case k_value_at => k_is)
    (case a_least_form => k_is)
    (case l_least_form => k_is)
    (case c_least_form => k_is)
    (case k_least_form => k_is)
    (case a_least_period => k_is)
    (case l_least_period => k_is)
    (case c_least_period => k_is)
    (case k_least_period => k_is)
    (case a_C_init => k_is)
    (case i_C_init => k_is)
    (case l_C_init => k_is)
    (case c_C_init => k_is)
    (case k_C_init => k_is)
    (case d_C_init_period => k_is)
    (case d_C_init_gain => k_is)
    (case a_C_at => k_is)
    (case i_C_at => k_is)
    (case l_C_at => k_is)
    (case c_C_at => k_is)
    (case k_C_at => k_is)
    (case a_C_first_values => k_is)
    (case i_C_first_values => k_is)
    (case l_C_first_values => k_is)
    (case c_C_first_values => k_is)
    (case k_C_first_values => k_is)
    (case a_first_break => k_is)
    (case l_first_break => k_is)
    (case c_first_break => k_is)
    (case k_first_break => k_is)
    (case a_C_find_break => k_is)
    (case i_C_find_break => k_is)
    (case l_C_find_break => k_is)
    (case c_C_find_break => k_is)
    (case k_C_find_break => k_is)
    (case a_require_good => k_is)
    (case l_require_good => k_is)
    (case c_require_good => k_is)
    (case k_require_good => k_is)
    (case a_find_problem => k_is)
    (case l_find_problem => k_is)
    (case c_find_problem => k_is)
    (case k_find_problem => k_is)
    (case a_keeps => k_is)
    (case l_keeps => k_is)
    (case c_keeps => k_is)
    (case k_keeps => k_is)
    (case a_breach => k_is)
    (case l_breach => k_is)
    (case c_breach => k_is)
    (case k_breach => k_is)
    (case a_greedy => k_is)
    (case l_greedy => k_is)
    (case c_greedy => k_is)
    (case k_greedy => k_is)
    (case a_shaped => k_is)
    (case l_shaped => k_is)
    (case c_shaped => k_is)
    (case k_shaped => k_is)
    (case a_require_record => k_is)
    (case l_require_record => k_is)
    (case c_require_record => k_is)
    (case k_require_record => k_is)
    (case a_sums_before => k_is)
    (case l_sums_before => k_is)
    (case c_sums_before => k_is)
    (case k_sums_before => k_is)
    (case a_window_sums => k_is)
    (case l_window_sums => k_is)
    (case c_window_sums => k_is)
    (case k_window_sums => k_is)
    (case a_free_after => k_is)
    (case l_free_after => k_is)
    (case c_free_after => k_is)
    (case k_free_after => k_is)
    (case a_P_init => k_is)
    (case i_P_init => k_is)
    (case l_P_init => k_is)
    (case c_P_init => k_is)
    (case k_P_init => k_is)
    (case d_P_init_queue => k_is)
    (case a_P_step => k_is)
    (case i_P_step => k_is)
    (case l_P_step => k_is)
    (case c_P_step => k_is)
    (case k_P_step => k_is)
    (case d_P_step_leak => k_is)
    (case d_P_step_closed => k_is)
    (case a_P_record => k_is)
    (case i_P_record => k_is)
    (case l_P_record => k_is)
    (case c_P_record => k_is)
    (case k_P_record => k_is)
    (case a_l_rng => k_is)
    (case l_l_rng => k_is)
    (case c_l_rng => k_is)
    (case k_l_rng => k_is)
    (case a_l_draw => k_is)
    (case l_l_draw => k_is)
    (case c_l_draw => k_is)
    (case k_l_draw => k_is)
    (case a_l_choice => k_is)
    (case l_l_choice => k_is)
    (case c_l_choice => k_is)
    (case k_l_choice => k_is)
    (case a_l_at => k_is)
    (case l_l_at => k_is)
    (case c_l_at => k_is)
    (case k_l_at => k_is)
    (case a_l_is_good => k_is)
    (case l_l_is_good => k_is)
    (case c_l_is_good => k_is)
    (case k_l_is_good => k_is)
    (case a_l_rows => k_is)
    (case l_l_rows => k_is)
    (case c_l_rows => k_is)
    (case k_l_rows => k_is)
    (case a_l_row => k_is)
    (case l_l_row => k_is)
    (case c_l_row => k_is)
    (case k_l_row => k_is)
    (case a_l_room => k_is)
    (case l_l_room => k_is)
    (case c_l_room => k_is)
    (case k_l_room => k_is)
    (case a_l_kept => k_is)
    (case l_l_kept => k_is)
    (case c_l_kept => k_is)
    (case k_l_kept => k_is)
    (case a_l_sums => k_is)
    (case l_l_sums => k_is)
    (case c_l_sums => k_is)
    (case k_l_sums => k_is)
    (case a_l_bad => k_is)
    (case l_l_bad => k_is)
    (case c_l_bad => k_is)
    (case k_l_bad => k_is)
    (case a_l_refused => k_is)
    (case l_l_refused => k_is)
    (case c_l_refused => k_is)
    (case k_l_refused => k_is)
    (case a_l_policed => k_is)
    (case l_l_policed => k_is)
    (case c_l_policed => k_is)
    (case k_l_policed => k_is)
    (case a_l_long_right => k_is)
    (case l_l_long_right => k_is)
    (case c_l_long_right => k_is)
    (case k_l_long_right => k_is)
    (case a_l_right => k_is)
    (case l_l_right => k_is)
    (case c_l_right => k_is)
    (case k_l_right => k_is)
    (case a_law => k_is)
    (case l_law => k_is)
    (case c_law => k_is)
    (case k_law => k_is)
    (case v_MAX_TICKS => k_is)
    (case v_MAX_VALUE => k_is)
    (case v_MAX_VALUES => k_is)
    (case v_PERIODS => k_is)
    (case l_PERIODS => k_is)
    (case z_RuntimeError => k_is)
    (case z_abs => k_is)
    (case z_all => k_is)
    (case z_bool => k_is)
    (case z_divmod => k_is)
    (case z_enumerate => k_is)
    (case z_int => k_is)
    (case z_isinstance => k_is)
    (case z_len => k_is)
    (case z_list => k_is)
    (case z_max => k_is)
    (case z_min => k_is)
    (case z_range => k_is)
    (case z_repr => k_is)
    (case z_reversed => k_is)
    (case z_sum => k_is)
    (case z_zip => k_is)


